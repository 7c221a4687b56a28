/- Contracts: the least amount above two. -/
import Derived.Test.YtbddgdicnonadaaDoorAcov
namespace Go.Proofs.YtbddgdicnonadaaDoor
open Go.RowKit
set_option linter.unusedSimpArgs false
set_option linter.unusedVariables false

set_option maxHeartbeats 1000000 in
theorem join_bad1 (s : ByteArray) (k u h m n p q : Int) (w : World) (h1 : Hid (per k u m n = false)) : Calls Tryd.prog 20 #[ra s k u h, aa m n, aa p q] w fun e w' => e = .returned (aa 0 0) ∧ Below w.heap.size w w' := by
  go_enter Tryd.func20, Tryd.ntmps20
  go_wp2_with (first
    | (go_at_call 32; refine (permitted_is _ _ _ _ _ _ _ h1).mono ?_; rintro e W1 ⟨rfl, hb1⟩; obtain ⟨hc1, hf1⟩ := bcell hb1; have hz1 := hb1.size; simp at hz1))
  exact bodyPost_ret (v := aa 0 0) (by simp [results, Tryd.results20, go_sem, hc1]) rfl ⟨rfl, ((dn4 hb1).setCell (by simp; omega) _).setCell (by simp; omega) _⟩
set_option maxHeartbeats 1000000 in
theorem join_bad2 (s : ByteArray) (k u h m n p q : Int) (w : World) (h1 : Hid (per k u m n = true)) (h2 : Hid (per k u p q = false)) : Calls Tryd.prog 20 #[ra s k u h, aa m n, aa p q] w fun e w' => e = .returned (aa 0 0) ∧ Below w.heap.size w w' := by
  go_enter Tryd.func20, Tryd.ntmps20
  go_wp2_with (first
    | (have _g := hb1; clear _g; go_at_call 32; refine (permitted_is _ _ _ _ _ _ _ h2).mono ?_; rintro e W2 ⟨rfl, hb2⟩; have hb2 := nx hb1 hb2; clear hc1 hf1 hz1; obtain ⟨hc2, hf2⟩ := bcell hb2; have hz2 := hb2.size; simp at hz2)
    | (go_at_call 32; refine (permitted_is _ _ _ _ _ _ _ h1).mono ?_; rintro e W1 ⟨rfl, hb1⟩; obtain ⟨hc1, hf1⟩ := bcell hb1; have hz1 := hb1.size; simp at hz1))
  exact bodyPost_ret (v := aa 0 0) (by simp [results, Tryd.results20, go_sem, hc2]) rfl ⟨rfl, ((dn4 hb2).setCell (by simp; omega) _).setCell (by simp; omega) _⟩
set_option maxHeartbeats 1000000 in
theorem join_z1 (s : ByteArray) (k u h m n p q : Int) (w : World) (h1 : Hid (per k u m n = true)) (h2 : Hid (per k u p q = true)) (z1 : Hid (zer m n = true)) : Calls Tryd.prog 20 #[ra s k u h, aa m n, aa p q] w fun e w' => e = .returned (aa p q) ∧ Below w.heap.size w w' := by
  go_enter Tryd.func20, Tryd.ntmps20
  go_wp2_with (first
    | (have _g := hb2; clear _g; go_at_call 15; refine (zero_is _ _ _ z1).mono ?_; rintro e W3 ⟨rfl, hb3⟩; have hb3 := nx hb2 hb3; clear hc2 hf2 hz2; obtain ⟨hc3, hf3⟩ := bcell hb3; have hz3 := hb3.size; simp at hz3)
    | (have _g := hb1; clear _g; go_at_call 32; refine (permitted_is _ _ _ _ _ _ _ h2).mono ?_; rintro e W2 ⟨rfl, hb2⟩; have hb2 := nx hb1 hb2; clear hc1 hf1 hz1; obtain ⟨hc2, hf2⟩ := bcell hb2; have hz2 := hb2.size; simp at hz2)
    | (go_at_call 32; refine (permitted_is _ _ _ _ _ _ _ h1).mono ?_; rintro e W1 ⟨rfl, hb1⟩; obtain ⟨hc1, hf1⟩ := bcell hb1; have hz1 := hb1.size; simp at hz1))
  exact bodyPost_ret (v := aa p q) (by simp [results, Tryd.results20, go_sem, hc3]) rfl ⟨rfl, ((dn4 hb3).setCell (by simp; omega) _).setCell (by simp; omega) _⟩
set_option maxHeartbeats 1000000 in
theorem join_z2 (s : ByteArray) (k u h m n p q : Int) (w : World) (h1 : Hid (per k u m n = true)) (h2 : Hid (per k u p q = true)) (z1 : Hid (zer m n = false)) (z2 : Hid (zer p q = true)) : Calls Tryd.prog 20 #[ra s k u h, aa m n, aa p q] w fun e w' => e = .returned (aa m n) ∧ Below w.heap.size w w' := by
  go_enter Tryd.func20, Tryd.ntmps20
  go_wp2_with (first
    | (have _g := hb3; clear _g; go_at_call 15; refine (zero_is _ _ _ z2).mono ?_; rintro e W4 ⟨rfl, hb4⟩; have hb4 := nx hb3 hb4; clear hc3 hf3 hz3; obtain ⟨hc4, hf4⟩ := bcell hb4; have hz4 := hb4.size; simp at hz4)
    | (have _g := hb2; clear _g; go_at_call 15; refine (zero_is _ _ _ z1).mono ?_; rintro e W3 ⟨rfl, hb3⟩; have hb3 := nx hb2 hb3; clear hc2 hf2 hz2; obtain ⟨hc3, hf3⟩ := bcell hb3; have hz3 := hb3.size; simp at hz3)
    | (have _g := hb1; clear _g; go_at_call 32; refine (permitted_is _ _ _ _ _ _ _ h2).mono ?_; rintro e W2 ⟨rfl, hb2⟩; have hb2 := nx hb1 hb2; clear hc1 hf1 hz1; obtain ⟨hc2, hf2⟩ := bcell hb2; have hz2 := hb2.size; simp at hz2)
    | (go_at_call 32; refine (permitted_is _ _ _ _ _ _ _ h1).mono ?_; rintro e W1 ⟨rfl, hb1⟩; obtain ⟨hc1, hf1⟩ := bcell hb1; have hz1 := hb1.size; simp at hz1))
  exact bodyPost_ret (v := aa m n) (by simp [results, Tryd.results20, go_sem, hc4]) rfl ⟨rfl, ((dn4 hb4).setCell (by simp; omega) _).setCell (by simp; omega) _⟩
set_option maxHeartbeats 1000000 in
theorem join_lock (s : ByteArray) (k u h m n p q : Int) (w : World) (h1 : Hid (per k u m n = true)) (h2 : Hid (per k u p q = true)) (z1 : Hid (zer m n = false)) (z2 : Hid (zer p q = false)) (hk : k = 1) : Calls Tryd.prog 20 #[ra s k u h, aa m n, aa p q] w fun e w' => e = .returned (aa (sup m p) 0) ∧ Below w.heap.size w w' := by
  subst hk
  go_enter Tryd.func20, Tryd.ntmps20
  go_wp2_with (first
    | (have _g := hb3; clear _g; go_at_call 15; refine (zero_is _ _ _ z2).mono ?_; rintro e W4 ⟨rfl, hb4⟩; have hb4 := nx hb3 hb4; clear hc3 hf3 hz3; obtain ⟨hc4, hf4⟩ := bcell hb4; have hz4 := hb4.size; simp at hz4)
    | (have _g := hb2; clear _g; go_at_call 15; refine (zero_is _ _ _ z1).mono ?_; rintro e W3 ⟨rfl, hb3⟩; have hb3 := nx hb2 hb3; clear hc2 hf2 hz2; obtain ⟨hc3, hf3⟩ := bcell hb3; have hz3 := hb3.size; simp at hz3)
    | (have _g := hb1; clear _g; go_at_call 32; refine (permitted_is _ _ _ _ _ _ _ h2).mono ?_; rintro e W2 ⟨rfl, hb2⟩; have hb2 := nx hb1 hb2; clear hc1 hf1 hz1; obtain ⟨hc2, hf2⟩ := bcell hb2; have hz2 := hb2.size; simp at hz2)
    | (go_at_call 32; refine (permitted_is _ _ _ _ _ _ _ h1).mono ?_; rintro e W1 ⟨rfl, hb1⟩; obtain ⟨hc1, hf1⟩ := bcell hb1; have hz1 := hb1.size; simp at hz1)
    | (go_at_call 36; refine (sup_any _ _ _).mono ?_; rintro e W5 ⟨rfl, rfl⟩))
  exact bodyPost_ret (v := aa (sup m p) 0) (by simp [results, Tryd.results20, go_sem, hc4]) rfl ⟨rfl, ((dn4 hb4).setCell (by simp; omega) _).setCell (by simp; omega) _⟩
set_option maxHeartbeats 1000000 in
theorem join_pool (s : ByteArray) (k u h m n p q : Int) (w : World) (h1 : Hid (per k u m n = true)) (h2 : Hid (per k u p q = true)) (z1 : Hid (zer m n = false)) (z2 : Hid (zer p q = false)) (hk : k = 2) : Calls Tryd.prog 20 #[ra s k u h, aa m n, aa p q] w fun e w' => e = .returned (aa 0 (max n q)) ∧ Below w.heap.size w w' := by
  subst hk
  go_enter Tryd.func20, Tryd.ntmps20
  go_wp2_with (first
    | (have _g := hb3; clear _g; go_at_call 15; refine (zero_is _ _ _ z2).mono ?_; rintro e W4 ⟨rfl, hb4⟩; have hb4 := nx hb3 hb4; clear hc3 hf3 hz3; obtain ⟨hc4, hf4⟩ := bcell hb4; have hz4 := hb4.size; simp at hz4)
    | (have _g := hb2; clear _g; go_at_call 15; refine (zero_is _ _ _ z1).mono ?_; rintro e W3 ⟨rfl, hb3⟩; have hb3 := nx hb2 hb3; clear hc2 hf2 hz2; obtain ⟨hc3, hf3⟩ := bcell hb3; have hz3 := hb3.size; simp at hz3)
    | (have _g := hb1; clear _g; go_at_call 32; refine (permitted_is _ _ _ _ _ _ _ h2).mono ?_; rintro e W2 ⟨rfl, hb2⟩; have hb2 := nx hb1 hb2; clear hc1 hf1 hz1; obtain ⟨hc2, hf2⟩ := bcell hb2; have hz2 := hb2.size; simp at hz2)
    | (go_at_call 32; refine (permitted_is _ _ _ _ _ _ _ h1).mono ?_; rintro e W1 ⟨rfl, hb1⟩; obtain ⟨hc1, hf1⟩ := bcell hb1; have hz1 := hb1.size; simp at hz1))
  all_goals exact bodyPost_ret (v := aa 0 (max n q)) (by simp [results, Tryd.results20, go_sem, hc4]; omega) rfl ⟨rfl, ((dn4 hb4).setCell (by simp; omega) _).setCell (by simp; omega) _⟩
set_option maxHeartbeats 1000000 in
theorem refJoin_bad1 (s : ByteArray) (k u h m n p q : Int) (w : World) (h1 : Hid (per k u m n = false)) : Calls Tryd.prog 21 #[ra s k u h, aa m n, aa p q] w fun e w' => e = .returned (aa 0 0) ∧ Below w.heap.size w w' := by
  go_enter Tryd.func21, Tryd.ntmps21
  go_wp2_with (first
    | (go_at_call 22; refine (refPermitted_is _ _ _ _ _ _ _ h1).mono ?_; rintro e W1 ⟨rfl, hb1⟩; obtain ⟨hc1, hf1⟩ := bcell hb1; have hz1 := hb1.size; simp at hz1))
  exact bodyPost_ret (v := aa 0 0) (by simp [results, Tryd.results21, go_sem, hc1]) rfl ⟨rfl, ((dn4 hb1).setCell (by simp; omega) _).setCell (by simp; omega) _⟩
set_option maxHeartbeats 1000000 in
theorem refJoin_bad2 (s : ByteArray) (k u h m n p q : Int) (w : World) (h1 : Hid (per k u m n = true)) (h2 : Hid (per k u p q = false)) : Calls Tryd.prog 21 #[ra s k u h, aa m n, aa p q] w fun e w' => e = .returned (aa 0 0) ∧ Below w.heap.size w w' := by
  go_enter Tryd.func21, Tryd.ntmps21
  go_wp2_with (first
    | (have _g := hb1; clear _g; go_at_call 22; refine (refPermitted_is _ _ _ _ _ _ _ h2).mono ?_; rintro e W2 ⟨rfl, hb2⟩; have hb2 := nx hb1 hb2; clear hc1 hf1 hz1; obtain ⟨hc2, hf2⟩ := bcell hb2; have hz2 := hb2.size; simp at hz2)
    | (go_at_call 22; refine (refPermitted_is _ _ _ _ _ _ _ h1).mono ?_; rintro e W1 ⟨rfl, hb1⟩; obtain ⟨hc1, hf1⟩ := bcell hb1; have hz1 := hb1.size; simp at hz1))
  exact bodyPost_ret (v := aa 0 0) (by simp [results, Tryd.results21, go_sem, hc2]) rfl ⟨rfl, ((dn4 hb2).setCell (by simp; omega) _).setCell (by simp; omega) _⟩
set_option maxHeartbeats 1000000 in
theorem refJoin_c1 (s : ByteArray) (k u h m n p q : Int) (w : World) (h1 : Hid (per k u m n = true)) (h2 : Hid (per k u p q = true)) (c1 : Hid (cvr k u m n p q = true)) : Calls Tryd.prog 21 #[ra s k u h, aa m n, aa p q] w fun e w' => e = .returned (aa m n) ∧ Below w.heap.size w w' := by
  go_enter Tryd.func21, Tryd.ntmps21
  go_wp2_with (first
    | (have _g := hb2; clear _g; go_at_call 19; refine (refAmCovers_is _ _ _ _ _ _ _ _ _ c1).mono ?_; rintro e W3 ⟨rfl, hb3⟩; have hb3 := nx hb2 hb3; clear hc2 hf2 hz2; obtain ⟨hc3, hf3⟩ := bcell hb3; have hz3 := hb3.size; simp at hz3)
    | (have _g := hb1; clear _g; go_at_call 22; refine (refPermitted_is _ _ _ _ _ _ _ h2).mono ?_; rintro e W2 ⟨rfl, hb2⟩; have hb2 := nx hb1 hb2; clear hc1 hf1 hz1; obtain ⟨hc2, hf2⟩ := bcell hb2; have hz2 := hb2.size; simp at hz2)
    | (go_at_call 22; refine (refPermitted_is _ _ _ _ _ _ _ h1).mono ?_; rintro e W1 ⟨rfl, hb1⟩; obtain ⟨hc1, hf1⟩ := bcell hb1; have hz1 := hb1.size; simp at hz1))
  exact bodyPost_ret (v := aa m n) (by simp [results, Tryd.results21, go_sem, hc3]) rfl ⟨rfl, ((dn4 hb3).setCell (by simp; omega) _).setCell (by simp; omega) _⟩
set_option maxHeartbeats 1000000 in
theorem refJoin_c2 (s : ByteArray) (k u h m n p q : Int) (w : World) (h1 : Hid (per k u m n = true)) (h2 : Hid (per k u p q = true)) (c1 : Hid (cvr k u m n p q = false)) (c2 : Hid (cvr k u p q m n = true)) : Calls Tryd.prog 21 #[ra s k u h, aa m n, aa p q] w fun e w' => e = .returned (aa p q) ∧ Below w.heap.size w w' := by
  go_enter Tryd.func21, Tryd.ntmps21
  go_wp2_with (first
    | (have _g := hb3; clear _g; go_at_call 19; refine (refAmCovers_is _ _ _ _ _ _ _ _ _ c2).mono ?_; rintro e W4 ⟨rfl, hb4⟩; have hb4 := nx hb3 hb4; clear hc3 hf3 hz3; obtain ⟨hc4, hf4⟩ := bcell hb4; have hz4 := hb4.size; simp at hz4)
    | (have _g := hb2; clear _g; go_at_call 19; refine (refAmCovers_is _ _ _ _ _ _ _ _ _ c1).mono ?_; rintro e W3 ⟨rfl, hb3⟩; have hb3 := nx hb2 hb3; clear hc2 hf2 hz2; obtain ⟨hc3, hf3⟩ := bcell hb3; have hz3 := hb3.size; simp at hz3)
    | (have _g := hb1; clear _g; go_at_call 22; refine (refPermitted_is _ _ _ _ _ _ _ h2).mono ?_; rintro e W2 ⟨rfl, hb2⟩; have hb2 := nx hb1 hb2; clear hc1 hf1 hz1; obtain ⟨hc2, hf2⟩ := bcell hb2; have hz2 := hb2.size; simp at hz2)
    | (go_at_call 22; refine (refPermitted_is _ _ _ _ _ _ _ h1).mono ?_; rintro e W1 ⟨rfl, hb1⟩; obtain ⟨hc1, hf1⟩ := bcell hb1; have hz1 := hb1.size; simp at hz1))
  exact bodyPost_ret (v := aa p q) (by simp [results, Tryd.results21, go_sem, hc4]) rfl ⟨rfl, ((dn4 hb4).setCell (by simp; omega) _).setCell (by simp; omega) _⟩
set_option maxHeartbeats 1000000 in
theorem refJoin_no (s : ByteArray) (k u h m n p q : Int) (w : World) (h1 : Hid (per k u m n = true)) (h2 : Hid (per k u p q = true)) (c1 : Hid (cvr k u m n p q = false)) (c2 : Hid (cvr k u p q m n = false)) : Calls Tryd.prog 21 #[ra s k u h, aa m n, aa p q] w fun e w' => e = .returned (aa (sup m p) 0) ∧ Below w.heap.size w w' := by
  go_enter Tryd.func21, Tryd.ntmps21
  go_wp2_with (first
    | (have _g := hb3; clear _g; go_at_call 19; refine (refAmCovers_is _ _ _ _ _ _ _ _ _ c2).mono ?_; rintro e W4 ⟨rfl, hb4⟩; have hb4 := nx hb3 hb4; clear hc3 hf3 hz3; obtain ⟨hc4, hf4⟩ := bcell hb4; have hz4 := hb4.size; simp at hz4)
    | (have _g := hb2; clear _g; go_at_call 19; refine (refAmCovers_is _ _ _ _ _ _ _ _ _ c1).mono ?_; rintro e W3 ⟨rfl, hb3⟩; have hb3 := nx hb2 hb3; clear hc2 hf2 hz2; obtain ⟨hc3, hf3⟩ := bcell hb3; have hz3 := hb3.size; simp at hz3)
    | (have _g := hb1; clear _g; go_at_call 22; refine (refPermitted_is _ _ _ _ _ _ _ h2).mono ?_; rintro e W2 ⟨rfl, hb2⟩; have hb2 := nx hb1 hb2; clear hc1 hf1 hz1; obtain ⟨hc2, hf2⟩ := bcell hb2; have hz2 := hb2.size; simp at hz2)
    | (go_at_call 22; refine (refPermitted_is _ _ _ _ _ _ _ h1).mono ?_; rintro e W1 ⟨rfl, hb1⟩; obtain ⟨hc1, hf1⟩ := bcell hb1; have hz1 := hb1.size; simp at hz1)
    | (go_at_call 37; refine (refSup_any _ _ _).mono ?_; rintro e W5 ⟨rfl, rfl⟩))
  exact bodyPost_ret (v := aa (sup m p) 0) (by simp [results, Tryd.results21, go_sem, hc4]) rfl ⟨rfl, ((dn4 hb4).setCell (by simp; omega) _).setCell (by simp; omega) _⟩

theorem aa_eq {a b c d : Int} (h1 : a = c) (h2 : b = d) : aa a b = aa c d := by rw [h1, h2]
theorem jm_bad {k u m n p q : Int} (h : ¬ (per k u m n = true ∧ per k u p q = true)) : jm k u m n p q = 0 ∧ ju k u m n p q = 0 := by unfold jm ju; rw [if_neg h, if_neg h]; exact ⟨rfl, rfl⟩
theorem jm_ok {k u m n p q : Int} (h : per k u m n = true ∧ per k u p q = true) : jm k u m n p q = (if (m = 2 ∧ p = 3) ∨ (m = 3 ∧ p = 2) then 4 else max m p) ∧ ju k u m n p q = max n q := by unfold jm ju; rw [if_pos h, if_pos h]; exact ⟨rfl, rfl⟩
theorem no_cov {k u m n p q : Int} (h1 : per k u m n = true) (h2 : per k u p q = true) (c1 : cvr k u m n p q = false) (c2 : cvr k u p q m n = false) : 1 ≤ m ∧ m ≤ 5 ∧ 1 ≤ p ∧ p ≤ 5 ∧ n = 0 ∧ q = 0 := by
  have g3 := of_decide_eq_false c1
  have g4 := of_decide_eq_false c2
  clear c1 c2
  rcases per_is h1 with ⟨a1, a2, a3, a4, a5⟩ | ⟨a1, a2, a3, a4, a5, a6⟩
  · rcases per_is h2 with ⟨b1, b2, b3, b4, b5⟩ | ⟨b1, b2⟩
    · clear h1 h2
      subst a1 a2 a5 b5
      omega
    · omega
  · rcases per_is h2 with ⟨b1, b2⟩ | ⟨b1, b2, b3, b4, b5, b6⟩
    · omega
    · clear h1 h2
      subst a1 a4 b4
      omega
theorem ne_true {b : Bool} (h : b = false) : ¬ b = true := by simp [h]
theorem join_is (s : ByteArray) (k u h m n p q : Int) (w : World) {x y : Int} (hx : Hid (jm k u m n p q = x)) (hy : Hid (ju k u m n p q = y)) :
    Calls Tryd.prog 20 #[ra s k u h, aa m n, aa p q] w fun e w' => e = .returned (aa x y) ∧ Below w.heap.size w w' := by
  rw [← hx.out, ← hy.out]
  clear hx hy
  cases h1 : per k u m n with
  | false => obtain ⟨e1, e2⟩ := jm_bad (fun e => ne_true h1 e.1 : ¬ (per k u m n = true ∧ per k u p q = true)); rw [e1, e2]; exact join_bad1 s k u h m n p q w h1
  | true =>
    cases h2 : per k u p q with
    | false => obtain ⟨e1, e2⟩ := jm_bad (fun e => ne_true h2 e.2 : ¬ (per k u m n = true ∧ per k u p q = true)); rw [e1, e2]; exact join_bad2 s k u h m n p q w h1 h2
    | true =>
      obtain ⟨e1, e2⟩ := jm_ok ⟨h1, h2⟩
      have g1 := per_is h1
      have g2 := per_is h2
      rw [e1, e2]
      cases z1 : zer m n with
      | true =>
        have g3 : m = 0 ∧ n = 0 := of_decide_eq_true z1
        rw [if_neg (by omega), show max m p = p by omega, show max n q = q by omega]
        exact join_z1 s k u h m n p q w h1 h2 z1
      | false =>
        cases z2 : zer p q with
        | true =>
          have g4 : p = 0 ∧ q = 0 := of_decide_eq_true z2
          rw [if_neg (by omega), show max m p = m by omega, show max n q = n by omega]
          exact join_z2 s k u h m n p q w h1 h2 z1 z2
        | false =>
          have g3 : ¬ (m = 0 ∧ n = 0) := of_decide_eq_false z1
          have g4 : ¬ (p = 0 ∧ q = 0) := of_decide_eq_false z2
          by_cases hk : k = 1
          · have e3 := join_lock s k u h m n p q w h1 h2 z1 z2 hk
            unfold sup at e3
            rw [if_pos (by omega)] at e3
            rwa [show max n q = 0 by omega]
          · rw [if_neg (by omega), show max m p = 0 by omega]
            exact join_pool s k u h m n p q w h1 h2 z1 z2 (by omega)
theorem refJoin_is (s : ByteArray) (k u h m n p q : Int) (w : World) {x y : Int} (hx : Hid (jm k u m n p q = x)) (hy : Hid (ju k u m n p q = y)) :
    Calls Tryd.prog 21 #[ra s k u h, aa m n, aa p q] w fun e w' => e = .returned (aa x y) ∧ Below w.heap.size w w' := by
  rw [← hx.out, ← hy.out]
  clear hx hy
  cases h1 : per k u m n with
  | false => obtain ⟨e1, e2⟩ := jm_bad (fun e => ne_true h1 e.1 : ¬ (per k u m n = true ∧ per k u p q = true)); rw [e1, e2]; exact refJoin_bad1 s k u h m n p q w h1
  | true =>
    cases h2 : per k u p q with
    | false => obtain ⟨e1, e2⟩ := jm_bad (fun e => ne_true h2 e.2 : ¬ (per k u m n = true ∧ per k u p q = true)); rw [e1, e2]; exact refJoin_bad2 s k u h m n p q w h1 h2
    | true =>
      obtain ⟨e1, e2⟩ := jm_ok ⟨h1, h2⟩
      have g1 := per_is h1
      have g2 := per_is h2
      rw [e1, e2]
      cases c1 : cvr k u m n p q with
      | true =>
        have g3 := cvr_is c1
        rw [if_neg (by omega), show max m p = m by omega, show max n q = n by omega]
        exact refJoin_c1 s k u h m n p q w h1 h2 c1
      | false =>
        cases c2 : cvr k u p q m n with
        | true =>
          have g4 := cvr_is c2
          rw [if_neg (by omega), show max m p = p by omega, show max n q = q by omega]
          exact refJoin_c2 s k u h m n p q w h1 h2 c1 c2
        | false =>
          have hno := no_cov h1 h2 c1 c2
          have e3 := refJoin_no s k u h m n p q w h1 h2 c1 c2
          unfold sup at e3
          rw [if_pos (by omega)] at e3
          rwa [show max n q = 0 by omega]
end Go.Proofs.YtbddgdicnonadaaDoor
