/- Contracts of the program: claimable, ValidWait, Find, compare of lines. -/
import Derived.Test.YtfcekfdoafpmoaaJq
namespace Go.Proofs.Ytfcekfdoafpmoaa
open Go.RowKit
set_option linter.unusedVariables false
set_option linter.unusedSimpArgs false

theorem us_fit (m u : Int) : usJ m u = (fit 1 1 m u || fit 2 8 m u) := by
  unfold usJ fit
  rw [Bool.eq_iff_iff]
  simp
set_option maxHeartbeats 2000000 in
set_option maxRecDepth 8000 in
theorem claimable_is (m u : Int) (w : World) {r : Bool} (hr : Hid (usJ m u = r)) :
    Calls Try.prog 32 #[aa m u] w fun e w' => e = .returned (.bool r) ∧ Below w.heap.size w w' := by
  obtain ⟨b1, hb1⟩ : ∃ b1, Hid (fit 1 1 m u = b1) := ⟨_, Lib.hid rfl⟩
  obtain ⟨b2, hb2⟩ : ∃ b2, Hid (fit 2 8 m u = b2) := ⟨_, Lib.hid rfl⟩
  have hend : Hid (r = (b1 || b2)) := Lib.hid (by rw [← hr.out, us_fit, hb1.out, hb2.out])
  clear hr
  obtain ⟨W0, hW0⟩ : ∃ W0, Hid (((w.alloc (.cells #[.int .i64 m, .int .i64 u] 26)).alloc (.cells #[.string ⟨#[]⟩, .int .i64 1, .int .i64 1, .int .i64 0] 64)).alloc (.cells #[.string ⟨#[]⟩, .int .i64 2, .int .i64 8, .int .i64 0] 64) = W0) := ⟨_, rfl⟩
  have HB0 : Hid (Below w.heap.size w W0) := Lib.hid (by rw [← hW0.out]; exact new3 _ _ _ _)
  have HK0 : Hid (Blk W0 w.heap.size [.int .i64 m, .int .i64 u]) := Lib.hid (by rw [← hW0.out]; exact ((Blk.new w [.int .i64 m, .int .i64 u] _ rfl).grow _).grow _)
  have HK1 : Hid (Blk W0 (w.heap.size + 1) [.string ⟨#[]⟩, .int .i64 1, .int .i64 1, .int .i64 0]) := Lib.hid (by rw [← hW0.out]; exact (Blk.new _ [.string ⟨#[]⟩, .int .i64 1, .int .i64 1, .int .i64 0] _ (by simp)).grow _)
  have HK2 : Hid (Blk W0 (w.heap.size + 1 + 1) [.string ⟨#[]⟩, .int .i64 2, .int .i64 8, .int .i64 0]) := Lib.hid (by rw [← hW0.out]; exact Blk.new _ [.string ⟨#[]⟩, .int .i64 2, .int .i64 8, .int .i64 0] _ (by simp))
  clear hW0
  cases b1 with
  | true =>
    go_enter Try.func32, Try.ntmps32
    go_wp2_with (go_at_call 43; refine (fits_is ⟨#[]⟩ 1 1 0 m u _ hb1).mono ?_; rintro e W1 ⟨rfl, hb1'⟩; have HB1 := Lib.hid (dn3 hb1'); clear hb1')
    go_ret
    exact ⟨ret_bool (by rw [hend.out]; rfl), HB1.out⟩
  | false =>
    go_enter Try.func32, Try.ntmps32
    go_wp2_with (first
      | (have _g := HB1; clear _g; go_at_call 43; refine (fits_is ⟨#[]⟩ 2 8 0 m u _ hb2).mono ?_; rintro e W2 ⟨rfl, hb2'⟩; have HB2 := Lib.hid (nx HB1.out hb2'); clear hb2')
      | (go_at_call 43; refine (fits_is ⟨#[]⟩ 1 1 0 m u _ hb1).mono ?_; rintro e W1 ⟨rfl, hb1'⟩; have HB1 := Lib.hid (dn3 hb1'); have HKA := Lib.hid ((((Blk.new w [.int .i64 m, .int .i64 u] 26 rfl).grow _).grow _).up hb1' (by simp; omega)); have HKB := Lib.hid ((Blk.new ((w.alloc (.cells #[.int .i64 m, .int .i64 u] 26)).alloc (.cells #[.string ⟨#[]⟩, .int .i64 1, .int .i64 1, .int .i64 0] 64)) [.string ⟨#[]⟩, .int .i64 2, .int .i64 8, .int .i64 0] 64 (g := w.heap.size + 1 + 1) (by simp)).up hb1' (by simp)); clear hb1'; have i0 := HKA.out.cell 0 rfl; have i1 := HKA.out.cell 1 rfl; have j0 := HKB.out.cell 0 rfl; have j1 := HKB.out.cell 1 rfl; have j2 := HKB.out.cell 2 rfl; have j3 := HKB.out.cell 3 rfl))
    go_ret
    exact ⟨ret_bool (by rw [hend.out]; rfl), HB2.out⟩
set_option maxHeartbeats 4000000 in
set_option maxRecDepth 20000 in
theorem vw_is (x y z m n p q : Int) (w : World) {r : Bool} (hr : Hid (vW ((x, y, z), (m, n), p, q) = r)) :
    Calls Try.prog 11 #[wag x y z m n p q] w fun e w' => e = .returned (.bool r) ∧ Below w.heap.size w w' := by
  obtain ⟨v, hv⟩ : ∃ v, Hid (vpB x y z = v) := ⟨_, Lib.hid rfl⟩
  obtain ⟨u, hu⟩ : ∃ u, Hid (usJ m n = u) := ⟨_, Lib.hid rfl⟩
  have hend : Hid (r = (v && u && (decide (0 ≤ p) && decide (p ≤ 7) && decide (0 ≤ q) && decide (q ≤ 3)))) := Lib.hid (by
    rw [← hr.out, ← hv.out, ← hu.out, vW_parts])
  have HK0 := Lib.hid (Blk.new w [.int .i64 x, .int .i64 y, .int .i64 z, .int .i64 m, .int .i64 n, .int .i64 p, .int .i64 q] 28 rfl)
  clear hr
  cases v with
  | false =>
    go_enter Try.func11, Try.ntmps11
    go_wp2_with (go_at_call 31; refine (valid_b x y z _ hv).mono ?_; rintro e W1 ⟨rfl, hb1⟩; have HB1 := Lib.hid (dn1 hb1); clear hb1)
    go_ret
    exact ⟨ret_bool (by rw [hend.out]; rfl), HB1.out⟩
  | true =>
    cases u with
    | false =>
      go_enter Try.func11, Try.ntmps11
      go_wp2_with (first
        | (go_at_call 31; refine (valid_b x y z _ hv).mono ?_; rintro e W1 ⟨rfl, hb1⟩; have HB1 := Lib.hid (dn1 hb1); have HK1 := Lib.hid (HK0.out.up hb1 HK0.out.lt); clear hb1; have i3 := HK1.out.cell 3 rfl; have i4 := HK1.out.cell 4 rfl)
        | (go_at_call 32; refine (claimable_is m n _ hu).mono ?_; rintro e W2 ⟨rfl, hb2⟩; have HB2 := Lib.hid (nx HB1.out hb2); clear hb2))
      go_ret
      exact ⟨ret_bool (by rw [hend.out]; rfl), HB2.out⟩
    | true =>
      go_enter Try.func11, Try.ntmps11
      go_wp2_with (first
        | (go_at_call 31; refine (valid_b x y z _ hv).mono ?_; rintro e W1 ⟨rfl, hb1⟩; have HB1 := Lib.hid (dn1 hb1); have HK1 := Lib.hid (HK0.out.up hb1 HK0.out.lt); clear hb1; have i3 := HK1.out.cell 3 rfl; have i4 := HK1.out.cell 4 rfl)
        | (go_at_call 32; refine (claimable_is m n _ hu).mono ?_; rintro e W2 ⟨rfl, hb2⟩; have HB2 := Lib.hid (nx HB1.out hb2); have HK2 := Lib.hid (HK1.out.up hb2 HK1.out.lt); clear hb2; have j5 := HK2.out.cell 5 rfl; have j6 := HK2.out.cell 6 rfl))
      all_goals (
        go_ret
        refine ⟨ret_bool ?_, HB2.out⟩
        rw [hend.out, Bool.eq_iff_iff]
        simp
        omega)
set_option maxHeartbeats 1000000 in
theorem findPred_is (g : Nat) (a b d x y z m v p q : Int) (w : World) (h : Blk w g [.int .i64 a, .int .i64 b, .int .i64 d]) :
    Calls Try.prog 41 #[wag x y z m v p q, .pointer (some ⟨g, 0, none⟩)] w fun e w' => e = .returned (.bool (decide ((x, y, z) = (a, b, d)))) ∧ Below w.heap.size w w' := by
  have i0 := h.cell 0 rfl
  have i1 := h.cell 1 rfl
  have i2 := h.cell 2 rfl
  have hl0 := h.lt
  obtain ⟨β, hβ⟩ : ∃ β, Hid (decide (x = a ∧ y = b ∧ z = d) = β) := ⟨_, rfl⟩
  have he : ∀ W : World, (binOp .eql 24 (.agg #[.int .i64 x, .int .i64 y, .int .i64 z]) (.agg #[.int .i64 a, .int .i64 b, .int .i64 d])).run Try.prog W = .ok (.bool β) W := fun W => by rw [← hβ.out]; exact eqPr x y z a b d W
  go_enter Try.func41, Try.ntmps41
  go_wp2
  go_ret
  refine ⟨ret_bool ?_, newB _ _⟩
  rw [← hβ.out]
  simp
theorem ndxW_spec : ∀ {l : List Wt} {p : Pr3}, (ndxW l p < l.length → (l.getD (ndxW l p) default).1 = p) ∧ ∀ j, j < ndxW l p → ¬ (l.getD j default).1 = p
  | [], _ => ⟨fun h => by simp [ndxW] at h, fun j h => by simp [ndxW] at h⟩
  | x :: r, p => by
    have h1 := ndxW_spec (l := r) (p := p)
    by_cases hx : x.1 = p
    · rw [ndxW, if_pos hx]
      exact ⟨fun _ => by simpa using hx, fun j h => by omega⟩
    · rw [ndxW, if_neg hx]
      refine ⟨fun h => ?_, fun j h => ?_⟩
      · have := h1.1 (by simpa using h)
        simpa using this
      · cases j with
        | zero => simpa using hx
        | succ j => have := h1.2 j (by omega); simpa using this
theorem idxW_find {l : List Wt} {p : Pr3} {r : Int} (hr : findW l p = r) : IdxW (fun x => decide (x.1 = p)) l r := by
  subst hr
  unfold findW
  by_cases h : ndxW l p < l.length
  · rw [if_pos h]
    exact .inr ⟨ndxW l p, rfl, h, decide_eq_true (ndxW_spec.1 h), fun j hj => decide_eq_false (ndxW_spec.2 j hj)⟩
  · rw [if_neg h]
    exact .inl ⟨rfl, fun j hj => decide_eq_false (ndxW_spec.2 j (by omega))⟩
set_option maxHeartbeats 1000000 in
theorem find_is (A : Option Addr) (n c : Nat) (l : List Wt) (a b d : Int) (w : World) (hl : WRd w A l) (hn : Hid (l.length = n)) (hm : Hid (n ≤ 1000)) {r : Int} (hr : Hid (findW l (a, b, d) = r)) :
    Calls Try.prog 20 #[.slice A n c, .agg #[.int .i64 a, .int .i64 b, .int .i64 d]] w fun e w' => e = .returned (.int .i64 r) ∧ Below w.heap.size w w' := by
  have HR := Lib.hid hl
  have HB0 := Lib.hid (newB w (.cells #[.int .i64 a, .int .i64 b, .int .i64 d] 24))
  have HK0 := Lib.hid (Blk.new w [.int .i64 a, .int .i64 b, .int .i64 d] 24 rfl)
  have eK : ∀ args w, (callFunc 41 args).run Try.prog w = .ok (.enter 41 args) w := enters_of Try.func41 (by kernel_rfl) rfl
  have HPR : Hid (PredW Try.prog 41 #[.pointer (some ⟨w.heap.size, 0, none⟩)] (fun x => decide (x.1 = (a, b, d))) (w.alloc (.cells #[.int .i64 a, .int .i64 b, .int .i64 d] 24)).heap.size (w.alloc (.cells #[.int .i64 a, .int .i64 b, .int .i64 d] 24))) := Lib.hid (fun x y z m v p q W hW => findPred_is w.heap.size a b d x y z m v p q W (HK0.out.up hW HK0.out.lt))
  have hi := Lib.hid (idxW_find hr.out)
  clear hl
  go_enter Try.func20, Try.ntmps20
  go_wp2_with (go_at_call 40; refine (indexW 41 #[.pointer (some ⟨w.heap.size, 0, none⟩)] (fun x => decide (x.1 = (a, b, d))) eK _ A n c l _ (Nat.le_refl _) HPR (HR.out.below HB0.out) hn hm hi).mono ?_; rintro e W1 ⟨rfl, hb1⟩; have HB1 := Lib.hid (nx HB0.out hb1); clear hb1)
  go_ret
  exact ⟨rfl, HB1.out⟩
set_option maxHeartbeats 1000000 in
theorem compare_yes (x y z m v p u x2 y2 z2 m2 v2 p2 u2 : Int) (w : World) (hr : Hid (ovr ((x2, y2, z2), (m2, v2), p2, u2) ((x, y, z), (m, v), p, u) = true)) :
    Calls Try.prog 36 #[wag x y z m v p u, wag x2 y2 z2 m2 v2 p2 u2] w fun e w' => e = .returned (.int .i64 1) ∧ Below w.heap.size w w' := by
  obtain ⟨h1, h2⟩ : p2 < p ∧ u2 < 3 := of_decide_eq_true hr.out
  clear hr
  go_enter Try.func36, Try.ntmps36
  go_wp2
  go_ret
  exact ⟨rfl, new2 _ _ _⟩
set_option maxHeartbeats 1000000 in
theorem compare_no (x y z m v p u x2 y2 z2 m2 v2 p2 u2 : Int) (w : World) (hr : Hid (ovr ((x2, y2, z2), (m2, v2), p2, u2) ((x, y, z), (m, v), p, u) = false)) :
    Calls Try.prog 36 #[wag x y z m v p u, wag x2 y2 z2 m2 v2 p2 u2] w fun e w' => e = .returned (.int .i64 0) ∧ Below w.heap.size w w' := by
  have hn : ¬ (p2 < p ∧ u2 < 3) := of_decide_eq_false hr.out
  clear hr
  by_cases h1 : p2 < p
  · have h2 : ¬ u2 < 3 := fun h => hn ⟨h1, h⟩
    clear hn
    go_enter Try.func36, Try.ntmps36
    go_wp2
    go_ret
    exact ⟨rfl, new2 _ _ _⟩
  · clear hn
    go_enter Try.func36, Try.ntmps36
    go_wp2
    go_ret
    exact ⟨rfl, new2 _ _ _⟩
end Go.Proofs.Ytfcekfdoafpmoaa
