/- Contract of the program: Against. -/
import Derived.Test.YthclgccgkdijbaaDoorHrm
namespace Go.Proofs.YthclgccgkdijbaaDoor
open Go.RowKit
set_option linter.unusedVariables false
set_option linter.unusedSimpArgs false

/-- Who is against an amount. -/
def AgR (k u : Int) (l : List Hd) (p : Pr3) (a : P2) (L : List Pr3) : Prop := (SenH k u l p a ∧ ¬ RoomH k u l p a → prsH (agnH k l p a) = L) ∧ (¬ (SenH k u l p a ∧ ¬ RoomH k u l p a) → L = [])
theorem agR_ex (k u : Int) (l : List Hd) (p : Pr3) (a : P2) : ∃ L, Hid (AgR k u l p a L) := by
  by_cases h : SenH k u l p a ∧ ¬ RoomH k u l p a
  · exact ⟨_, Lib.hid ⟨fun _ => rfl, fun h' => absurd h h'⟩⟩
  · exact ⟨[], Lib.hid ⟨fun h' => absurd h' h, fun _ => rfl⟩⟩
theorem cmp_two {k u : Int} {x a : P2} (hs : shp k u = true) (hx : per k u x.1 x.2 = true) (ha : per k u a.1 a.2 = true) (hk : k = 1) : Cmp k u [x, a] ↔ fr x a = true := by
  constructor
  · rintro ⟨-, -, h, -⟩
    have := List.pairwise_cons.1 (h hk)
    exact this.1 a (by simp)
  · intro h
    refine ⟨hs, fun y hy => ?_, fun _ => ?_, fun h2 => by omega⟩
    · rcases List.mem_cons.1 hy with rfl | hy
      · exact hx
      · rw [List.mem_singleton.1 hy]; exact ha
    · exact List.pairwise_cons.2 ⟨fun y hy => by rw [List.mem_singleton.1 hy]; exact h, List.pairwise_singleton _ _⟩
theorem ard_two {w : World} {g : Nat} {x y p q : Int} (h : w.cell? ⟨g, 0, none⟩ = some (.int .i64 x) ∧ w.cell? ⟨g, 1, none⟩ = some (.int .i64 y) ∧ w.cell? ⟨g, 2, none⟩ = some (.int .i64 p) ∧ w.cell? ⟨g, 3, none⟩ = some (.int .i64 q)) : ARd w (some ⟨g, 0, none⟩) [(x, y), (p, q)] := fun _ => ⟨g, 0, rfl, World.block_lt_of_cell? w _ h.1, fun i hi => by
  have hc : i = 0 ∨ i = 1 := by simp at hi; omega
  rcases hc with rfl | rfl
  · exact ⟨by simpa using h.1, by simpa using h.2.1⟩
  · exact ⟨by simpa using h.2.2.1, by simpa using h.2.2.2⟩⟩
set_option maxHeartbeats 2000000 in
set_option maxRecDepth 8000 in
theorem agnPred_is (s : ByteArray) (k u hm : Int) (g1 g2 : Nat) (m v x y z m' v' : Int) (w : World) (hV : Vars w) (h1 : Blk w g1 [.string s, .int .i64 k, .int .i64 u, .int .i64 hm]) (h2 : Blk w g2 [.int .i64 m, .int .i64 v]) {r : Bool} (hr : Hid (Cmp k u [(m', v'), (m, v)] ↔ r = true)) :
    Calls Tryd.prog 54 #[hag x y z m' v', .pointer (some ⟨g1, 0, none⟩), .pointer (some ⟨g2, 0, none⟩)] w fun e w' => e = .returned (.bool r) ∧ Below w.heap.size w w' := by
  have HV := Lib.hid hV
  have i0 := h1.cell 0 rfl
  have i1 := h1.cell 1 rfl
  have i2 := h1.cell 2 rfl
  have i3 := h1.cell 3 rfl
  have j0 := h2.cell 0 rfl
  have j1 := h2.cell 1 rfl
  have l1 := h1.lt
  have l2 := h2.lt
  have hn : Hid (([(m', v'), (m, v)] : List P2).length = 2) := Lib.hid rfl
  have hm1 : Hid (2 ≤ 1000) := Lib.hid (by decide)
  clear hV
  go_enter Tryd.func54, Tryd.ntmps54
  go_wp2_with (go_at_call 35; refine (compat_is s k u hm (some ⟨w.heap.size + 1, 0, none⟩) 2 2 [(m', v'), (m, v)] _ (HV.out.below (nxA (newB _ _) _)) (ard_two (by refine ⟨?_, ?_, ?_, ?_⟩ <;> simp)) hn hm1 hr).mono ?_; rintro e W1 ⟨rfl, hb1⟩; have HB1 := Lib.hid (dn2 hb1); clear hb1)
  go_ret
  exact ⟨rfl, HB1.out⟩
theorem hroom_yes (s : ByteArray) (k u hm : Int) (A : Option Addr) (n c : Nat) (l : List Hd) (a b d m v : Int) (w : World) (hV : Vars w) (hl : HRd w A l) (hn : Hid (l.length = n)) (hnc : n ≤ c) (hbig : Hid (n ≤ 900)) (hr : Hid (RoomH k u l (a, b, d) (m, v))) :
    Calls Tryd.prog 28 #[ra s k u hm, .slice A n c, .agg #[.int .i64 a, .int .i64 b, .int .i64 d], .agg #[.int .i64 m, .int .i64 v]] w fun e w' => e = .returned (.bool true) ∧ Below w.heap.size w w' :=
  hroom_is s k u hm A n c l a b d m v w hV hl hn hnc hbig (Lib.hid ⟨fun _ => rfl, fun _ => hr.out⟩)
set_option maxHeartbeats 8000000 in
set_option maxRecDepth 20000 in
open Classical in
theorem hagainst_is (s : ByteArray) (k u hm : Int) (A : Option Addr) (n c : Nat) (l : List Hd) (a b d m v : Int) (w : World) (hV : Vars w) (hl : HRd w A l) (hn : Hid (l.length = n)) (hnc : n ≤ c) (hbig : Hid (n ≤ 900)) {L : List P3} (hL : Hid (AgR k u l (a, b, d) (m, v) L)) {q : Nat} (hq : Hid (L.length = q)) :
    Calls Tryd.prog 30 #[ra s k u hm, .slice A n c, .agg #[.int .i64 a, .int .i64 b, .int .i64 d], .agg #[.int .i64 m, .int .i64 v]] w fun e w' => (∃ A' c', e = .returned (.slice A' q c') ∧ PRd w' A' L) ∧ Below w.heap.size w w' := by
  have HR := Lib.hid hl
  have HV := Lib.hid hV
  have hbig2 : Hid (n ≤ 1000) := Lib.hid (by have := hbig.out; omega)
  have HK0 := Lib.hid (Blk.new w [.string s, .int .i64 k, .int .i64 u, .int .i64 hm] 23 rfl)
  have HK1 := Lib.hid (Blk.new (w.alloc (.cells #[.string s, .int .i64 k, .int .i64 u, .int .i64 hm] 23)) [.int .i64 a, .int .i64 b, .int .i64 d] 26 (g := w.heap.size + 1) (by simp))
  have HK2 := Lib.hid (Blk.new ((w.alloc (.cells #[.string s, .int .i64 k, .int .i64 u, .int .i64 hm] 23)).alloc (.cells #[.int .i64 a, .int .i64 b, .int .i64 d] 26)) [.int .i64 m, .int .i64 v] 30 (g := w.heap.size + 1 + 1) (by simp))
  have HK0' := Lib.hid ((HK0.out.grow (.cells #[.int .i64 a, .int .i64 b, .int .i64 d] 26)).grow (.cells #[.int .i64 m, .int .i64 v] 30))
  have HK1' := Lib.hid (HK1.out.grow (.cells #[.int .i64 m, .int .i64 v] 30))
  obtain ⟨W0, hW0⟩ : ∃ W0, Hid (((w.alloc (.cells #[.string s, .int .i64 k, .int .i64 u, .int .i64 hm] 23)).alloc (.cells #[.int .i64 a, .int .i64 b, .int .i64 d] 26)).alloc (.cells #[.int .i64 m, .int .i64 v] 30) = W0) := ⟨_, rfl⟩
  have HB0 : Hid (Below w.heap.size w W0) := Lib.hid (by rw [← hW0.out]; exact nxA (nxA (newB _ _) _) _)
  rw [hW0.out] at HK0' HK1' HK2
  have HX : Hid (∀ W, Below W0.heap.size W0 W → Blk W w.heap.size [.string s, .int .i64 k, .int .i64 u, .int .i64 hm] ∧ Blk W (w.heap.size + 1) [.int .i64 a, .int .i64 b, .int .i64 d] ∧ Blk W (w.heap.size + 1 + 1) [.int .i64 m, .int .i64 v]) := Lib.hid (fun W hW => ⟨HK0'.out.up hW HK0'.out.lt, HK1'.out.up hW HK1'.out.lt, HK2.out.up hW HK2.out.lt⟩)
  have HXS : Hid (∀ W, Below W0.heap.size W0 W → RS4 W w.heap.size s k u hm ∧ (W.cell? ⟨w.heap.size + 1 + 1, 0, none⟩ = some (.int .i64 m) ∧ W.cell? ⟨w.heap.size + 1 + 1, 1, none⟩ = some (.int .i64 v))) := Lib.hid (fun W hW => ⟨RS4.of (HX.out W hW).1, (HX.out W hW).2.2.cell 0 rfl, (HX.out W hW).2.2.cell 1 rfl⟩)
  have hx0 := HX.out W0 (Below.refl _ _)
  have i0 := hx0.1.cell 0 rfl
  have i1 := hx0.1.cell 1 rfl
  have i2 := hx0.1.cell 2 rfl
  have i3 := hx0.1.cell 3 rfl
  have i4 := hx0.2.1.cell 0 rfl
  have i5 := hx0.2.1.cell 1 rfl
  have i6 := hx0.2.1.cell 2 rfl
  have i7 := hx0.2.2.cell 0 rfl
  have i8 := hx0.2.2.cell 1 rfl
  clear HK0 HK1 HK0' HK1' HK2 hl hV hx0
  have HARM : Hid (∀ W, Below W0.heap.size W0 W → HRd W A l ∧ Vars W) := Lib.hid (fun W hW => ⟨HR.out.below (nx HB0.out hW), HV.out.below (nx HB0.out hW)⟩)
  obtain ⟨b1, hb1⟩ := bool_ex (SenH k u l (a, b, d) (m, v))
  cases b1 with
  | false =>
    have hend : Hid (L = [] ∧ q = 0) := Lib.hid (by
      have h1 := hL.out.2 (fun h => by have := hb1.out.1 h.1; cases this)
      exact ⟨h1, by rw [← hq.out, h1]; rfl⟩)
    obtain ⟨rfl, rfl⟩ := hend.out
    clear hL
    go_enter Tryd.func30, Tryd.ntmps30
    go_upto_region 1 with fail
    rw [hW0.out]
    go_wp2_with (first
      | (go_at_call 51; refine (sensible_is s k u hm A n c l a b d m v _ (HARM.out _ (Below.refl _ _)).2 (HARM.out _ (Below.refl _ _)).1 hn hbig2 hb1).mono ?_; rintro e W1 ⟨rfl, hbb1⟩; have HB1 := Lib.hid hbb1; clear hbb1))
    go_ret
    exact ⟨⟨none, 0, rfl, PRd.nil _ _⟩, nx HB0.out HB1.out⟩
  | true =>
    obtain ⟨b2, hb2⟩ := bool_ex (RoomH k u l (a, b, d) (m, v))
    have hsen := hb1.out.2 rfl
    cases b2 with
    | true =>
      have hend : Hid (L = [] ∧ q = 0) := Lib.hid (by
        have h1 := hL.out.2 (fun h => h.2 (hb2.out.2 rfl))
        exact ⟨h1, by rw [← hq.out, h1]; rfl⟩)
      obtain ⟨rfl, rfl⟩ := hend.out
      have hby : Hid (RoomH k u l (a, b, d) (m, v)) := Lib.hid (hb2.out.2 rfl)
      clear hL hsen
      go_enter Tryd.func30, Tryd.ntmps30
      go_upto_region 1 with fail
      rw [hW0.out]
      go_wp2_with (first
        | (go_at_call 51; refine (sensible_is s k u hm A n c l a b d m v _ (HARM.out _ (Below.refl _ _)).2 (HARM.out _ (Below.refl _ _)).1 hn hbig2 hb1).mono ?_; rintro e W1 ⟨rfl, hbb1⟩; have HB1 := Lib.hid hbb1; have hx1 := HX.out _ hbb1; have j0 := hx1.1.cell 0 rfl; have j1 := hx1.1.cell 1 rfl; have j2 := hx1.1.cell 2 rfl; have j3 := hx1.1.cell 3 rfl; have j4 := hx1.2.1.cell 0 rfl; have j5 := hx1.2.1.cell 1 rfl; have j6 := hx1.2.1.cell 2 rfl; have j7 := hx1.2.2.cell 0 rfl; have j8 := hx1.2.2.cell 1 rfl; clear hbb1 hx1)
        | (go_at_call 28; refine (hroom_yes s k u hm A n c l a b d m v _ (HARM.out _ HB1.out).2 (HARM.out _ HB1.out).1 hn hnc hbig hby).mono ?_; rintro e W2 ⟨rfl, hbb2⟩; have HB2 := Lib.hid (nx HB1.out hbb2); clear hbb2))
      go_ret
      exact ⟨⟨none, 0, rfl, PRd.nil _ _⟩, nx HB0.out HB2.out⟩
    | false =>
      have hLE := hL.out.1 ⟨hsen, fun h => by have := hb2.out.1 h; cases this⟩
      have ha : Hid (AscH l) := Lib.hid hsen.1.2.2.2.1
      obtain ⟨l2, hl2⟩ : ∃ l2, Hid (delH l (a, b, d) = l2) := ⟨_, Lib.hid rfl⟩
      obtain ⟨n2, hn2⟩ : ∃ n2, Hid (l2.length = n2) := ⟨_, Lib.hid rfl⟩
      have hn2n : Hid (n2 ≤ 900) := Lib.hid (by
        have h1 := delH_len l (a, b, d)
        rw [hl2.out, hn2.out, hn.out] at h1
        have := hbig.out
        omega)
      have hn22 : Hid (n2 ≤ 1000) := Lib.hid (by have := hn2n.out; omega)
      have hml2 : Hid (l2.length ≤ 1000) := Lib.hid (by rw [hn2.out]; exact hn22.out)
      by_cases hk1 : k = 1
      · have hAE : Hid (agnH k l (a, b, d) (m, v) = l2.filter (fun x => !decide (Cmp k u [x.2, (m, v)]))) := Lib.hid (by
          unfold agnH
          rw [hl2.out]
          apply List.filter_congr
          intro x hx
          rw [← hl2.out] at hx
          have hx2 := (delH_mem.1 hx).1
          have h3 := cmp_two hsen.1.1 (fit_per (hsen.1.2.2.1 x hx2).2) (fit_per hsen.2.2) hk1
          rw [show decide (k = 2) = false from decide_eq_false (by omega), Bool.false_or]
          congr 1
          rw [Bool.eq_iff_iff, decide_eq_true_iff]
          exact h3.symm)
        rw [hAE.out] at hLE
        obtain ⟨l3, hl3⟩ : ∃ l3, Hid (l2.filter (fun x => !decide (Cmp k u [x.2, (m, v)])) = l3) := ⟨_, Lib.hid rfl⟩
        rw [hl3.out] at hLE
        have HLE := Lib.hid hLE
        have hn3 : Hid (l3.length = q) := Lib.hid (by rw [← hq.out, ← HLE.out, prsH, List.length_map])
        have hq1 : Hid (q ≤ 1000) := Lib.hid (by
          have h1 : l3.length ≤ l2.length := by rw [← hl3.out]; exact List.length_filter_le _ _
          rw [hn3.out] at h1
          have := hml2.out
          omega)
        have eK : ∀ args w, (callFunc 54 args).run Tryd.prog w = .ok (.enter 54 args) w := enters_of Tryd.func54 (by kernel_rfl) rfl
        have HPR : Hid (∀ W1, Below W0.heap.size W0 W1 → PredH Tryd.prog 54 #[.pointer (some ⟨w.heap.size, 0, none⟩), .pointer (some ⟨w.heap.size + 1 + 1, 0, none⟩)] (fun h => decide (Cmp k u [h.2, (m, v)])) W0.heap.size W1) := Lib.hid (fun W1 h1 x y z m' v' W hW => agnPred_is s k u hm w.heap.size (w.heap.size + 1 + 1) m v x y z m' v' W (HARM.out W (h1.trans hW)).2 (HX.out W (h1.trans hW)).1 (HX.out W (h1.trans hW)).2.2 (Lib.hid (by simp)))
        clear hLE hL hsen hAE
        have hk1' : (k == 1) = true := beq_iff_eq.2 hk1
        clear hk1
        go_enter Tryd.func30, Tryd.ntmps30
        go_upto_region 1 with fail
        rw [hW0.out]
        go_wp2_with (first
          | (go_at_call 51; refine (sensible_is s k u hm A n c l a b d m v _ (HARM.out _ (Below.refl _ _)).2 (HARM.out _ (Below.refl _ _)).1 hn hbig2 hb1).mono ?_; rintro e W1 ⟨rfl, hbb1⟩; have HB1 := Lib.hid hbb1; have hx1 := HX.out _ hbb1; have j0 := hx1.1.cell 0 rfl; have j1 := hx1.1.cell 1 rfl; have j2 := hx1.1.cell 2 rfl; have j3 := hx1.1.cell 3 rfl; have j4 := hx1.2.1.cell 0 rfl; have j5 := hx1.2.1.cell 1 rfl; have j6 := hx1.2.1.cell 2 rfl; have j7 := hx1.2.2.cell 0 rfl; have j8 := hx1.2.2.cell 1 rfl; clear hbb1 hx1)
          | (go_at_call 28; refine (hroom_is s k u hm A n c l a b d m v _ (HARM.out _ HB1.out).2 (HARM.out _ HB1.out).1 hn hnc hbig hb2).mono ?_; rintro e W2 ⟨rfl, hbb2⟩; have HB2 := Lib.hid (nx HB1.out hbb2); have hx2 := HX.out _ HB2.out; have q4 := hx2.2.1.cell 0 rfl; have q5 := hx2.2.1.cell 1 rfl; have q6 := hx2.2.1.cell 2 rfl; clear hbb2 hx2)
          | (go_at_call 52; refine (others_is A n c l a b d _ (HARM.out _ HB2.out).1 hn hnc hbig ha).mono ?_; rintro e W3 ⟨⟨V3, rfl, ho3⟩, hbb3⟩; rw [hl2.out] at ho3; have HO3 := Lib.hid (ho3.low HB2.out.size); have HB3 := Lib.hid (nx HB2.out hbb3); have hx3 := HX.out _ HB3.out; have t1 := hx3.1.cell 1 rfl; clear hbb3 ho3 hx3)
          | (go_at_call 43; refine (delete_hold 54 #[.pointer (some ⟨w.heap.size, 0, none⟩), .pointer (some ⟨w.heap.size + 1 + 1, 0, none⟩)] (fun h => decide (Cmp k u [h.2, (m, v)])) eK W0.heap.size V3 l2 _ HB3.out.size (HPR.out _ HB3.out) HO3.out hml2).mono ?_; rintro e W4 ⟨⟨V4, rfl, ho4⟩, hbb4⟩; rw [hl3.out] at ho4; obtain ⟨A4, c4, hv4, -, hrd4, -⟩ := ho4.form; rw [hn3.out] at hv4; subst hv4; have HRD4 := Lib.hid hrd4; have HB4 := Lib.hid (HB3.out.trans hbb4); clear hbb4 ho4 hrd4)
          | (go_at_call 17; refine (hprocs_is A4 q c4 l3 _ HRD4.out hn3 hq1 HLE).mono ?_; rintro e W5 ⟨⟨g5, rfl, hp5⟩, hbb5⟩; have HP5 := Lib.hid hp5; have HB5 := Lib.hid (nx HB4.out hbb5); clear hp5 hbb5))
        go_ret
        exact ⟨⟨_, _, rfl, HP5.out⟩, nx HB0.out HB5.out⟩
      · have hk2 : k = 2 := by
          rcases of_decide_eq_true hsen.1.1 with ⟨h, -⟩ | ⟨h, -⟩
          · exact absurd h hk1
          · exact h
        have hAE : Hid (agnH k l (a, b, d) (m, v) = l2) := Lib.hid (by
          unfold agnH
          rw [hl2.out, List.filter_eq_self]
          intro x _
          simp [hk2])
        rw [hAE.out] at hLE
        have HLE := Lib.hid hLE
        have hn3 : Hid (l2.length = q) := Lib.hid (by rw [← hq.out, ← HLE.out, prsH, List.length_map])
        have hq1 : Hid (q ≤ 1000) := Lib.hid (by rw [← hn3.out]; exact hml2.out)
        clear hLE hL hsen hAE hk2
        have hk1' : (k == 1) = false := beq_eq_false_iff_ne.2 hk1
        clear hk1
        go_enter Tryd.func30, Tryd.ntmps30
        go_upto_region 1 with fail
        rw [hW0.out]
        go_wp2_with (first
          | (go_at_call 51; refine (sensible_is s k u hm A n c l a b d m v _ (HARM.out _ (Below.refl _ _)).2 (HARM.out _ (Below.refl _ _)).1 hn hbig2 hb1).mono ?_; rintro e W1 ⟨rfl, hbb1⟩; have HB1 := Lib.hid hbb1; have hx1 := HX.out _ hbb1; have j0 := hx1.1.cell 0 rfl; have j1 := hx1.1.cell 1 rfl; have j2 := hx1.1.cell 2 rfl; have j3 := hx1.1.cell 3 rfl; have j4 := hx1.2.1.cell 0 rfl; have j5 := hx1.2.1.cell 1 rfl; have j6 := hx1.2.1.cell 2 rfl; have j7 := hx1.2.2.cell 0 rfl; have j8 := hx1.2.2.cell 1 rfl; clear hbb1 hx1)
          | (go_at_call 28; refine (hroom_is s k u hm A n c l a b d m v _ (HARM.out _ HB1.out).2 (HARM.out _ HB1.out).1 hn hnc hbig hb2).mono ?_; rintro e W2 ⟨rfl, hbb2⟩; have HB2 := Lib.hid (nx HB1.out hbb2); have hx2 := HX.out _ HB2.out; have q4 := hx2.2.1.cell 0 rfl; have q5 := hx2.2.1.cell 1 rfl; have q6 := hx2.2.1.cell 2 rfl; clear hbb2 hx2)
          | (go_at_call 52; refine (others_is A n c l a b d _ (HARM.out _ HB2.out).1 hn hnc hbig ha).mono ?_; rintro e W3 ⟨⟨V3, rfl, ho3⟩, hbb3⟩; rw [hl2.out] at ho3; obtain ⟨A4, c4, hv4, -, hrd4, -⟩ := ho3.form; rw [hn3.out] at hv4; subst hv4; have HRD4 := Lib.hid hrd4; have HB3 := Lib.hid (nx HB2.out hbb3); have hx3 := HX.out _ HB3.out; have t1 := hx3.1.cell 1 rfl; clear hbb3 ho3 hx3 hrd4)
          | (go_at_call 17; refine (hprocs_is A4 q c4 l2 _ HRD4.out hn3 hq1 HLE).mono ?_; rintro e W5 ⟨⟨g5, rfl, hp5⟩, hbb5⟩; have HP5 := Lib.hid hp5; have HB5 := Lib.hid (nx HB3.out hbb5); clear hp5 hbb5))
        go_ret
        exact ⟨⟨_, _, rfl, HP5.out⟩, nx HB0.out HB5.out⟩
end Go.Proofs.YthclgccgkdijbaaDoor
