/- Contracts of the reference: ValidWait, Find, SameWaits. -/
import Derived.Test.YtfcekfdoafpmoaaJpr
namespace Go.Proofs.Ytfcekfdoafpmoaa
open Go.RowKit
set_option linter.unusedVariables false
set_option linter.unusedSimpArgs false

theorem vW_parts (x y z m n p q : Int) : vW ((x, y, z), (m, n), p, q) = (vpB x y z && usJ m n && (decide (0 ≤ p) && decide (p ≤ 7) && decide (0 ≤ q) && decide (q ≤ 3))) := by
  unfold vW vpP
  rw [Bool.eq_iff_iff]
  simp only [Bool.and_eq_true, decide_eq_true_eq]
  exact ⟨fun ⟨h1, h2, h3, h4, h5⟩ => ⟨h1, ⟨⟨h2, h3⟩, h4⟩, h5⟩, fun ⟨h1, ⟨⟨h2, h3⟩, h4⟩, h5⟩ => ⟨h1, h2, h3, h4, h5⟩⟩
set_option maxHeartbeats 4000000 in
set_option maxRecDepth 20000 in
theorem refVW_is (x y z m n p q : Int) (w : World) {r : Bool} (hr : Hid (vW ((x, y, z), (m, n), p, q) = r)) :
    Calls Try.prog 12 #[wag x y z m n p q] w fun e w' => e = .returned (.bool r) ∧ Below w.heap.size w w' := by
  obtain ⟨v, hv⟩ : ∃ v, Hid (vpB x y z = v) := ⟨_, Lib.hid rfl⟩
  obtain ⟨u, hu⟩ : ∃ u, Hid (usJ m n = u) := ⟨_, Lib.hid rfl⟩
  have hend : Hid (r = (v && u && (decide (0 ≤ p) && decide (p ≤ 7) && decide (0 ≤ q) && decide (q ≤ 3)))) := Lib.hid (by
    rw [← hr.out, ← hv.out, ← hu.out, vW_parts])
  have HK0 := Lib.hid (Blk.new w [.int .i64 x, .int .i64 y, .int .i64 z, .int .i64 m, .int .i64 n, .int .i64 p, .int .i64 q] 28 rfl)
  clear hr
  cases v with
  | false =>
    go_enter Try.func12, Try.ntmps12
    go_wp2_with (go_at_call 33; refine (refValid_b x y z _ hv).mono ?_; rintro e W1 ⟨rfl, hb1⟩; have HB1 := Lib.hid (dn1 hb1); clear hb1)
    go_ret
    exact ⟨ret_bool (by rw [hend.out]; rfl), HB1.out⟩
  | true =>
    cases u with
    | false =>
      go_enter Try.func12, Try.ntmps12
      go_wp2_with (first
        | (go_at_call 33; refine (refValid_b x y z _ hv).mono ?_; rintro e W1 ⟨rfl, hb1⟩; have HB1 := Lib.hid (dn1 hb1); have HK1 := Lib.hid (HK0.out.up hb1 HK0.out.lt); clear hb1; have i3 := HK1.out.cell 3 rfl; have i4 := HK1.out.cell 4 rfl)
        | (go_at_call 34; refine (usable_is m n _ hu).mono ?_; rintro e W2 ⟨rfl, hb2⟩; have HB2 := Lib.hid (nx HB1.out hb2); clear hb2))
      go_ret
      exact ⟨ret_bool (by rw [hend.out]; rfl), HB2.out⟩
    | true =>
      go_enter Try.func12, Try.ntmps12
      go_wp2_with (first
        | (go_at_call 33; refine (refValid_b x y z _ hv).mono ?_; rintro e W1 ⟨rfl, hb1⟩; have HB1 := Lib.hid (dn1 hb1); have HK1 := Lib.hid (HK0.out.up hb1 HK0.out.lt); clear hb1; have i3 := HK1.out.cell 3 rfl; have i4 := HK1.out.cell 4 rfl)
        | (go_at_call 34; refine (usable_is m n _ hu).mono ?_; rintro e W2 ⟨rfl, hb2⟩; have HB2 := Lib.hid (nx HB1.out hb2); have HK2 := Lib.hid (HK1.out.up hb2 HK1.out.lt); clear hb2; have j5 := HK2.out.cell 5 rfl; have j6 := HK2.out.cell 6 rfl))
      all_goals (
        go_ret
        refine ⟨ret_bool ?_, HB2.out⟩
        rw [hend.out, Bool.eq_iff_iff]
        simp
        omega)
set_option maxHeartbeats 2000000 in
set_option maxRecDepth 8000 in
theorem refFind_is (A : Option Addr) (n c : Nat) (l : List Wt) (a b d : Int) (w : World) (hl : WRd w A l) (hn : Hid (l.length = n)) (hm : Hid (n ≤ 1000)) {r : Int} (hr : Hid (findW l (a, b, d) = r)) :
    Calls Try.prog 21 #[.slice A n c, .agg #[.int .i64 a, .int .i64 b, .int .i64 d]] w fun e w' => e = .returned (.int .i64 r) ∧ Below w.heap.size w w' := by
  have HR := Lib.hid hl
  have HK0 := Lib.hid (Blk.new w [.int .i64 a, .int .i64 b, .int .i64 d] 24 rfl)
  clear hl
  go_enter Try.func21, Try.ntmps21
  go_wp2
  go_loopw [5] (fun i wr => ∃ (k : Nat), k ≤ n ∧ i = .int .i64 k ∧ Hid (Blk wr w.heap.size [.int .i64 a, .int .i64 b, .int .i64 d]) ∧ Hid (Below w.heap.size w wr) ∧ Hid (∀ j, j < k → ¬ (l.getD j default).1 = (a, b, d))) (fun i _ => n - (intOf i).toNat)
  case atStart => exact ⟨0, by omega, rfl, HK0, Lib.hid (newB _ _), fun j hj => by omega⟩
  case round =>
    obtain ⟨k, hk, rfl, hb0, hB, hno⟩ := hrel
    have i0 := hb0.out.cell 0 rfl
    have i1 := hb0.out.cell 1 rfl
    have i2 := hb0.out.cell 2 rfl
    by_cases hlt : (k : Int) < (n : Int)
    · obtain ⟨g, o, x, y, z, m, v, p, q, rfl, hg, hx, c1, c2, c3, c4, c5, c6, c7⟩ := (HR.out.below hB.out).at_ (i := k) (by have := hn.out; omega)
      have e5 : IntKind.i64.wrap ((k : Int) + 1) = (k : Int) + 1 := by have := hm.out; rw [IntKind.wrap_i64]; omega
      by_cases he : x = a ∧ y = b ∧ z = d
      · obtain ⟨rfl, rfl, rfl⟩ := he
        have hst : Hid (r = (k : Int)) := Lib.hid (by
          rw [← hr.out]
          exact findW_at (by have := hn.out; omega) hno.out (by rw [hx.out]))
        have hst' := hst.out
        subst hst'
        have he1 := fun W => eqPr x y z x y z W
        go_wp2
        go_quiet (fail)
        go_wp2
        go_ret
        exact ⟨rfl, bdN hB.out _⟩
      · have hno2 : Hid (∀ j, j < k + 1 → ¬ (l.getD j default).1 = (a, b, d)) := fun j hj e => by
          by_cases hjk : j = k
          · subst hjk
            rw [hx.out] at e
            exact he (by simpa using e)
          · exact hno.out j (by omega) e
        have hne := eqPr_no he
        clear he
        go_wp2
        go_quiet (fail)
        go_wp2
        go_roundw
        case rel => exact ⟨k + 1, by omega, by go_num, hb0.out.up (bdN (Below.refl _ _) _) hb0.out.lt, bdN hB.out _, hno2⟩
        case measure => simp [intOf]; omega
    · have hst : Hid (r = -1) := Lib.hid (by
        rw [← hr.out]
        exact findW_no (fun j hj => hno.out j (by have := hn.out; omega)))
      have hst' := hst.out
      subst hst'
      go_wp2
      go_ret
      exact ⟨rfl, hB.out⟩
set_option maxHeartbeats 2000000 in
set_option maxRecDepth 8000 in
theorem sameWaits_yes (A B : Option Addr) (n c c' : Nat) (l : List Wt) (w : World) (hA : WRd w A l) (hB : WRd w B l) (hn : Hid (l.length = n)) (hm : Hid (n ≤ 1000)) :
    Calls Try.prog 17 #[.slice A n c, .slice B n c'] w fun e w' => e = .returned (.bool true) ∧ Below w.heap.size w w' := by
  have HA := Lib.hid hA
  have HB := Lib.hid hB
  clear hA hB
  go_enter Try.func17, Try.ntmps17
  go_wp2
  go_loopw [5] (fun i wr => ∃ (k : Nat), k ≤ n ∧ i = .int .i64 k ∧ Hid (Below w.heap.size w wr)) (fun i _ => n - (intOf i).toNat)
  case atStart => exact ⟨0, by omega, rfl, Below.refl _ _⟩
  case round =>
    obtain ⟨k, hk, rfl, hbl⟩ := hrel
    by_cases hlt : (k : Int) < (n : Int)
    · obtain ⟨g, o, x, y, z, m, v, p, q, rfl, hg, hx, c1, c2, c3, c4, c5, c6, c7⟩ := (HA.out.below hbl.out).at_ (i := k) (by have := hn.out; omega)
      obtain ⟨g', o', x', y', z', m', v', p', q', rfl, hg', hx', d1, d2, d3, d4, d5, d6, d7⟩ := (HB.out.below hbl.out).at_ (i := k) (by have := hn.out; omega)
      have hxx := hx.out.symm.trans hx'.out
      simp only [Prod.mk.injEq] at hxx
      obtain ⟨⟨rfl, rfl, rfl⟩, ⟨rfl, rfl⟩, rfl, rfl⟩ := hxx
      have e5 : IntKind.i64.wrap ((k : Int) + 1) = (k : Int) + 1 := by have := hm.out; rw [IntKind.wrap_i64]; omega
      have hne : ∀ W : World, (binOp .neq 28 (wag x y z m v p q) (wag x y z m v p q)).run Try.prog W = .ok (.bool false) W := fun W => by rw [neqWait]; simp
      go_wp2
      go_quiet (fail)
      go_wp2
      go_roundw
      case rel => exact ⟨k + 1, by omega, by go_num, bdN hbl.out _⟩
      case measure => simp [intOf]; omega
    · go_wp2
      go_ret
      exact ⟨rfl, hbl.out⟩
/-! ### Valid lines -/
def okW (l : List Wt) (j : Nat) : Prop := vW (l.getD j default) = true ∧ findW l (l.getD j default).1 = (j : Int)
theorem findW_own {l : List Wt} {j : Nat} (hj : j < l.length) : findW l (l.getD j default).1 = (j : Int) ↔ ∀ i, i < j → (l.getD i default).1 ≠ (l.getD j default).1 := by
  constructor
  · intro h i hi e
    have h1 : ∃ i, i < l.length ∧ (l.getD i default).1 = (l.getD j default).1 ∧ ∀ k, k < i → ¬ (l.getD k default).1 = (l.getD j default).1 := by
      induction i using Nat.strongRecOn with
      | ind i ih =>
        by_cases hx : ∃ k, k < i ∧ (l.getD k default).1 = (l.getD j default).1
        · obtain ⟨k, hk, e'⟩ := hx
          exact ih k hk (by omega) e'
        · exact ⟨i, by omega, e, fun k hk e' => hx ⟨k, hk, e'⟩⟩
    obtain ⟨m, hm, e', hno⟩ := h1
    have h2 := findW_at hm hno e'
    have h3 : m ≤ i := by
      rcases Nat.lt_or_ge i m with hlt | hge
      · exact absurd e (hno i hlt)
      · exact hge
    omega
  · intro h
    exact findW_at hj (fun i hi => h i hi) rfl
theorem VL_iff {l : List Wt} : VL l ↔ l.length ≤ 8 ∧ ∀ j, j < l.length → okW l j := by
  unfold VL
  refine and_congr_right fun _ => ⟨fun h j hj => ⟨h.1 _ (getD_memW hj), (findW_own hj).2 fun i hi e => ?_⟩, fun h => ⟨fun x hx => ?_, ?_⟩⟩
  · have h1 := List.pairwise_iff_getElem.1 h.2 i j (by omega) hj hi
    rw [List.getD_eq_getElem?_getD, List.getElem?_eq_getElem (by omega), List.getD_eq_getElem?_getD, List.getElem?_eq_getElem hj] at e
    exact h1 e
  · obtain ⟨i, hi, rfl⟩ := mem_getDW hx
    exact (h i hi).1
  · refine List.pairwise_iff_getElem.2 fun i j hi hj hij e => ?_
    refine (findW_own hj).1 (h j hj).2 i hij ?_
    rw [List.getD_eq_getElem?_getD, List.getElem?_eq_getElem hi, List.getD_eq_getElem?_getD, List.getElem?_eq_getElem hj]
    exact e
end Go.Proofs.Ytfcekfdoafpmoaa
