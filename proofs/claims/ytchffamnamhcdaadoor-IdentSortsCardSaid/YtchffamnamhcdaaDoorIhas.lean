/- ident.HasProc: slices.Index, slices.Contains at processes. -/
import Derived.Test.YtchffamnamhcdaaDoorIrows
namespace Go.Proofs.YtchffamnamhcdaaDoor
set_option linter.unusedVariables false
open Go.RowKit

set_option maxHeartbeats 1000000 in
set_option maxRecDepth 8000 in
theorem index_any (A : Option Addr) (n c : Nat) (ps : List P3) (a b d : Int) (w : World) (h : PRd w A ps) (hn : Hid (ps.length = n)) (hm : Hid (n ≤ 100)) :
    Calls Tryd.prog 66 #[.slice A n c, .agg #[.int .i64 a, .int .i64 b, .int .i64 d]] w fun e w' => ∃ r : Int, e = .returned (.int .i64 r) ∧ ((0 ≤ r ∧ (a, b, d) ∈ ps) ∨ (r = -1 ∧ ¬ (a, b, d) ∈ ps)) ∧ Below w.heap.size w w' := by
  have HR := Lib.hid h
  clear h
  go_enter Tryd.func66, Tryd.ntmps66
  go_wp2
  go_loopw [8] (fun i wr => ∃ (k : Nat), k ≤ n ∧ i = .int .i64 k ∧ Hid (B3 wr w.heap.size (.int .i64 a) (.int .i64 b) (.int .i64 d)) ∧ Hid (Below w.heap.size w wr) ∧ Hid (∀ j, j < k → ¬ ps.getD j default = (a, b, d))) (fun i _ => n - (intOf i).toNat)
  case atStart => exact ⟨0, by omega, rfl, B3.new _ _ _ _ _, newB _ _, fun j hj => by omega⟩
  case round =>
    obtain ⟨k, hk, rfl, hbx, hbl, hno⟩ := hrel
    obtain ⟨i0, i1, i2, i3⟩ := hbx.out
    by_cases hlt : (k : Int) < (n : Int)
    · obtain ⟨g, o, x, y, z, rfl, hg, hxyz, c1, c2, c3⟩ := (HR.out.below hbl.out).at_ (i := k) (by have := hn.out; omega)
      have e5 : IntKind.i64.wrap ((k : Int) + 1) = (k : Int) + 1 := by have := hm.out; rw [IntKind.wrap_i64]; omega
      by_cases he : x = a ∧ y = b ∧ z = d
      · obtain ⟨rfl, rfl, rfl⟩ := he
        have hyes : Hid ((x, y, z) ∈ ps) := by
          rw [← hxyz.out]
          exact getD_mem (by have := hn.out; omega)
        go_wp2
        go_quiet (fail)
        go_wp2
        go_ret
        exact ⟨k, rfl, .inl ⟨by omega, hyes.out⟩, bdN hbl.out _⟩
      · have hno2 : Hid (∀ j, j < k + 1 → ¬ ps.getD j default = (a, b, d)) := fun j hj e => by
          by_cases hjk : j = k
          · subst hjk
            rw [hxyz.out] at e
            exact he (by simpa using e)
          · exact hno.out j (by omega) e
        have hne := eqPr_no (x := a) (y := b) (z := d) (a := x) (b := y) (c := z) (fun e => he ⟨e.1.symm, e.2.1.symm, e.2.2.symm⟩)
        clear he
        go_wp2
        go_quiet (fail)
        go_wp2
        go_roundw
        case rel => exact ⟨k + 1, by omega, by go_num, hbx.out.below (bdN (Below.refl _ _) _), bdN hbl.out _, hno2⟩
        case measure => simp [intOf]; omega
    · have hmiss : Hid (¬ (a, b, d) ∈ ps) := fun hmem => by
        obtain ⟨i, hi, he⟩ := mem_getD hmem
        exact hno.out i (by have := hn.out; omega) he
      go_wp2
      go_ret
      exact ⟨-1, rfl, .inr ⟨rfl, hmiss.out⟩, hbl.out⟩

set_option maxHeartbeats 400000 in
theorem contains_any (A : Option Addr) (n c : Nat) (ps : List P3) (a b d : Int) (w : World) (h : PRd w A ps) (hn : Hid (ps.length = n)) (hm : Hid (n ≤ 100)) {r : Bool} (hr : Hid (r = decide ((a, b, d) ∈ ps))) :
    Calls Tryd.prog 53 #[.slice A n c, .agg #[.int .i64 a, .int .i64 b, .int .i64 d]] w fun e w' => e = .returned (.bool r) ∧ Below w.heap.size w w' := by
  have HR := Lib.hid h
  clear h
  by_cases hmem : (a, b, d) ∈ ps
  · have hyes : Hid (r = true) := by show _ = _; rw [hr.out, decide_eq_true hmem]
    have HM := Lib.hid hmem
    clear hmem
    go_enter Tryd.func53, Tryd.ntmps53
    go_wp2_with (go_at_call 66; refine (index_any _ _ _ _ _ _ _ _ (HR.out.below (newB w _)) hn hm).mono ?_; rintro e W1 ⟨q, rfl, hq, hb1⟩; have hq0 : 0 ≤ q := hq.elim (fun h => h.1) (fun h => absurd HM.out h.2))
    go_ret
    exact ⟨by rw [hyes.out]; rfl, nx (newB w _) hb1⟩
  · have hyes : Hid (r = false) := by show _ = _; rw [hr.out, decide_eq_false hmem]
    have HM := Lib.hid hmem
    clear hmem
    go_enter Tryd.func53, Tryd.ntmps53
    go_wp2_with (go_at_call 66; refine (index_any _ _ _ _ _ _ _ _ (HR.out.below (newB w _)) hn hm).mono ?_; rintro e W1 ⟨q, rfl, hq, hb1⟩; have hq0 : q = -1 := hq.elim (fun h => absurd h.2 HM.out) (fun h => h.1); subst hq0)
    go_ret
    exact ⟨by rw [hyes.out]; rfl, nx (newB w _) hb1⟩

theorem has_any (A : Option Addr) (n c : Nat) (ps : List P3) (a b d : Int) (w : World) (h : PRd w A ps) (hn : Hid (ps.length = n)) (hm : Hid (n ≤ 100)) {r : Bool} (hr : Hid (r = decide ((a, b, d) ∈ ps))) :
    Calls Tryd.prog 29 #[.slice A n c, .agg #[.int .i64 a, .int .i64 b, .int .i64 d]] w fun e w' => e = .returned (.bool r) ∧ Below w.heap.size w w' := by
  have HR := Lib.hid h
  clear h
  go_enter Tryd.func29, Tryd.ntmps29
  go_wp2_with (go_at_call 53; refine (contains_any _ _ _ _ _ _ _ _ (HR.out.below (newB w _)) hn hm hr).mono ?_; rintro e W1 ⟨rfl, hb1⟩)
  go_ret
  exact ⟨rfl, nx (newB w _) hb1⟩
end Go.Proofs.YtchffamnamhcdaaDoor
