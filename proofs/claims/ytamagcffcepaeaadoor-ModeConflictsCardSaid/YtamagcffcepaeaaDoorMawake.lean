/- The contract of the statements' own examples. -/
import Derived.Test.YtamagcffcepaeaaDoorMgrp
namespace Go.Proofs.YtamagcffcepaeaaDoor
set_option linter.unusedVariables false
open Go.RowKit

theorem parse_is (s : ByteArray) (w : World) (hV : Vars w) {r : Int} {b : Bool} (h : Hid (prs s = r)) (hb : Hid (decide (1 ≤ r) = b)) : Calls Tryd.prog 23 #[.string s] w fun e w' => e = .returned (.tuple #[.int .i64 r, .bool b]) ∧ w = w' := by
  rw [← hb.out, ← h.out]
  exact parse_any s w hV
theorem sup_is (a b : Int) (w : World) {r : Int} (h : Hid (sup a b = r)) : Calls Tryd.prog 17 #[.int .i64 a, .int .i64 b] w fun e w' => e = .returned (.int .i64 r) ∧ w = w' := by
  rw [← h.out]
  exact sup_any a b w
theorem conflicts_is (m : Int) (w : World) (hV : Vars w) {xs : List Int} (h : Hid (cfl m = xs)) {n : Nat} (hn : Hid (xs.length = n)) :
    Calls Tryd.prog 21 #[.int .i64 m] w fun e w' => ∃ A c, e = .returned (.slice A n c) ∧ n ≤ c ∧ IRd w' A xs ∧ Below w.heap.size w w' := by
  refine (conflicts_any m w hV).mono fun e w' h' => ?_
  obtain ⟨V, rfl, ho, hb⟩ := h'
  rw [h.out] at ho
  obtain ⟨A, c, rfl, hc, hr⟩ := ho.form
  rw [hn.out] at *
  exact ⟨A, c, rfl, hc, hr, hb⟩
set_option maxHeartbeats 1000000 in
theorem awake_any (w : World) (hV : Vars w) : Calls Tryd.prog 10 #[] w fun e w' => e = .returned (.bool true) ∧ Below w.heap.size w w' := by
  have hp : Hid (prs ⟨#[83, 73, 88]⟩ = 4) := by show _ = _; decide
  have hp2 : Hid (decide ((1 : Int) ≤ 4) = true) := by show _ = _; decide
  have hs : Hid (sup 2 3 = 4) := by show _ = _; decide
  have hc : Hid (cpt 4 1 = true) := by show _ = _; decide
  have hf : Hid (cfl 2 = [3, 4, 5]) := by show _ = _; decide
  have hl : Hid (([3, 4, 5] : List Int).length = 3) := by show _ = _; decide
  have HV := Lib.hid hV
  clear hV
  go_enter Tryd.func10, Tryd.ntmps10
  go_wp2_with (first
    | (go_at_call 23; refine (parse_is _ _ HV.out hp hp2).mono ?_; rintro e W1 ⟨rfl, rfl⟩)
    | (go_at_call 17; refine (sup_is _ _ _ hs).mono ?_; rintro e W1 ⟨rfl, rfl⟩)
    | (go_at_call 13; refine (cpt_is _ _ _ HV.out hc).mono ?_; rintro e W1 ⟨rfl, rfl⟩)
    | (go_at_call 21; refine (conflicts_is _ _ HV.out hf hl).mono ?_; rintro e W1 ⟨A, c, rfl, hAc, hA, hb1⟩))
  go_ret
  exact ⟨rfl, hb1⟩
end Go.Proofs.YtamagcffcepaeaaDoor
