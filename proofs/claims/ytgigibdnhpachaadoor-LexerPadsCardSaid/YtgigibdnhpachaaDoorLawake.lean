/- Contract: the statements' own example. -/
import Derived.Test.YtgigibdnhpachaaDoorLsame
namespace Go.Proofs.YtgigibdnhpachaaDoor
open Go.RowKit
open Go.Sort (grow)
set_option linter.unusedVariables false
set_option linter.unusedSimpArgs false

def exL : List T4 := [(3, mkB [], 2, 0), (1, mkB [111, 102], 0, 2), (4, mkB [40], 0, 4), (1, mkB [97], 0, 5), (4, mkB [58], 0, 6), (2, mkB [83], 3, 7), (4, mkB [41], 0, 8), (5, mkB [], 0, 9)]
theorem ex_lex : lexR ⟨#[50, 32, 111, 102, 40, 97, 58, 83, 41]⟩ = (exL, 0, 0) := by kernel_rfl
set_option maxHeartbeats 1000000 in
theorem awake_any (w : World) (hV : VX w) : Calls Tryd.prog 11 #[] w fun e w' => e = .returned (.bool true) ∧ Below w.heap.size w w' := by
  have hx := Lib.hid ex_lex
  have hsp : Hid (spc 32 = true) := by show _ = _; decide
  have hof : ((mkB [111, 102]).toList == [111, 102]) = true := by rw [mkB_toList]; decide
  have HV := Lib.hid hV
  clear hV
  go_enter Tryd.func11, Tryd.ntmps11
  go_wp2_with (first
    | (go_at_call 9; refine (tokens_is _ _ HV.out hx).mono ?_; rintro e W1 ⟨A, m, c, rfl, hr, hb1⟩; obtain rfl : m = 8 := hr.len.symm; obtain ⟨b, o, rfl, hlt, hz⟩ := hr.rd (by unfold exL; simp); have z0 := hz 0 (by decide); have z1 := hz 1 (by decide); have z5 := hz 5 (by decide); have z7 := hz 7 (by decide); obtain ⟨_, _, z0, _⟩ := z0; obtain ⟨_, z1, _, _⟩ := z1; obtain ⟨_, _, z5, _⟩ := z5; obtain ⟨z7, _, _, _⟩ := z7; have HB1 := Lib.hid hb1; clear hz hr hb1; simp [exL] at z0 z1 z5 z7)
    | (go_at_call 13; refine (spc_is _ _ hsp).mono ?_; rintro e W2 ⟨rfl, rfl⟩))
  go_ret
  exact ⟨rfl, HB1.out⟩
end Go.Proofs.YtgigibdnhpachaaDoor
