/- LexerSpace walked. -/
import Derived.Test.YtgigibdnhpachaaDoorLawake
namespace Go.Proofs.YtgigibdnhpachaaDoor
set_option linter.unusedVariables false
open Go.RowKit
set_option maxHeartbeats 1000000 in
theorem LexerSpace_walk (a0 : Int) (w : World) (hV : VX w) (w0 : (Lit.int .u8 a0).wf = true) :
    Calls Tryd.prog 4 #[.int .u8 a0] w fun e w' => e = .returned (.bool true) ∧ Below w.heap.size w w' := by
  have HV := Lib.hid hV
  clear hV w0
  obtain ⟨v, hv⟩ : ∃ v, Hid (spc a0 = v) := ⟨_, rfl⟩
  have hvv : (v == v) = true := by cases v <;> rfl
  go_enter Tryd.func4, Tryd.ntmps4
  go_wp2_with (first
    | (go_at_call 11; refine (awake_any _ HV.out).mono ?_; rintro e W1 ⟨rfl, hb1⟩; have HB1 := Lib.hid hb1; clear hb1)
    | (go_at_call 13; refine (spc_is _ _ hv).mono ?_; rintro e W2 ⟨rfl, rfl⟩)
    | (go_at_call 14; refine (refSpc_is _ _ hv).mono ?_; rintro e W3 ⟨rfl, rfl⟩))
  all_goals (
    go_ret
    exact ⟨by simp, HB1.out⟩)
end Go.Proofs.YtgigibdnhpachaaDoor
