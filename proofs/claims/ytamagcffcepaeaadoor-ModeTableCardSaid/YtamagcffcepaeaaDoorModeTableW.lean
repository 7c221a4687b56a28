/- ModeTable walked. -/
import Derived.Test.YtamagcffcepaeaaDoorMawake
namespace Go.Proofs.YtamagcffcepaeaaDoor
set_option linter.unusedVariables false
open Go.RowKit
set_option maxHeartbeats 1000000 in
theorem ModeTable_walk (a0 : Int) (a1 : Int) (w : World) (hV : Vars w) (w0 : (Lit.int .i64 a0).wf = true) (w1 : (Lit.int .i64 a1).wf = true) :
    Calls Tryd.prog 3 #[.int .i64 a0, .int .i64 a1] w fun e w' => e = .returned (.bool true) ∧ Below w.heap.size w w' := by
  have HV := Lib.hid hV
  clear hV w0 w1
  go_enter Tryd.func3, Tryd.ntmps3
  go_wp2_with (first
    | (go_at_call 10; refine (awake_any _ HV.out).mono ?_; rintro e W1 ⟨rfl, hb1⟩)
    | (go_at_call 11; refine (valid_any _ _).mono ?_; rintro e W2 ⟨rfl, rfl⟩)
    | (go_at_call 12; refine (refValid_any _ _).mono ?_; rintro e W2 ⟨rfl, rfl⟩)
    | (go_at_call 13; refine (cpt_any _ _ _ (HV.out.below hb1)).mono ?_; rintro e W2 ⟨rfl, rfl⟩)
    | (go_at_call 14; refine (refCpt_any _ _ _).mono ?_; rintro e W2 ⟨rfl, rfl⟩)
    | (go_at_call 15; refine (covers_any _ _ _).mono ?_; rintro e W2 ⟨rfl, rfl⟩)
    | (go_at_call 16; refine (refCovers_any _ _ _).mono ?_; rintro e W2 ⟨rfl, rfl⟩))
  all_goals trace_state
  all_goals (go_ret; exact ⟨rfl, hb1⟩)
end Go.Proofs.YtamagcffcepaeaaDoor
