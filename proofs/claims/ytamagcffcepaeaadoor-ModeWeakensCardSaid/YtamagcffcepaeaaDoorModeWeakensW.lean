/- ModeWeakens walked. -/
import Derived.Test.YtamagcffcepaeaaDoorMawake
namespace Go.Proofs.YtamagcffcepaeaaDoor
set_option linter.unusedVariables false
open Go.RowKit
theorem cpt_weak {a b c : Int} (h : cov a b = true) (k : cpt a c = true) : cpt b c = true := by
  have h' := cov_is h
  unfold cpt at *
  simp at *
  omega
set_option maxHeartbeats 1000000 in
theorem ModeWeakens_walk (a0 : Int) (a1 : Int) (a2 : Int) (w : World) (hV : Vars w) (w0 : (Lit.int .i64 a0).wf = true) (w1 : (Lit.int .i64 a1).wf = true) (w2 : (Lit.int .i64 a2).wf = true) :
    Calls Tryd.prog 7 #[.int .i64 a0, .int .i64 a1, .int .i64 a2] w fun e w' => e = .returned (.bool true) ∧ Below w.heap.size w w' := by
  have HV := Lib.hid hV
  clear hV w0 w1 w2
  go_enter Tryd.func7, Tryd.ntmps7
  go_wp2_with (first
    | (go_at_call 10; refine (awake_any _ HV.out).mono ?_; rintro e W1 ⟨rfl, hb1⟩)
    | (go_at_call 11; refine (valid_any _ _).mono ?_; rintro e W2 ⟨rfl, rfl⟩)
    | (go_at_call 12; refine (refValid_any _ _).mono ?_; rintro e W2 ⟨rfl, rfl⟩)
    | (go_at_call 13; refine (cpt_any _ _ _ (by first | exact HV.out | exact HV.out.below (by assumption))).mono ?_; rintro e W2 ⟨rfl, rfl⟩)
    | (go_at_call 14; refine (refCpt_any _ _ _).mono ?_; rintro e W2 ⟨rfl, rfl⟩)
    | (go_at_call 15; refine (covers_any _ _ _).mono ?_; rintro e W2 ⟨rfl, rfl⟩)
    | (go_at_call 16; refine (refCovers_any _ _ _).mono ?_; rintro e W2 ⟨rfl, rfl⟩)
    | (go_at_call 17; refine (sup_any _ _ _).mono ?_; rintro e W2 ⟨rfl, rfl⟩)
    | (go_at_call 18; refine (refSup_any _ _ _).mono ?_; rintro e W2 ⟨rfl, rfl⟩))
  all_goals first
    | (go_ret; exact ⟨rfl, hb1⟩)
    | (go_ret; exact ⟨ret_bool (cpt_weak (a := a0) (b := a1) (c := a2) (by assumption) (by assumption)), hb1⟩)
end Go.Proofs.YtamagcffcepaeaaDoor
