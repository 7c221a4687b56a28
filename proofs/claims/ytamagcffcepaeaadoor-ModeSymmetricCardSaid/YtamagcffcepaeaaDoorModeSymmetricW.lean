/- ModeSymmetric walked. -/
import Derived.Test.YtamagcffcepaeaaDoorMawake
namespace Go.Proofs.YtamagcffcepaeaaDoor
set_option linter.unusedVariables false
open Go.RowKit
theorem cpt_comm (a b : Int) : cpt a b = cpt b a := by unfold cpt; rw [Bool.eq_iff_iff]; simp; omega
theorem cov_self (a : Int) : cov a a = vmd a := by unfold cov vmd; rw [Bool.eq_iff_iff]; simp; omega
theorem cov_anti {a b : Int} (h : cov a b = true) (k : cov b a = true) : a = b := by have := cov_is h; have := cov_is k; omega
theorem cov_trans {a b c : Int} (h : cov a b = true) (k : cov b c = true) : cov a c = true := by have := cov_is h; have := cov_is k; exact cov_mk (by omega)
set_option maxHeartbeats 1000000 in
theorem ModeSymmetric_walk (a0 : Int) (a1 : Int) (a2 : Int) (w : World) (hV : Vars w) (w0 : (Lit.int .i64 a0).wf = true) (w1 : (Lit.int .i64 a1).wf = true) (w2 : (Lit.int .i64 a2).wf = true) :
    Calls Tryd.prog 4 #[.int .i64 a0, .int .i64 a1, .int .i64 a2] w fun e w' => e = .returned (.bool true) ∧ Below w.heap.size w w' := by
  have HV := Lib.hid hV
  clear hV w0 w1 w2
  have e1 := cpt_comm a0 a1
  have e2 := cov_self a0
  go_enter Tryd.func4, Tryd.ntmps4
  go_wp2_with (first
    | (go_at_call 10; refine (awake_any _ HV.out).mono ?_; rintro e W1 ⟨rfl, hb1⟩)
    | (go_at_call 11; refine (valid_any _ _).mono ?_; rintro e W2 ⟨rfl, rfl⟩)
    | (go_at_call 12; refine (refValid_any _ _).mono ?_; rintro e W2 ⟨rfl, rfl⟩)
    | (go_at_call 13; refine (cpt_any _ _ _ (by first | exact HV.out | exact HV.out.below (by assumption))).mono ?_; rintro e W2 ⟨rfl, rfl⟩)
    | (go_at_call 14; refine (refCpt_any _ _ _).mono ?_; rintro e W2 ⟨rfl, rfl⟩)
    | (go_at_call 15; refine (covers_any _ _ _).mono ?_; rintro e W2 ⟨rfl, rfl⟩)
    | (go_at_call 16; refine (refCovers_any _ _ _).mono ?_; rintro e W2 ⟨rfl, rfl⟩)
    | (go_at_call 17; refine (sup_any _ _ _).mono ?_; rintro e W2 ⟨rfl, rfl⟩)
    | (go_at_call 18; refine (refSup_any _ _ _).mono ?_; rintro e W2 ⟨rfl, rfl⟩))
  all_goals first
    | (exfalso; have h1 := cov_anti (a := a0) (b := a1) (by assumption) (by assumption); subst h1; simp at *; done)
    | (go_ret; exact ⟨rfl, hb1⟩)
    | (go_ret; exact ⟨ret_bool (cov_trans (a := a0) (b := a1) (c := a2) (by assumption) (by assumption)), hb1⟩)
end Go.Proofs.YtamagcffcepaeaaDoor
