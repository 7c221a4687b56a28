/- IdentNext walked. -/
import Derived.Test.YtchffamnamhcdaaDoorIawake
namespace Go.Proofs.YtchffamnamhcdaaDoor
set_option linter.unusedVariables false
open Go.RowKit
theorem IdentNext_walk (a0 : Int) (w : World) (hV : Vars w) (w0 : (Lit.int .i64 a0).wf = true) :
    Calls Tryd.prog 12 #[.int .i64 a0] w fun e w' => e = .returned (.bool true) ∧ Below w.heap.size w w' := by
  obtain ⟨r, hr⟩ : ∃ r, Hid (nextI a0 = r) := ⟨_, rfl⟩
  have hk := next_ok a0
  rw [hr.out] at hk
  obtain ⟨k1, k2, k3⟩ := hk
  have HV := Lib.hid hV
  clear hV
  have hn : (r == a0) = false := by simpa using k3
  have hn2 := Lib.hid (bne_iff_ne.2 k3)
  go_enter Tryd.func12, Tryd.ntmps12
  go_wp2_with (first
    | (go_at_call 37; refine (next_is _ _ hr).mono ?_; rintro e W1 ⟨rfl, rfl⟩)
    | (go_at_call 14; refine (awake_any _ HV.out).mono ?_; rintro e W2 ⟨rfl, hb2⟩)
    | (go_at_call 38; refine (refNext_is _ _ hr).mono ?_; rintro e W1 ⟨rfl, rfl⟩))
  go_ret
  exact ⟨ret_bool hn2.out, hb2⟩
end Go.Proofs.YtchffamnamhcdaaDoor
