/- CatalogNames walked. -/
import Derived.Test.YtmfdafffafbmpaaDoorCall
namespace Go.Proofs.YtmfdafffafbmpaaDoor
set_option linter.unusedVariables false
open Go.RowKit
set_option maxHeartbeats 1000000 in
theorem CatalogNames_walk (s0 : ByteArray) (w : World) (hV : Vars w) (w0 : s0.size ≤ 140737488351232) :
    Calls Tryd.prog 3 #[.string s0] w fun e w' => e = .returned (.bool true) ∧ Below w.heap.size w w' := by
  obtain ⟨a, ha⟩ : ∃ v, Hid (rsv s0 = v) := ⟨_, rfl⟩
  obtain ⟨b, hb⟩ := nam_ex s0
  clear hV w0
  go_enter Tryd.func3, Tryd.ntmps3
  go_wp2_with (first
    | (go_at_call 13; refine (awake_any _).mono ?_; rintro e W1 ⟨rfl, hb1⟩; have HB1 := Lib.hid hb1; clear hb1)
    | (go_at_call 14; refine (rsv_is _ _ ha).mono ?_; rintro e W2 ⟨rfl, rfl⟩)
    | (go_at_call 15; refine (refRsv_is _ _ ha).mono ?_; rintro e W2 ⟨rfl, rfl⟩)
    | (go_at_call 16; refine (nam_is _ _ hb).mono ?_; rintro e W2 ⟨rfl, rfl⟩)
    | (go_at_call 17; refine (refNam_is _ _ hb).mono ?_; rintro e W2 ⟨rfl, rfl⟩))
  go_ret
  exact ⟨by simp, HB1.out⟩
end Go.Proofs.YtmfdafffafbmpaaDoor
