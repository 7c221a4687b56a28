/- LexerTokens walked. -/
import Derived.Test.YtgigibdnhpachaaDoorLawake
import Derived.Test.YtgigibdnhpachaaDoorLref
namespace Go.Proofs.YtgigibdnhpachaaDoor
set_option linter.unusedVariables false
open Go.RowKit
set_option maxHeartbeats 1000000 in
set_option maxRecDepth 8000 in
theorem LexerTokens_walk (s0 : ByteArray) (w : World) (hV : VX w) (w0 : s0.size ≤ 140737488351232) :
    Calls Tryd.prog 3 #[.string s0] w fun e w' => e = .returned (.bool true) ∧ Below w.heap.size w w' := by
  have HV := Lib.hid hV
  clear hV w0
  obtain ⟨x, a, e, hx⟩ : ∃ x a e, Hid (lexR s0 = (x, a, e)) := ⟨_, _, _, rfl⟩
  go_enter Tryd.func3, Tryd.ntmps3
  go_wp2_with (first
    | (go_at_call 9; refine (tokens_is _ _ HV.out hx).mono ?_; rintro e W1 ⟨A1, m1, c1, rfl, hr1, hb1⟩; have HR1 := Lib.hid hr1; have HB1 := Lib.hid hb1; clear hr1 hb1)
    | (go_at_call 10; refine (refTokens_is _ _ hx).mono ?_; rintro e W2 ⟨A2, m2, c2, rfl, hr2, hb2⟩; have HR2 := Lib.hid hr2; have HR3 := Lib.hid (HR1.out.below hb2); have HB2 := Lib.hid (nx HB1.out hb2); clear hr2 hb2)
    | (go_at_call 11; refine (awake_any _ (HV.out.below HB2.out)).mono ?_; rintro e W3 ⟨rfl, hb3⟩; have HR4 := Lib.hid (HR2.out.below hb3); have HR5 := Lib.hid (HR3.out.below hb3); have HB3 := Lib.hid (nx HB2.out hb3); clear hb3)
    | (go_at_call 12; refine (same_yes _ _ _ _ _ _ _ _ HR5.out HR4.out).mono ?_; rintro e W4 ⟨rfl, hb4⟩; have HB4 := Lib.hid (nx HB3.out hb4); clear hb4))
  all_goals (
    go_ret
    exact ⟨by simp, HB4.out⟩)
end Go.Proofs.YtgigibdnhpachaaDoor
