/- CatalogRemoves walked. -/
import Derived.Test.YtmfdafffafbmpaaDoorCall
namespace Go.Proofs.YtmfdafffafbmpaaDoor
set_option linter.unusedVariables false
open Go.RowKit
set_option maxHeartbeats 2000000 in
theorem CatalogRemoves_walk (A0 : Option Addr) (n0 c0 : Nat) (x0 : List P4) (s1 : ByteArray) (w : World) (hV : Vars w) (w0 : InR w A0 n0 c0 x0) (w1 : s1.size ≤ 140737488351232) :
    Calls Tryd.prog 6 #[.slice A0 n0 c0, .string s1] w fun e w' => e = .returned (.bool true) ∧ Below w.heap.size w w' := by
  obtain ⟨e0, x, hi⟩ : ∃ e x, Hid (Rem x0 s1 e x) := rem_ex x0 s1
  obtain ⟨s, k, u, h, b, hf⟩ := fnd_ex x0 s1
  have HI := Lib.hid w0
  have q0 : ∀ W, (binOp .eql 26 (ra s k u h) (ra s k u h)).run Tryd.prog W = .ok (.bool true) W := fun W => by rw [eqRes]; simp [eqS_self]
  clear hV w0 w1
  go_enter Tryd.func6, Tryd.ntmps6
  go_wp2_with (first
    | (go_at_call 25; refine (find_is _ _ _ _ _ _ HI.out hf).mono ?_; rintro e W1 ⟨rfl, hb1⟩; have HB1 := Lib.hid hb1; clear hb1)
    | (go_at_call 26; refine (refFind_is _ _ _ _ _ _ (HI.out.below (nxA HB1.out _)) hf).mono ?_; rintro e W2 ⟨rfl, hb2⟩; have HB2 := Lib.hid hb2; clear hb2)
    | (go_at_call 27; refine (remove_is _ _ _ _ _ _ (HI.out.below (nxA (nx (nxA HB1.out _) HB2.out) _)) hi).mono ?_; rintro e W3 ⟨A3, m3, k3, rfl, hr3, hb3⟩; have HR3 := Lib.hid hr3; have HB3 := Lib.hid hb3; clear hr3 hb3)
    | (go_at_call 28; refine (refRemove_is _ _ _ _ _ _ (HI.out.below (nx (nxA (nx (nxA HB1.out _) HB2.out) _) HB3.out)) hi).mono ?_; rintro e W4 ⟨A4, m4, k4, rfl, hr4, hb4⟩; have HR4 := Lib.hid hr4; have HB4 := Lib.hid hb4; clear hr4 hb4)
    | (go_at_call 13; refine (awake_any _).mono ?_; rintro e W5 ⟨rfl, hb5⟩; have HB5 := Lib.hid hb5; clear hb5; obtain ⟨g1, g2, g3, g4⟩ := S4.of (nx (nx (nx (nxA HB2.out _) HB3.out) HB4.out) HB5.out) (by simp) (S4.new W1 s k u h); obtain ⟨g5, g6, g7, g8⟩ := S4.of (nx (nx HB3.out HB4.out) HB5.out) (by simp) (S4.new W2 s k u h))
    | (go_at_call 24; refine (same_yes _ _ _ _ _ _ _ _ (HR3.out.below (nx HB4.out HB5.out)) (HR4.out.below HB5.out)).mono ?_; rintro e W6 ⟨rfl, hb6⟩; have HB6 := Lib.hid hb6; clear hb6))
  go_ret
  exact ⟨by simp, nx (nx (nx (nx (nxA (nx (nxA HB1.out _) HB2.out) _) HB3.out) HB4.out) HB5.out) HB6.out⟩
end Go.Proofs.YtmfdafffafbmpaaDoor
