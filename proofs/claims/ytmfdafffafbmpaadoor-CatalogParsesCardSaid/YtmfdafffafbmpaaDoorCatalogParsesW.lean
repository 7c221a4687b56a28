/- CatalogParses walked. -/
import Derived.Test.YtmfdafffafbmpaaDoorCrps
namespace Go.Proofs.YtmfdafffafbmpaaDoor
set_option linter.unusedVariables false
open Go.RowKit
set_option maxHeartbeats 2000000 in
set_option maxRecDepth 8000 in
theorem CatalogParses_walk (s0 : ByteArray) (w : World) (hV : VP w) (w0 : s0.size ≤ 140737488351232) :
    Calls Tryd.prog 11 #[.string s0] w fun e w' => e = .returned (.bool true) ∧ Below w.heap.size w w' := by
  obtain ⟨x, e, hp⟩ := pres_ex s0
  have HV := Lib.hid hV
  have hcs : (e = 0 ∧ Fmt x s0) ∨ e = 3 ∨ e = 6 := by
    rcases hp.out with ⟨_, _, h⟩ | ⟨_, h1, h2, h3⟩ | ⟨_, _, _, h⟩
    · exact .inr (.inl h)
    · exact .inl ⟨h3, .inl ⟨h1, h2⟩⟩
    · exact .inr (.inr h)
  clear hV w0
  rcases hcs with ⟨rfl, hf⟩ | rfl | rfl
  · have hf := Lib.hid hf
    go_enter Tryd.func11, Tryd.ntmps11
    go_wp2_with (first
      | (go_at_call 35; refine (parse_prog _ _ HV.out hp).mono ?_; rintro e W1 ⟨A1, m1, c1, rfl, hr1, hb1⟩; have HR1 := Lib.hid hr1; have HB1 := Lib.hid hb1; clear hr1 hb1)
      | (go_at_call 36; refine (refParse_is _ _ hp).mono ?_; rintro e W2 ⟨A2, m2, c2, rfl, hr2, hb2⟩; have HR2 := Lib.hid hr2; have HR3 := Lib.hid (HR1.out.below hb2); have HB2 := Lib.hid (nx HB1.out hb2); clear hr2 hb2)
      | (go_at_call 13; refine (awake_any _).mono ?_; rintro e W3 ⟨rfl, hb3⟩; have HR4 := Lib.hid (HR2.out.below hb3); have HR5 := Lib.hid (HR3.out.below hb3); have HB3 := Lib.hid (nx HB2.out hb3); clear hb3)
      | (go_at_call 24; refine (same_yes _ _ _ _ _ _ _ _ HR5.out HR4.out).mono ?_; rintro e W4 ⟨rfl, hb4⟩; have HR6 := Lib.hid (HR5.out.below hb4); have HB4 := Lib.hid (nx HB3.out hb4); clear hb4)
      | (go_at_call 33; refine (format_is _ _ _ _ _ HR6.out hf).mono ?_; rintro e W5 ⟨rfl, hb5⟩; have HB5 := Lib.hid (nx HB4.out hb5); clear hb5))
    go_ret
    exact ⟨by simp, HB5.out⟩
  · go_enter Tryd.func11, Tryd.ntmps11
    go_wp2_with (first
      | (go_at_call 35; refine (parse_prog _ _ HV.out hp).mono ?_; rintro e W1 ⟨A1, m1, c1, rfl, hr1, hb1⟩; have HR1 := Lib.hid hr1; have HB1 := Lib.hid hb1; clear hr1 hb1)
      | (go_at_call 36; refine (refParse_is _ _ hp).mono ?_; rintro e W2 ⟨A2, m2, c2, rfl, hr2, hb2⟩; have HR2 := Lib.hid hr2; have HR3 := Lib.hid (HR1.out.below hb2); have HB2 := Lib.hid (nx HB1.out hb2); clear hr2 hb2)
      | (go_at_call 13; refine (awake_any _).mono ?_; rintro e W3 ⟨rfl, hb3⟩; have HR4 := Lib.hid (HR2.out.below hb3); have HR5 := Lib.hid (HR3.out.below hb3); have HB3 := Lib.hid (nx HB2.out hb3); clear hb3)
      | (go_at_call 24; refine (same_yes _ _ _ _ _ _ _ _ HR5.out HR4.out).mono ?_; rintro e W4 ⟨rfl, hb4⟩; have HR6 := Lib.hid (HR5.out.below hb4); have HB4 := Lib.hid (nx HB3.out hb4); clear hb4))
    go_ret
    exact ⟨by simp, HB4.out⟩
  · go_enter Tryd.func11, Tryd.ntmps11
    go_wp2_with (first
      | (go_at_call 35; refine (parse_prog _ _ HV.out hp).mono ?_; rintro e W1 ⟨A1, m1, c1, rfl, hr1, hb1⟩; have HR1 := Lib.hid hr1; have HB1 := Lib.hid hb1; clear hr1 hb1)
      | (go_at_call 36; refine (refParse_is _ _ hp).mono ?_; rintro e W2 ⟨A2, m2, c2, rfl, hr2, hb2⟩; have HR2 := Lib.hid hr2; have HR3 := Lib.hid (HR1.out.below hb2); have HB2 := Lib.hid (nx HB1.out hb2); clear hr2 hb2)
      | (go_at_call 13; refine (awake_any _).mono ?_; rintro e W3 ⟨rfl, hb3⟩; have HR4 := Lib.hid (HR2.out.below hb3); have HR5 := Lib.hid (HR3.out.below hb3); have HB3 := Lib.hid (nx HB2.out hb3); clear hb3)
      | (go_at_call 24; refine (same_yes _ _ _ _ _ _ _ _ HR5.out HR4.out).mono ?_; rintro e W4 ⟨rfl, hb4⟩; have HR6 := Lib.hid (HR5.out.below hb4); have HB4 := Lib.hid (nx HB3.out hb4); clear hb4))
    go_ret
    exact ⟨by simp, HB4.out⟩
end Go.Proofs.YtmfdafffafbmpaaDoor
