/- CatalogFormats walked. -/
import Derived.Test.YtmfdafffafbmpaaDoorCrps
namespace Go.Proofs.YtmfdafffafbmpaaDoor
set_option linter.unusedVariables false
open Go.RowKit
set_option maxHeartbeats 2000000 in
set_option maxRecDepth 8000 in
theorem CatalogFormats_walk (A0 : Option Addr) (n0 c0 : Nat) (x0 : List P4) (w : World) (hV : VP w) (w0 : InR w A0 n0 c0 x0) :
    Calls Tryd.prog 10 #[.slice A0 n0 c0] w fun e w' => e = .returned (.bool true) ∧ Below w.heap.size w w' := by
  have HV := Lib.hid hV
  have HI := Lib.hid w0
  have hn : Hid (x0.length = n0) := w0.len
  clear hV w0
  obtain ⟨r, hr⟩ := fmt_ex x0
  by_cases hv0 : Vcat x0
  · have hv := Lib.hid hv0
    have hp : Hid (PRes r x0 0) := by
      rcases hr.out with ⟨_, h2⟩ | ⟨h1, _⟩
      · refine .inr (.inl ⟨?_, hv0, h2, rfl⟩)
        have h3 := txtL_len x0 (fun q hq => hv0.res hq)
        have h4 := hv0.1
        rw [h2, mkB_size]
        omega
      · exact absurd hv0 h1
    clear hv0
    go_enter Tryd.func10, Tryd.ntmps10
    go_wp2_with (first
      | (go_at_call 33; refine (format_is _ _ _ _ _ HI.out hr).mono ?_; rintro e W1 ⟨rfl, hb1⟩; have HB1 := Lib.hid hb1; clear hb1)
      | (go_at_call 13; refine (awake_any _).mono ?_; rintro e W2 ⟨rfl, hb2⟩; have HB2 := Lib.hid (nx HB1.out hb2); clear hb2)
      | (go_at_call 34; refine (refFormat_is _ _ _ _ _ (HI.out.below HB2.out) hr).mono ?_; rintro e W3 ⟨rfl, hb3⟩; have HB3 := Lib.hid (nx HB2.out hb3); clear hb3)
      | (go_at_call 21; refine (refVcat_yes _ _ _ _ _ (HI.out.below HB3.out).rd hn hv).mono ?_; rintro e W4 ⟨rfl, hg4⟩; have HB4 := Lib.hid (nx HB3.out hg4.below); clear hg4)
      | (go_at_call 35; refine (parse_prog _ _ (HV.out.below HB4.out) hp).mono ?_; rintro e W5 ⟨A1, m1, c1, rfl, hr1, hb5⟩; have HR1 := Lib.hid hr1; have HB5 := Lib.hid (nx HB4.out hb5); clear hr1 hb5)
      | (go_at_call 24; refine (same_yes _ _ _ _ _ _ _ _ HR1.out (HI.out.below HB5.out)).mono ?_; rintro e W6 ⟨rfl, hb6⟩; have HB6 := Lib.hid (nx HB5.out hb6); clear hb6))
    go_ret
    exact ⟨by simp, HB6.out⟩
  · have hv : Hid (¬ Vcat x0) := hv0
    have hre : r = ⟨#[]⟩ := by
      rcases hr.out with ⟨h1, _⟩ | ⟨_, h2⟩
      · exact absurd h1 hv0
      · exact h2
    subst hre
    clear hv0
    go_enter Tryd.func10, Tryd.ntmps10
    go_wp2_with (first
      | (go_at_call 33; refine (format_is _ _ _ _ _ HI.out hr).mono ?_; rintro e W1 ⟨rfl, hb1⟩; have HB1 := Lib.hid hb1; clear hb1)
      | (go_at_call 13; refine (awake_any _).mono ?_; rintro e W2 ⟨rfl, hb2⟩; have HB2 := Lib.hid (nx HB1.out hb2); clear hb2)
      | (go_at_call 34; refine (refFormat_is _ _ _ _ _ (HI.out.below HB2.out) hr).mono ?_; rintro e W3 ⟨rfl, hb3⟩; have HB3 := Lib.hid (nx HB2.out hb3); clear hb3)
      | (go_at_call 21; refine (refVcat_no _ _ _ _ _ (HI.out.below HB3.out).rd hn hv).mono ?_; rintro e W4 ⟨rfl, hg4⟩; have HB4 := Lib.hid (nx HB3.out hg4.below); clear hg4))
    go_ret
    exact ⟨by simp, HB4.out⟩
end Go.Proofs.YtmfdafffafbmpaaDoor
