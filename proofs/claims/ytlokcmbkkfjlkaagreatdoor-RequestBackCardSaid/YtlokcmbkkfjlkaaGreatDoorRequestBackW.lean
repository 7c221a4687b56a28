/- RequestBack walked. -/
import Derived.Test.YtlokcmbkkfjlkaaGreatDoorRaw
import Derived.Test.YtlokcmbkkfjlkaaGreatDoorRsm
import Derived.Test.YtlokcmbkkfjlkaaGreatDoorRtx
import Derived.Test.YtlokcmbkkfjlkaaGreatDoorRrv
namespace Go.Proofs.YtlokcmbkkfjlkaaGreatDoor
set_option linter.unusedVariables false
set_option linter.unusedSimpArgs false
open Go.RowKit
set_option maxHeartbeats 8000000 in
set_option maxRecDepth 100000 in
theorem RequestBack_walk (k0 : Int) (s0 : ByteArray) (m0 u0 : Int) (A0 : Option Addr) (n0 c0 : Nat) (p0 t0 : Int) (e0 : Ex) (w : World) (hV : VR w) (T0 : TIn (Lo w.heap.size) w ⟨k0, s0, m0, u0, A0, n0, c0⟩ e0) :
    Calls Tryz.prog 6 #[rq k0 s0 m0 u0 A0 n0 c0 p0 t0] w fun e w' => e = .returned (.bool true) ∧ Below w.heap.size w w' := by
  have HV := Lib.hid hV
  have HT := Lib.hid T0
  have HK0 := Lib.hid (Blk.new w [.int .i64 k0, .string s0, .int .i64 m0, .int .i64 u0, .slice A0 n0 c0, .int .i64 p0, .int .i64 t0] 30 rfl)
  have HT0 := Lib.hid (T0.grow (.cells #[.int .i64 k0, .string s0, .int .i64 m0, .int .i64 u0, .slice A0 n0 c0, .int .i64 p0, .int .i64 t0] 30))
  have HB0 := Lib.hid (newB w (.cells #[.int .i64 k0, .string s0, .int .i64 m0, .int .i64 u0, .slice A0 n0 c0, .int .i64 p0, .int .i64 t0] 30))
  clear hV T0
  cases hvr : vrqB e0 p0 t0 with
  | false =>
    have hb := Lib.hid hvr
    have hnv : Hid (¬ Vrq (e0, p0, t0)) := Lib.hid (fun h => by rw [vrqB_iff.2 h] at hvr; cases hvr)
    have MV := Lib.hid trivial
    clear hvr
    go_enter Tryz.func6, Tryz.ntmps6
    go_wp2_with (first
      | (go_at_call 18; refine (format_no (e := e0) k0 s0 m0 u0 A0 n0 c0 p0 t0 _ HT0.out hnv).mono ?_; rintro x W1 ⟨rfl, hb1⟩; have hk := HK0.out.up hb1 (by simp); obtain ⟨x0, x1, x2, x3, x4, x5, x6⟩ := hk.s7; have HK1 := Lib.hid hk; have HT1 := Lib.hid (HT0.out.up hb1); have HB1 := Lib.hid (nx HB0.out hb1); clear hb1 hk)
      | (go_at_call 14; clear MV; refine (refValid7_is (e := e0) k0 s0 m0 u0 A0 n0 c0 p0 t0 _ HT1.out hb).mono ?_; rintro x W2 ⟨rfl, hb2⟩; have HK2 := Lib.hid (HK1.out.up hb2 HK1.out.lt); have HT2 := Lib.hid (HT1.out.up hb2); have HB2 := Lib.hid (nx HB1.out hb2); clear hb2)
      | (go_at_call 10; refine (awake_any _ (HV.out.below HB2.out)).mono ?_; rintro x W3 ⟨rfl, hb3⟩; have hk := HK2.out.up hb3 HK2.out.lt; clear x0 x1 x2 x3 x4 x5 x6; obtain ⟨x0, x1, x2, x3, x4, x5, x6⟩ := hk.s7; have HT3 := Lib.hid (HT2.out.up hb3); have HB3 := Lib.hid (nx HB2.out hb3); clear hb3 hk)
      | (go_at_call 14; refine (refValid7_is (e := e0) k0 s0 m0 u0 A0 n0 c0 p0 t0 _ HT3.out hb).mono ?_; rintro x W4 ⟨rfl, hb4⟩; have HB4 := Lib.hid (nx HB3.out hb4); clear hb4))
    go_ret
    exact ⟨by simp, HB4.out⟩
  | true =>
    have hb := Lib.hid hvr
    have hvq : Hid (Vrq (e0, p0, t0)) := Lib.hid (vrqB_iff.1 hvr)
    obtain ⟨T, hT⟩ : ∃ T, Hid (mkB (txR (e0, p0, t0)) = T) := ⟨_, rfl⟩
    have hx2 : Hid (pR T = .ok (e0, p0, t0)) := pR_back hvq.out hT.out.symm
    have hsz : T.size ≤ 460 := by rw [← hT.out, mkB_size]; exact hvq.out.len
    have n1 : ¬ 1024 < (T.size : Int) := by omega
    clear hvr hsz
    go_enter Tryz.func6, Tryz.ntmps6
    go_wp2_with (first
      | (go_at_call 18; refine (format_yes (e := e0) k0 s0 m0 u0 A0 n0 c0 p0 t0 _ (HV.out.below HB0.out) HT0.out hvq hT).mono ?_; rintro x W1 ⟨rfl, hb1⟩; have hk := HK0.out.up hb1 (by simp); obtain ⟨x0, x1, x2, x3, x4, x5, x6⟩ := hk.s7; have HK1 := Lib.hid hk; have HT1 := Lib.hid (HT0.out.up hb1); have HB1 := Lib.hid (nx HB0.out hb1); clear hb1 hk)
      | (go_at_call 14; refine (refValid7_is (e := e0) k0 s0 m0 u0 A0 n0 c0 p0 t0 _ HT1.out hb).mono ?_; rintro x W2 ⟨rfl, hb2⟩; have HK2 := Lib.hid (HK1.out.up hb2 HK1.out.lt); have HT2 := Lib.hid (HT1.out.up hb2); have HB2 := Lib.hid (nx HB1.out hb2); clear hb2)
      | (go_at_call 15; refine (parse_is _ _ (HV.out.below HB2.out).1 hx2).mono ?_; rintro x W3 ⟨⟨k', s', m', u', A', n', c', rfl, ht⟩, hb3⟩; have HK3 := Lib.hid (HK2.out.up hb3 HK2.out.lt); have HT3 := Lib.hid (HT2.out.up hb3); have HJ3 := Lib.hid (Blk.new W3 [.int .i64 k', .string s', .int .i64 m', .int .i64 u', .slice A' n' c', .int .i64 p0, .int .i64 t0] 30 rfl); have HT3b : Hid (TIn (Lo W3.heap.size) W3 ⟨k', s', m', u', A', n', c'⟩ e0) := ht; have HB3 := Lib.hid (nx HB2.out hb3); clear hb3 ht)
      | (go_at_call 10; refine (awake_any _ (HV.out.below (nx HB3.out (newB _ _)))).mono ?_; rintro x W4 ⟨rfl, hb4⟩; have hk := (HK3.out.grow _).up hb4 (HK3.out.grow _).lt; have hk2 := HJ3.out.up hb4 HJ3.out.lt; clear x0 x1 x2 x3 x4 x5 x6; obtain ⟨x0, x1, x2, x3, x4, x5, x6⟩ := hk.s7; obtain ⟨y0, y1, y2, y3, y4, y5, y6⟩ := hk2.s7; have HT4 := Lib.hid ((HT3.out.grow _).up hb4); have HT4b := Lib.hid ((HT3b.out.grow _).up hb4); have HB4 := Lib.hid (nx HB3.out (dn1 hb4)); clear hb4 hk hk2)
      | (go_at_call 17; refine (sameR_is (e := e0) k' s' m' u' A' n' c' k0 s0 m0 u0 A0 n0 c0 p0 t0 _ HT4b.out HT4.out).mono ?_; rintro x W5 ⟨rfl, hb5⟩; have HB5 := Lib.hid (nx HB4.out hb5); clear hb5))
    go_ret
    exact ⟨by simp, HB5.out⟩
end Go.Proofs.YtlokcmbkkfjlkaaGreatDoor
