/- RequestCanonical walked. -/
import Derived.Test.YtlokcmbkkfjlkaaGreatDoorRaw
import Derived.Test.YtlokcmbkkfjlkaaGreatDoorRsm
import Derived.Test.YtlokcmbkkfjlkaaGreatDoorRtx
namespace Go.Proofs.YtlokcmbkkfjlkaaGreatDoor
set_option linter.unusedVariables false
set_option linter.unusedSimpArgs false
open Go.RowKit
set_option maxHeartbeats 8000000 in
set_option maxRecDepth 100000 in
theorem RequestCanonical_walk (s0 : ByteArray) (w : World) (hV : VR w) (w0 : s0.size ≤ 140737488351232) :
    Calls Tryz.prog 8 #[.string s0] w fun e w' => e = .returned (.bool true) ∧ Below w.heap.size w w' := by
  have HV := Lib.hid hV
  clear hV w0
  cases hR : pR s0 with
  | no a er =>
    have hx := Lib.hid hR
    have he0 : (er == 0) = false := by rw [beq_eq_false_iff_ne]; exact pR_err hR
    clear hR
    go_enter Tryz.func8, Tryz.ntmps8
    go_wp2_with (first
      | (go_at_call 15; refine (parse_is _ _ HV.out.1 hx).mono ?_; rintro e W1 ⟨rfl, hb1⟩; have HK := Lib.hid (Blk.new W1 zr7 30 rfl); have HB1 := Lib.hid hb1; clear hb1)
      | (go_at_call 10; refine (awake_any _ (HV.out.below (nx HB1.out (newB _ _)))).mono ?_; rintro e W2 ⟨rfl, hb2⟩; have hk := HK.out.up hb2 (by simp); obtain ⟨x0, x1, x2, x3, x4, x5, x6⟩ := hk.s7; have HB2 := Lib.hid (nx HB1.out (dn1 hb2)); clear hb2 hk)
      | (go_at_call 17; refine (sameR_is (e := .nd 0 z3 []) 0 ⟨#[]⟩ 0 0 none 0 0 0 ⟨#[]⟩ 0 0 none 0 0 0 0 _ (tin_zero _ _) (tin_zero _ _)).mono ?_; rintro e W3 ⟨rfl, hb3⟩; have HB3 := Lib.hid (nx HB2.out hb3); clear hb3))
    go_ret
    exact ⟨rfl, HB3.out⟩
  | ok x =>
    obtain ⟨E, p, t⟩ := x
    have hx := Lib.hid hR
    have hvq := Lib.hid (pR_ok hR)
    have hvb : Hid (vrqB E p t = true) := vrqB_iff.2 hvq.out
    obtain ⟨T, hT⟩ : ∃ T, Hid (mkB (txR (E, p, t)) = T) := ⟨_, rfl⟩
    have hx2 : Hid (pR T = .ok (E, p, t)) := pR_back hvq.out hT.out.symm
    have hsz : T.size ≤ 460 := by rw [← hT.out, mkB_size]; exact hvq.out.len
    have n1 : ¬ 1024 < (T.size : Int) := by omega
    have MP := Lib.hid trivial
    have MF := Lib.hid trivial
    clear hR hsz
    go_enter Tryz.func8, Tryz.ntmps8
    go_wp2_with (first
      | (go_at_call 15; clear MP; refine (parse_is _ _ HV.out.1 hx).mono ?_; rintro e W1 ⟨⟨k, s, m, u, A, n, c, rfl, ht⟩, hb1⟩; have HK1 := Lib.hid (Blk.new W1 [.int .i64 k, .string s, .int .i64 m, .int .i64 u, .slice A n c, .int .i64 p, .int .i64 t] 30 rfl); have HT1 : Hid (TIn (Lo W1.heap.size) W1 ⟨k, s, m, u, A, n, c⟩ E) := ht; have HB1 := Lib.hid hb1; clear hb1 ht)
      | (go_at_call 18; clear MF; refine (format_yes (e := E) k s m u A n c p t _ (HV.out.below (nx HB1.out (newB _ _))) (HT1.out.grow _) hvq hT).mono ?_; rintro x W2 ⟨rfl, hb2⟩; have HKa := Lib.hid (HK1.out.up hb2 (by simp)); have HTa := Lib.hid ((HT1.out.grow _).up hb2); have HB2 := Lib.hid (nx HB1.out (dn1 hb2)); clear hb2)
      | (go_at_call 15; refine (parse_is _ _ (HV.out.below HB2.out).1 hx2).mono ?_; rintro e W3 ⟨⟨k', s', m', u', A', n', c', rfl, ht⟩, hb3⟩; have HKb := Lib.hid (HKa.out.up hb3 HKa.out.lt); have HTb := Lib.hid (HTa.out.up hb3); have HK2 := Lib.hid (Blk.new W3 [.int .i64 k', .string s', .int .i64 m', .int .i64 u', .slice A' n' c', .int .i64 p, .int .i64 t] 30 rfl); have HT2 : Hid (TIn (Lo W3.heap.size) W3 ⟨k', s', m', u', A', n', c'⟩ E) := ht; have HB3 := Lib.hid (nx HB2.out hb3); clear hb3 ht)
      | (go_at_call 10; refine (awake_any _ (HV.out.below (nx HB3.out (newB _ _)))).mono ?_; rintro e W4 ⟨rfl, hb4⟩; have hk := (HKb.out.grow _).up hb4 (HKb.out.grow _).lt; have hk2 := HK2.out.up hb4 HK2.out.lt; obtain ⟨x0, x1, x2, x3, x4, x5, x6⟩ := hk.s7; have HKc := Lib.hid hk; have HK2c := Lib.hid hk2; have HTc := Lib.hid ((HTb.out.grow _).up hb4); have HT2c := Lib.hid ((HT2.out.grow _).up hb4); have HB4 := Lib.hid (nx HB3.out (dn1 hb4)); clear hb4 hk hk2)
      | (go_at_call 13; refine (valid_is (e := E) k s m u A n c p t _ HTc.out hvb).mono ?_; rintro x W5 ⟨rfl, hb5⟩; have hk := HKc.out.up hb5 HKc.out.lt; have hk2 := HK2c.out.up hb5 HK2c.out.lt; clear x0 x1 x2 x3 x4 x5 x6; obtain ⟨x0, x1, x2, x3, x4, x5, x6⟩ := hk.s7; obtain ⟨y0, y1, y2, y3, y4, y5, y6⟩ := hk2.s7; have HK2d := Lib.hid hk2; have HTd := Lib.hid (HTc.out.up hb5); have HT2d := Lib.hid (HT2c.out.up hb5); have HB5 := Lib.hid (nx HB4.out hb5); clear hb5 hk hk2)
      | (go_at_call 17; refine (sameR_is (e := E) k' s' m' u' A' n' c' k s m u A n c p t _ HT2d.out HTd.out).mono ?_; rintro x W6 ⟨rfl, hb6⟩; have hk2 := HK2d.out.up hb6 HK2d.out.lt; clear y0 y1 y2 y3 y4 y5 y6; obtain ⟨y0, y1, y2, y3, y4, y5, y6⟩ := hk2.s7; have HT2e := Lib.hid (HT2d.out.up hb6); have HB6 := Lib.hid (nx HB5.out hb6); clear hb6 hk2)
      | (go_at_call 18; refine (format_yes (e := E) k' s' m' u' A' n' c' p t _ (HV.out.below HB6.out) HT2e.out hvq hT).mono ?_; rintro x W7 ⟨rfl, hb7⟩; have HB7 := Lib.hid (nx HB6.out hb7); clear hb7))
    go_ret
    exact ⟨by simp, HB7.out⟩
end Go.Proofs.YtlokcmbkkfjlkaaGreatDoor
