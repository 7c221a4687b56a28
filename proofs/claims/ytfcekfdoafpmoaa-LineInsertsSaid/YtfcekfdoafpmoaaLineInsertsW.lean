/- LineInserts walked. -/
import Derived.Test.YtfcekfdoafpmoaaJaw
import Derived.Test.YtfcekfdoafpmoaaJopen
namespace Go.Proofs.Ytfcekfdoafpmoaa
open Go.RowKit
set_option linter.unusedVariables false
set_option linter.unusedSimpArgs false

set_option maxHeartbeats 4000000 in
set_option maxRecDepth 20000 in
theorem LineInserts_walk (A0 : Option Addr) (n0 c0 : Nat) (x0 : List Wt) (a1 b1 c1 d1 e1 f1 g1 : Int) (w : World) (w0 : InW w A0 n0 c0 x0) (wa1 : (Lit.int .i64 a1).wf = true) (wb1 : (Lit.int .i64 b1).wf = true) (wc1 : (Lit.int .i64 c1).wf = true) (wd1 : (Lit.int .i64 d1).wf = true) (we1 : (Lit.int .i64 e1).wf = true) (wf1 : (Lit.int .i64 f1).wf = true) (wg1 : (Lit.int .i64 g1).wf = true) :
    Calls Try.prog 4 #[.slice A0 n0 c0, .agg #[.int .i64 a1, .int .i64 b1, .int .i64 c1, .int .i64 d1, .int .i64 e1, .int .i64 f1, .int .i64 g1]] w fun e w' => e = .returned (.bool true) ∧ Below w.heap.size w w' := by
  have HR := Lib.hid w0.rd
  have hn : Hid (x0.length = n0) := w0.len
  have hnc : n0 ≤ c0 := w0.fit
  have HK0 := Lib.hid (Blk.new w [.int .i64 a1, .int .i64 b1, .int .i64 c1, .int .i64 d1, .int .i64 e1, .int .i64 f1, .int .i64 g1] 28 rfl)
  have HB0 := Lib.hid (newB w (.cells #[.int .i64 a1, .int .i64 b1, .int .i64 c1, .int .i64 d1, .int .i64 e1, .int .i64 f1, .int .i64 g1] 28))
  have hz0 : Hid (([] : List Wt).length = 0) := Lib.hid rfl
  have hz1 : Hid (0 ≤ 1000) := Lib.hid (by decide)
  clear w0 wa1 wb1 wc1 wd1 we1 wf1 wg1
  by_cases h100 : 100 < (n0 : Int)
  · clear hn hnc
    go_enter Try.func4, Try.ntmps4
    go_wp2_with (go_at_call 10; refine (awakeW_any _).mono ?_; rintro e W1 ⟨rfl, hb1⟩; have HB1 := Lib.hid (nx HB0.out hb1); clear hb1)
    go_ret
    exact ⟨rfl, HB1.out⟩
  · have hm : Hid (n0 ≤ 1000) := Lib.hid (by omega)
    obtain ⟨code, hc⟩ : ∃ code, Hid (inC x0 ((a1, b1, c1), (d1, e1), f1, g1) = code) := ⟨_, Lib.hid rfl⟩
    by_cases hcd : code = 0
    · subst hcd
      have h3 : g1 = 0 := (inC_0 hc.out).2.2.1
      subst h3
      obtain ⟨k, hp⟩ : ∃ k, Hid (posW x0 ((a1, b1, c1), (d1, e1), f1, 0) = k) := ⟨_, Lib.hid rfl⟩
      have hX : Hid ((putW x0 ((a1, b1, c1), (d1, e1), f1, 0) k).length = n0 + 1) := Lib.hid (by rw [putW_len (by rw [← hp.out]; exact posW_le _ _), hn.out])
      have hX2 : Hid (n0 + 1 ≤ 1000) := Lib.hid (by omega)
      go_enter Try.func4, Try.ntmps4
      go_wp2_with (first
      | (go_at_call 15; refine (ins_ok A0 n0 c0 x0 a1 b1 c1 d1 e1 f1 _ (HR.out.below HB0.out) hn hm hnc hc hp).mono ?_; rintro e W1 ⟨⟨A1, c2, rfl, ho1⟩, hb1⟩; have HO1 := Lib.hid ho1; have HB1 := Lib.hid (nx HB0.out hb1); have HK1 := Lib.hid (HK0.out.up hb1 HK0.out.lt); clear hb1 ho1; have i0 := HK1.out.cell 0 rfl; have i1 := HK1.out.cell 1 rfl; have i2 := HK1.out.cell 2 rfl; have i3 := HK1.out.cell 3 rfl; have i4 := HK1.out.cell 4 rfl; have i5 := HK1.out.cell 5 rfl; have i6 := HK1.out.cell 6 rfl)
      | (go_at_call 16; refine (refIns_ok A0 n0 c0 x0 a1 b1 c1 d1 e1 f1 _ (HR.out.below HB1.out) hn hm hnc hc hp).mono ?_; rintro e W2 ⟨⟨A2, c3, rfl, ho2⟩, hb2⟩; have HO2 := Lib.hid ho2; have HR1 := Lib.hid (own_rdW HO1.out hX |>.below hb2); have HR2 := Lib.hid (own_rdW HO2.out hX); have HB2 := Lib.hid (nx HB1.out hb2); clear hb2 ho2)
      | (go_at_call 10; refine (awakeW_any _).mono ?_; rintro e W3 ⟨rfl, hb3⟩; have HB3 := Lib.hid hb3; have HB4 := Lib.hid (nx HB2.out hb3); clear hb3)
      | (go_at_call 17; refine (sameWaits_yes A1 A2 _ c2 c3 _ _ (HR1.out.below HB3.out) (HR2.out.below HB3.out) hX hX2).mono ?_; rintro e W5 ⟨rfl, hb5⟩; have HB5 := Lib.hid (nx HB4.out hb5); clear hb5))
      go_ret
      exact ⟨rfl, HB5.out⟩
    · have h0 : Hid (code ≠ 0) := Lib.hid hcd
      clear hcd
      go_enter Try.func4, Try.ntmps4
      go_wp2_with (first
      | (go_at_call 15; refine (ins_err A0 n0 c0 x0 a1 b1 c1 d1 e1 f1 g1 _ (HR.out.below HB0.out) hn hm hc h0).mono ?_; rintro e W1 ⟨rfl, hb1⟩; have HB1 := Lib.hid (nx HB0.out hb1); have HK1 := Lib.hid (HK0.out.up hb1 HK0.out.lt); clear hb1; have i0 := HK1.out.cell 0 rfl; have i1 := HK1.out.cell 1 rfl; have i2 := HK1.out.cell 2 rfl; have i3 := HK1.out.cell 3 rfl; have i4 := HK1.out.cell 4 rfl; have i5 := HK1.out.cell 5 rfl; have i6 := HK1.out.cell 6 rfl)
      | (go_at_call 16; refine (refIns_err A0 n0 c0 x0 a1 b1 c1 d1 e1 f1 g1 _ (HR.out.below HB1.out) hn hm hc h0).mono ?_; rintro e W2 ⟨rfl, hb2⟩; have HB2 := Lib.hid (nx HB1.out hb2); clear hb2)
      | (go_at_call 10; refine (awakeW_any _).mono ?_; rintro e W3 ⟨rfl, hb3⟩; have HB3 := Lib.hid hb3; have HB4 := Lib.hid (nx HB2.out hb3); clear hb3)
      | (go_at_call 17; refine (sameWaits_yes none none 0 0 0 [] _ (WRd.nil _ _) (WRd.nil _ _) hz0 hz1).mono ?_; rintro e W5 ⟨rfl, hb5⟩; have HB5 := Lib.hid (nx HB4.out hb5); clear hb5))
      go_ret
      exact ⟨rfl, HB5.out⟩
end Go.Proofs.Ytfcekfdoafpmoaa
