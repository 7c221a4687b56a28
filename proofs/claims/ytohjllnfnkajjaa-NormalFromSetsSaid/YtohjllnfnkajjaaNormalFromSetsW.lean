/- NormalFromSets walked. -/
import Derived.Test.YtohjllnfnkajjaaQ11
namespace Go.Proofs.Ytohjllnfnkajjaa
open Go.RowKit
set_option linter.unusedVariables false
set_option linter.unusedSimpArgs false
set_option maxHeartbeats 4000000 in
set_option maxRecDepth 20000 in
theorem NormalFromSets_walk (A0 : Option Addr) (n0 c0 : Nat) (L : List A3) (A1 : Option Addr) (n1 c1 : Nat) (X : List (List Int)) (w : World) (hL : QRd w A0 L) (hn : Hid (L.length = n0)) (hX : SRd w A1 X) (hn' : Hid (X.length = n1)) (hcc : n1 ≤ c1) :
    Calls Try.prog 9 #[.slice A0 n0 c0, .slice A1 n1 c1] w fun x w' => x = .returned (.bool true) ∧ Below w.heap.size w w' := by
  have HL := Lib.hid hL
  have HX := Lib.hid hX
  obtain ⟨r, hr⟩ : ∃ r, Hid (frmB L X = r) := ⟨_, Lib.hid rfl⟩
  obtain ⟨y, hy⟩ : ∃ y, Hid (y = if r = true then frm L X else Ex.zero) := ⟨_, Lib.hid rfl⟩
  have hrr : (r == r) = true := by simp
  have hs1 : Hid (sameB y y = true) := Lib.hid (sameB_iff.2 rfl)
  clear hL hX
  go_enter Try.func9, Try.ntmps9
  go_upto_region 3 with (first
    | (go_at_call 30; refine (pfrom_is L X A0 n0 c0 A1 n1 c1 _ r HL.out HX.out hn hn' hcc hr y hy).mono ?_; rintro x W1 ⟨⟨k1, s1, m1, u1, A2, n2, c2, rfl, ht⟩, hb⟩; have HT1 := Lib.hid (ht.grow (.cells #[.int .i64 k1, .string s1, .int .i64 m1, .int .i64 u1, .slice A2 n2 c2] 28)); have HK1 := Lib.hid (Blk.new W1 [.int .i64 k1, .string s1, .int .i64 m1, .int .i64 u1, .slice A2 n2 c2] 28 rfl); have HB1 := Lib.hid (nxA hb (.cells #[.int .i64 k1, .string s1, .int .i64 m1, .int .i64 u1, .slice A2 n2 c2] 28)); have HL1 := Lib.hid (HL.out.below HB1.out); have HX1 := Lib.hid (HX.out.below HB1.out); clear hb ht)
    | (go_at_call 31; refine (rFrom_is L X A0 n0 c0 A1 n1 c1 _ r HL1.out HX1.out hn hn' hr y hy).mono ?_; rintro x W2 ⟨⟨k2, s2, m2, u2, A3, n3, c3, rfl, ht⟩, hb⟩; have HT2 := Lib.hid (ht.grow (.cells #[.int .i64 k2, .string s2, .int .i64 m2, .int .i64 u2, .slice A3 n3 c3] 28)); have HK2 := Lib.hid (Blk.new W2 [.int .i64 k2, .string s2, .int .i64 m2, .int .i64 u2, .slice A3 n3 c3] 28 rfl); have HB12 := Lib.hid (nxA hb (.cells #[.int .i64 k2, .string s2, .int .i64 m2, .int .i64 u2, .slice A3 n3 c3] 28)); have HB2 := Lib.hid (nx HB1.out HB12.out); have HT3 := Lib.hid (HT1.out.up HB12.out); have HK3 := Lib.hid (HK1.out.up HB12.out HK1.out.lt); clear hb ht))
  go_wp2_with (first
    | (go_at_call 10; refine (awake9_any _).mono ?_; rintro x W4 ⟨rfl, hb⟩; have hk2 := HK2.out.up hb HK2.out.lt; have hk3 := HK3.out.up hb HK3.out.lt; have x0 := hk2.cell 0 rfl; have x1 := hk2.cell 1 rfl; have x2 := hk2.cell 2 rfl; have x3 := hk2.cell 3 rfl; have x4 := hk2.cell 4 rfl; have z0 := hk3.cell 0 rfl; have z1 := hk3.cell 1 rfl; have z2 := hk3.cell 2 rfl; have z3' := hk3.cell 3 rfl; have z4 := hk3.cell 4 rfl; have HT4 := Lib.hid (HT2.out.up hb); have HT5 := Lib.hid (HT3.out.up hb); have HB4 := Lib.hid (nx HB2.out hb); clear hk2 hk3 hb)
    | (go_at_call 19; refine (sx_all y y k1 s1 m1 u1 A2 n2 c2 k2 s2 m2 u2 A3 n3 c3 _ true HT5 HT4 hs1).mono ?_; rintro x W6 ⟨rfl, hb⟩; have HB6 := Lib.hid (nx HB4.out hb); clear hb))
  go_ret
  exact ⟨by simp, HB6.out⟩
end Go.Proofs.Ytohjllnfnkajjaa
