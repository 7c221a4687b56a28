/- NormalDual walked. -/
import Derived.Test.YtohjllnfnkajjaaQ11
namespace Go.Proofs.Ytohjllnfnkajjaa
open Go.RowKit
set_option linter.unusedVariables false
set_option linter.unusedSimpArgs false
set_option maxHeartbeats 8000000 in
set_option maxRecDepth 20000 in
theorem NormalDual_walk (k0 : Int) (s0 : ByteArray) (m0 u0 : Int) (A0 : Option Addr) (n0 c0 : Nat) (e0 : Ex) (A1 : Option Addr) (n1 c1 : Nat) (x1 : List Bool) (w : World) (T0 : TIn (Lo w.heap.size) w ⟨k0, s0, m0, u0, A0, n0, c0⟩ e0) (w1 : InB w A1 n1 c1 x1) :
    Calls Try.prog 5 #[xe k0 s0 m0 u0 A0 n0 c0, .slice A1 n1 c1] w fun x w' => x = .returned (.bool true) ∧ Below w.heap.size w w' := by
  have HK0 := Lib.hid (Blk.new w [.int .i64 k0, .string s0, .int .i64 m0, .int .i64 u0, .slice A0 n0 c0] 28 rfl)
  have HB0 := Lib.hid (newB w (.cells #[.int .i64 k0, .string s0, .int .i64 m0, .int .i64 u0, .slice A0 n0 c0] 28))
  have HT0 := Lib.hid (T0.up HB0.out)
  have HS0 := Lib.hid w1.si
  have HS1 := Lib.hid (HS0.out.below HB0.out)
  have hs1 : Hid (sameB (dual9 e0) (dual9 e0) = true) := Lib.hid (sameB_iff.2 rfl)
  clear T0 w1
  go_enter Try.func5, Try.ntmps5
  go_upto_region 2 with (go_at_call 18; refine (pdual_is (e := e0) k0 s0 m0 u0 A0 n0 c0 _ HT0.out).mono ?_; rintro x W1 ⟨⟨k1, s1, m1, u1, A2, n2, c2, rfl, ht⟩, hb⟩; have HD1 := Lib.hid (ht.grow (.cells #[.int .i64 k1, .string s1, .int .i64 m1, .int .i64 u1, .slice A2 n2 c2] 28)); have HG1 := Lib.hid (Blk.new W1 [.int .i64 k1, .string s1, .int .i64 m1, .int .i64 u1, .slice A2 n2 c2] 28 rfl); have HBD := Lib.hid (nxA hb (.cells #[.int .i64 k1, .string s1, .int .i64 m1, .int .i64 u1, .slice A2 n2 c2] 28)); have HK1 := Lib.hid (HK0.out.up HBD.out HK0.out.lt); have HB1 := Lib.hid (nx HB0.out HBD.out); have HT1 := Lib.hid (HT0.out.up HBD.out); have HSS := Lib.hid (HS1.out.below HBD.out); clear hb ht)
  obtain ⟨gd, hgd⟩ : ∃ gd, W1.heap.size = gd := ⟨_, rfl⟩
  rw [hgd] at HG1 ⊢
  generalize W1.alloc (.cells #[.int .i64 k1, .string s1, .int .i64 m1, .int .i64 u1, .slice A2 n2 c2] 28) = W2 at HD1 HG1 HBD HK1 HB1 HT1 HSS ⊢
  have HALL : Hid (∀ W, Below W2.heap.size W2 W → Below W2.heap.size W2 W ∧ S5 W w.heap.size k0 s0 m0 u0 A0 n0 c0 ∧ S5 W gd k1 s1 m1 u1 A2 n2 c2) := Lib.hid (fun W h => ⟨h, (HK1.out.up h HK1.out.lt).s5, (HG1.out.up h HG1.out.lt).s5⟩)
  have HALT : Hid (∀ W, Below W2.heap.size W2 W → TIn (Lo W.heap.size) W ⟨k0, s0, m0, u0, A0, n0, c0⟩ e0) := Lib.hid (fun W h => HT1.out.up h)
  have HALD : Hid (∀ W, Below W2.heap.size W2 W → TIn (Lo W.heap.size) W ⟨k1, s1, m1, u1, A2, n2, c2⟩ (dual9 e0)) := Lib.hid (fun W h => HD1.out.up h)
  have HALS : Hid (∀ W, Below W2.heap.size W2 W → SI W x1 A1 n1) := Lib.hid (fun W h => HSS.out.below h)
  clear hgd HK0 HB0 HT0 HS0 HS1 HD1 HG1 HBD HK1 HT1 HSS
  go_cut [16] from 8 to 16 (fun b wx => b = .bool false ∧ Below W2.heap.size W2 wx)
  case first =>
    go_region_held3 (fun W => Below W2.heap.size W2 W ∧ S5 W w.heap.size k0 s0 m0 u0 A0 n0 c0 ∧ S5 W gd k1 s1 m1 u1 A2 n2 c2)
    (first
      | exact HALL.out _ (Below.refl _ _)
      | exact HALL.out _ (bdD (Below.refl _ _))
      | (go_split_ands; exact HALL.out _ (nx (by assumption) hb1)))
    (first
      | (go_at_call 10; (with_reducible refine (awake9_any _).mono ?_); rintro x W3 ⟨rfl, hb1⟩)
      | (go_at_call 20; go_split_ands; (with_reducible refine (rdual_is k0 s0 m0 u0 A0 n0 c0 _ (HALT.out _ ?_)).mono ?_); (· assumption); rintro x W3 ⟨⟨k3, s3, m3, u3, A3, n3, c3, rfl, ht⟩, hb1⟩; have HT3 := Lib.hid ht; have HD3 := Lib.hid (HALD.out _ (nx (by assumption) hb1)); clear ht)
      | (go_at_call 19; (refine (sx_all (dual9 e0) (dual9 e0) k1 s1 m1 u1 A2 n2 c2 k3 s3 m3 u3 A3 n3 c3 _ true HD3 HT3 hs1).mono ?_); rintro x W4 ⟨rfl, hb1⟩))
    all_goals (go_split_ands; go_wp2_with fail; go_meet; exact ⟨by first | rfl | simp, by assumption⟩)
  case rest =>
    obtain ⟨rfl, hbc⟩ := hcut
    have HBC := Lib.hid hbc
    have ha := HALL.out _ hbc
    obtain ⟨-, ⟨y0, y1, y2, y3, y4⟩, z0, z1, z2, z3', z4⟩ := ha
    have HTC := Lib.hid (HALT.out _ hbc)
    clear hbc hs1
    by_cases hv : Vex e0
    · obtain ⟨L, hL0⟩ := VL.ex hv
      have hr : Hid (vexB e0 = true) := vexB_iff.2 hv
      have HL := Lib.hid hL0
      have HLD := Lib.hid hL0.dual
      have hd9 : Hid (dual9 e0 = dual e0) := Lib.hid (dual9_yes hv)
      have hdd : Hid (dual9 (dual9 e0) = e0) := Lib.hid (by rw [dual9_yes hv, dual9_yes hL0.dual.1]; exact dual_dual e0 hL0.good.wf)
      have hs2 : Hid (sameB (dual9 (dual9 e0)) e0 = true) := Lib.hid (by rw [hdd.out]; exact sameB_iff.2 rfl)
      obtain ⟨r, hrd⟩ : ∃ r, Hid (e0.hld L (deadS L.length x1) = r) := ⟨_, Lib.hid rfl⟩
      have hrh : Hid ((dual e0).hld L x1 = !r) := Lib.hid (by rw [dual_hld hL0 x1, hrd.out])
      have HADL : Hid (∀ W, Below W2.heap.size W2 W → TIn (Lo W.heap.size) W ⟨k1, s1, m1, u1, A2, n2, c2⟩ (dual e0)) := Lib.hid (fun W h => by rw [← hd9.out]; exact HALD.out W h)
      have hrr : ((!r) == (!r)) = true := by simp
      clear hv hL0
      go_upto_region 6 with (go_at_call 21; refine (refValidExpr_is k0 s0 m0 u0 A0 n0 c0 _ HTC.out hr).mono ?_; rintro x W5 ⟨rfl, hb⟩; have HB5 := Lib.hid (nx HBC.out hb); clear hb)
      have HAL5 : Hid (∀ W, Below W5.heap.size W5 W → Below W5.heap.size W5 W ∧ S5 W w.heap.size k0 s0 m0 u0 A0 n0 c0 ∧ S5 W gd k1 s1 m1 u1 A2 n2 c2) := Lib.hid (fun W h => ⟨h, (HALL.out _ (nx HB5.out h)).2⟩)
      go_region_held3 (fun W => Below W5.heap.size W5 W ∧ S5 W w.heap.size k0 s0 m0 u0 A0 n0 c0 ∧ S5 W gd k1 s1 m1 u1 A2 n2 c2)
      (first
        | exact HAL5.out _ (Below.refl _ _)
        | exact HAL5.out _ (bdD (Below.refl _ _))
        | (go_split_ands; exact HAL5.out _ (nx (by assumption) hb1)))
      (first
        | (go_at_call 18; go_split_ands; (with_reducible refine (pdual_is k1 s1 m1 u1 A2 n2 c2 _ (HALD.out _ (nx HB5.out ?_))).mono ?_); (· assumption); rintro x W6 ⟨⟨k6, s6, m6, u6, A6, n6, c6, rfl, ht⟩, hb1⟩; have HT6 := Lib.hid ht; have HE6 := Lib.hid (HALT.out _ (nx HB5.out (nx (by assumption) hb1))); clear ht)
        | (go_at_call 19; (refine (sx_all (dual9 (dual9 e0)) e0 k6 s6 m6 u6 A6 n6 c6 k0 s0 m0 u0 A0 n0 c0 _ true HT6 HE6 hs2).mono ?_); rintro x W7 ⟨rfl, hb1⟩)
        | (go_at_call 22; go_split_ands; (with_reducible refine (refHolds_yes (e := dual e0) (L := L) (S := x1) k1 s1 m1 u1 A2 n2 c2 A1 n1 c1 _ (HADL.out _ (nx HB5.out ?_)) (HALS.out _ (nx HB5.out ?_)) HLD hrh).mono ?_); (· assumption); (· assumption); rintro x W8 ⟨rfl, hb1⟩)
        | (go_at_call 23; go_split_ands; (with_reducible refine (refHopeless_yes (e := e0) (L := L) (D := x1) k0 s0 m0 u0 A0 n0 c0 A1 n1 c1 _ (HALT.out _ (nx HB5.out ?_)) (HALS.out _ (nx HB5.out ?_)) HL hrd).mono ?_); (· assumption); (· assumption); rintro x W9 ⟨rfl, hb1⟩))
      all_goals (go_split_ands; go_wp2; go_ret; exact ⟨by simp, nx (nx HB1.out HB5.out) (by assumption)⟩)
    · have hr : Hid (vexB e0 = false) := vexB_no.2 hv
      clear hv
      go_wp2_with (go_at_call 21; refine (refValidExpr_is k0 s0 m0 u0 A0 n0 c0 _ HTC.out hr).mono ?_; rintro x W5 ⟨rfl, hb⟩; have HB5 := Lib.hid (nx HBC.out hb); clear hb)
      go_ret
      exact ⟨by simp, nx HB1.out HB5.out⟩
end Go.Proofs.Ytohjllnfnkajjaa
