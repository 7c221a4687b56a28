/- NormalBack walked. -/
import Derived.Test.YtohjllnfnkajjaaGreatQ11
namespace Go.Proofs.YtohjllnfnkajjaaGreat
open Go.RowKit
set_option linter.unusedVariables false
set_option linter.unusedSimpArgs false
set_option maxHeartbeats 80000000 in
set_option maxRecDepth 20000 in
theorem NormalBack_walk (A0 : Option Addr) (n0 c0 : Nat) (x0 : List Int) (w : World) (w0 : InI w A0 n0 c0 x0) :
    Calls Tryz.prog 6 #[.slice A0 n0 c0] w fun x w' => x = .returned (.bool true) ∧ Below w.heap.size w w' := by
  have HI := Lib.hid w0
  clear w0
  by_cases hn : (n0 : Int) ≤ 300
  · have hd : decide ((n0 : Int) ≤ 300) = true := decide_eq_true hn
    have hn3 : n0 ≤ 300 := by omega
    go_enter Tryz.func6, Tryz.ntmps6
    go_upto_region 4 with (first
      | (go_at_call 11; refine (light_is A0 n0 c0 _).mono ?_; rintro e W1 ⟨rfl, rfl⟩; rw [hd])
      | (go_at_call 12; refine (made_is x0 A0 n0 c0 _ HI.out hn3).mono ?_; rintro x W1 ⟨⟨k1, s1, m1, u1, A1, n1, c1, e, L, rfl, ht, hL0⟩, hb⟩; have HT1 := Lib.hid (ht.grow (.cells #[.int .i64 k1, .string s1, .int .i64 m1, .int .i64 u1, .slice A1 n1 c1] 28)); have HK1 := Lib.hid (Blk.new W1 [.int .i64 k1, .string s1, .int .i64 m1, .int .i64 u1, .slice A1 n1 c1] 28 rfl); have HB1 := Lib.hid (nxA hb (.cells #[.int .i64 k1, .string s1, .int .i64 m1, .int .i64 u1, .slice A1 n1 c1] 28)); have HL := Lib.hid hL0; clear hb ht hL0))
    obtain ⟨gd, hgd⟩ : ∃ gd, W1.heap.size = gd := ⟨_, rfl⟩
    rw [hgd] at HK1 ⊢
    generalize W1.alloc (.cells #[.int .i64 k1, .string s1, .int .i64 m1, .int .i64 u1, .slice A1 n1 c1] 28) = W2 at HT1 HK1 HB1 ⊢
    have HALL : Hid (∀ W, Below W2.heap.size W2 W → S5 W gd k1 s1 m1 u1 A1 n1 c1) := Lib.hid (fun W h => (HK1.out.up h HK1.out.lt).s5)
    have HAS : Hid (∀ (W : World) (x : Nat) v0 v1 v2 v3 v4, W2.heap.size ≤ x → Below W2.heap.size W2 W → S5 (((((W.setCell ⟨x, 0, none⟩ v0).setCell ⟨x, 1, none⟩ v1).setCell ⟨x, 2, none⟩ v2).setCell ⟨x, 3, none⟩ v3).setCell ⟨x, 4, none⟩ v4) gd k1 s1 m1 u1 A1 n1 c1) := Lib.hid (fun W x v0 v1 v2 v3 v4 hx h => HALL.out _ (h.trans ((five_below W x v0 v1 v2 v3 v4).mono hx)))
    have HALT : Hid (∀ W, Below W2.heap.size W2 W → TIn (Lo W.heap.size) W ⟨k1, s1, m1, u1, A1, n1, c1⟩ e) := Lib.hid (fun W h => HT1.out.up h)
    obtain ⟨X0, hX0⟩ : ∃ X0, MnR holdF e X0 := by
      obtain ⟨x, w', fr, ⟨⟨X, _, _, _, hP, _⟩, _⟩, _⟩ := pmin_is (e := e) k1 s1 m1 u1 A1 n1 c1 W2 HT1.out []
      exact ⟨X, hP⟩
    have HX0 := Lib.hid hX0
    obtain ⟨N0, hN0⟩ : ∃ N, Hid (X0.length = N) := ⟨_, Lib.hid rfl⟩
    have hN1 : Hid ((ofN X0).length = N0) := Lib.hid (by rw [List.length_map, hN0.out])
    obtain ⟨r, hr⟩ : ∃ r, Hid (frmB L (ofN X0) = r) := ⟨_, Lib.hid rfl⟩
    obtain ⟨y, hy⟩ : ∃ y, Hid (y = if r = true then frm L (ofN X0) else Ex.zero) := ⟨_, Lib.hid rfl⟩
    clear hX0 hgd HI hn hd hn3
    go_cut [4, 5] from 14 to 21 (fun p b wx => ∃ (g : Nat) (k : Int) (s : ByteArray) (m u : Int) (A : Option Addr) (n c : Nat), p = .pointer (some ⟨g, 0, none⟩) ∧ b = .bool r ∧ Hid (Blk wx g [.int .i64 k, .string s, .int .i64 m, .int .i64 u, .slice A n c]) ∧ Hid (TIn (Lo wx.heap.size) wx ⟨k, s, m, u, A, n, c⟩ y) ∧ Hid (Below W2.heap.size W2 wx))
    case first =>
      go_region_held3 (fun W => S5 W gd k1 s1 m1 u1 A1 n1 c1)
      (first
        | with_reducible exact HALL.out _ (Below.refl _ _)
        | with_reducible exact HALL.out _ (bdD (Below.refl _ _))
        | with_reducible exact HALL.out _ HB5.out
        | with_reducible exact HALL.out _ (nxA HB5.out _)
        | with_reducible exact HALL.out _ HB4.out
        | with_reducible exact HALL.out _ (nxA HB4.out _)
        | with_reducible exact HALL.out _ HB3.out
        | with_reducible exact HALL.out _ (nxA HB3.out _)
        | with_reducible exact HALL.out _ (bdD (nxA (Below.refl _ _) _))
        | with_reducible exact HAS.out W5 W2.heap.size _ _ _ _ _ (Nat.le_refl _) HB5.out
        | with_reducible exact HAS.out W5 W3.heap.size _ _ _ _ _ HB3.out.size HB5.out
        | with_reducible exact HAS.out W5 W4.heap.size _ _ _ _ _ HB4.out.size HB5.out)
      (first
        | (go_at_call 13; (with_reducible refine (refAtoms_yes (e := e) (L := L) k1 s1 m1 u1 A1 n1 c1 (W2.alloc (.cells #[.int .i64 0, .string ⟨#[]⟩, .int .i64 0, .int .i64 0, .slice none 0 0] 28)).drew (HALT.out _ (bdD (nxA (Below.refl _ _) _))) HL).mono ?_); rintro z W3 ⟨⟨A2, n2, c2, rfl, hn2, hq⟩, hb1⟩; have HB3 : Hid (Below W2.heap.size W2 W3) := Lib.hid (nx (bdD (nxA (Below.refl _ _) _)) hb1); have HX3 : Hid (Blk W3 W2.heap.size [.int .i64 0, .string ⟨#[]⟩, .int .i64 0, .int .i64 0, .slice none 0 0]) := Lib.hid (((Blk.new W2 [.int .i64 0, .string ⟨#[]⟩, .int .i64 0, .int .i64 0, .slice none 0 0] 28 rfl).of (w' := (W2.alloc (.cells #[.int .i64 0, .string ⟨#[]⟩, .int .i64 0, .int .i64 0, .slice none 0 0] 28)).drew) rfl).up hb1 (by simp)); have HQ3 := Lib.hid hq; have HN2 := Lib.hid hn2; clear hq hn2 hb1)
        | (go_at_call 13; (with_reducible refine (refAtoms_yes (e := e) (L := L) k1 s1 m1 u1 A1 n1 c1 W2.drew (HALT.out _ (bdD (Below.refl _ _))) HL).mono ?_); rintro z W3 ⟨⟨A2, n2, c2, rfl, hn2, hq⟩, hb1⟩; have HB3 : Hid (Below W2.heap.size W2 W3) := Lib.hid (nx (bdD (Below.refl _ _)) hb1); have HQ3 := Lib.hid hq; have HN2 := Lib.hid hn2; clear hq hn2 hb1)
        | (go_at_call 17; (with_reducible refine (pmin_is (e := e) k1 s1 m1 u1 A1 n1 c1 W3 (HALT.out _ (HB3.out))).mono ?_); rintro z W4 ⟨⟨X, A3, c3, rfl, hP, hR, hc3⟩, hb1⟩; have HB4 : Hid (Below W2.heap.size W2 W4) := Lib.hid (nx (HB3.out) hb1); (try (have HX4 := Lib.hid (HX3.out.up hb1 HX3.out.lt))); have hXX : X = X0 := hP.uniq HX0.out; have HR4 : Hid (SRd W4 A3 (ofN X0)) := Lib.hid (by rw [← hXX]; exact hR); have HQ4 := Lib.hid (HQ3.out.below (hb1)); have HC3 : Hid (X0.length ≤ c3) := Lib.hid (by rw [← hXX]; exact hc3); rw [hXX, hN0.out]; have hcN : N0 ≤ c3 := (by rw [← hN0.out]; exact HC3.out); clear hP hR hc3 hXX hb1)
        | (go_at_call 17; (with_reducible refine (pmin_is (e := e) k1 s1 m1 u1 A1 n1 c1 (W3.alloc (.cells #[.int .i64 0, .string ⟨#[]⟩, .int .i64 0, .int .i64 0, .slice none 0 0] 28)) (HALT.out _ (nxA HB3.out _))).mono ?_); rintro z W4 ⟨⟨X, A3, c3, rfl, hP, hR, hc3⟩, hb1⟩; have HB4 : Hid (Below W2.heap.size W2 W4) := Lib.hid (nx (nxA HB3.out _) hb1); have HX4 : Hid (Blk W4 W3.heap.size [.int .i64 0, .string ⟨#[]⟩, .int .i64 0, .int .i64 0, .slice none 0 0]) := Lib.hid ((Blk.new W3 [.int .i64 0, .string ⟨#[]⟩, .int .i64 0, .int .i64 0, .slice none 0 0] 28 rfl).up hb1 (by simp)); have hXX : X = X0 := hP.uniq HX0.out; have HR4 : Hid (SRd W4 A3 (ofN X0)) := Lib.hid (by rw [← hXX]; exact hR); have HQ4 := Lib.hid (HQ3.out.below (nx (newB W3 _) hb1)); have HC3 : Hid (X0.length ≤ c3) := Lib.hid (by rw [← hXX]; exact hc3); rw [hXX, hN0.out]; have hcN : N0 ≤ c3 := (by rw [← hN0.out]; exact HC3.out); clear hP hR hc3 hXX hb1)
        | (go_at_call 26; (with_reducible refine (pfrom_new L (ofN X0) A2 n2 c2 A3 N0 c3 W4 r HQ4.out HR4.out HN2 hN1 hcN hr y hy).mono ?_); rintro z W5 ⟨⟨k5, s5, m5, u5, A5, n5, c5, rfl, ht⟩, hb1⟩; have HB5 : Hid (Below W2.heap.size W2 W5) := Lib.hid (nx (HB4.out) hb1); (try (have HLT5 := Lib.hid HX4.out.lt; have HX5 := Lib.hid (HX4.out.up hb1 HX4.out.lt); have r0 := HX5.out.cell 0 rfl; have r1 := HX5.out.cell 1 rfl; have r2 := HX5.out.cell 2 rfl; have r3 := HX5.out.cell 3 rfl; have r4 := HX5.out.cell 4 rfl; have rf := HX5.out.fz; have rl := HX5.out.lt)); have HT5 := Lib.hid ht; clear ht hb1)
        | (go_at_call 26; (with_reducible refine (pfrom_new L (ofN X0) A2 n2 c2 A3 N0 c3 (W4.alloc (.cells #[.int .i64 0, .string ⟨#[]⟩, .int .i64 0, .int .i64 0, .slice none 0 0] 28)) r (HQ4.out.below (newB W4 _)) (HR4.out.below (newB W4 _)) HN2 hN1 hcN hr y hy).mono ?_); rintro z W5 ⟨⟨k5, s5, m5, u5, A5, n5, c5, rfl, ht⟩, hb1⟩; have HB5 : Hid (Below W2.heap.size W2 W5) := Lib.hid (nx (nxA HB4.out _) hb1); have HLT5 : Hid (W4.heap.size < (W4.alloc (.cells #[.int .i64 0, .string ⟨#[]⟩, .int .i64 0, .int .i64 0, .slice none 0 0] 28)).heap.size) := Lib.hid (by simp); have HX5 : Hid (Blk W5 W4.heap.size [.int .i64 0, .string ⟨#[]⟩, .int .i64 0, .int .i64 0, .slice none 0 0]) := Lib.hid ((Blk.new W4 [.int .i64 0, .string ⟨#[]⟩, .int .i64 0, .int .i64 0, .slice none 0 0] 28 rfl).up hb1 (by simp)); have r0 := HX5.out.cell 0 rfl; have r1 := HX5.out.cell 1 rfl; have r2 := HX5.out.cell 2 rfl; have r3 := HX5.out.cell 3 rfl; have r4 := HX5.out.cell 4 rfl; have rf := HX5.out.fz; have rl := HX5.out.lt; have HT5 := Lib.hid ht; clear ht hb1))
      all_goals (
        go_wp2_with fail
        go_meet
        first
          | exact ⟨_, k5, s5, m5, u5, A5, n5, c5, rfl, rfl, Lib.hid (((((HX5.out.set 0 _).set 1 _).set 2 _).set 3 _).set 4 _), Lib.hid ((TIn.fiveT (lo := 0) HT5.out (fun q hq => ⟨Nat.zero_le _, hq.2, fun e => by have h1 := hq.1; have h2 := HLT5.out; omega⟩) _ _ _ _ _).mono (fun q hq => hq.2)), Lib.hid (HB5.out.trans ((five_below W5 _ _ _ _ _ _).mono (by first | exact Nat.le_refl _ | exact HB3.out.size | exact HB4.out.size)))⟩
          | exact ⟨_, k5, s5, m5, u5, A5, n5, c5, rfl, rfl, Lib.hid (Blk.new W5 [.int .i64 k5, .string s5, .int .i64 m5, .int .i64 u5, .slice A5 n5 c5] _ rfl), Lib.hid ((HT5.out.mono (fun q hq => hq.2)).up (newB W5 _)), Lib.hid (nxA HB5.out _)⟩)
    case rest =>
      obtain ⟨g, k, s, m, u, A, n, c, rfl, rfl, HF1, HF2, HBC⟩ := hcut
      obtain ⟨WC, hWC⟩ : ∃ W, W = wc := ⟨_, rfl⟩
      subst hWC
      have HK2 := Lib.hid (HK1.out.up HBC.out HK1.out.lt)
      have HTC := Lib.hid (HALT.out _ HBC.out)
      have HBW := Lib.hid (nx HB1.out HBC.out)
      clear HALL HAS HALT
      have HALL : Hid (∀ W, Below WC.heap.size WC W → S5 W gd k1 s1 m1 u1 A1 n1 c1) := Lib.hid (fun W h => (HK2.out.up h HK2.out.lt).s5)
      have HAS : Hid (∀ (W : World) (x : Nat) v0 v1 v2 v3 v4, WC.heap.size ≤ x → Below WC.heap.size WC W → S5 (((((W.setCell ⟨x, 0, none⟩ v0).setCell ⟨x, 1, none⟩ v1).setCell ⟨x, 2, none⟩ v2).setCell ⟨x, 3, none⟩ v3).setCell ⟨x, 4, none⟩ v4) gd k1 s1 m1 u1 A1 n1 c1) := Lib.hid (fun W x v0 v1 v2 v3 v4 hx h => HALL.out _ (h.trans ((five_below W x v0 v1 v2 v3 v4).mono hx)))
      have HALT : Hid (∀ W, Below WC.heap.size WC W → TIn (Lo W.heap.size) W ⟨k1, s1, m1, u1, A1, n1, c1⟩ e) := Lib.hid (fun W h => HTC.out.up h)
      go_upto_region 5 with fail
      go_cut [6, 7] from 22 to 29 (fun p b wx => b = .bool r ∧ Hid (Below WC.heap.size WC wx))
      case first =>
        go_region_held3 (fun W => S5 W gd k1 s1 m1 u1 A1 n1 c1)
        (first
          | with_reducible exact HALL.out _ (Below.refl _ _)
          | with_reducible exact HALL.out _ (bdD (Below.refl _ _))
          | with_reducible exact HALL.out _ HB5.out
          | with_reducible exact HALL.out _ (nxA HB5.out _)
          | with_reducible exact HALL.out _ HB4.out
          | with_reducible exact HALL.out _ (nxA HB4.out _)
          | with_reducible exact HALL.out _ HB3.out
          | with_reducible exact HALL.out _ (nxA HB3.out _)
          | with_reducible exact HALL.out _ (bdD (nxA (Below.refl _ _) _))
          | with_reducible exact HAS.out W5 WC.heap.size _ _ _ _ _ (Nat.le_refl _) HB5.out
          | with_reducible exact HAS.out W5 W3.heap.size _ _ _ _ _ HB3.out.size HB5.out
          | with_reducible exact HAS.out W5 W4.heap.size _ _ _ _ _ HB4.out.size HB5.out)
        (first
          | (go_at_call 13; (with_reducible refine (refAtoms_yes (e := e) (L := L) k1 s1 m1 u1 A1 n1 c1 (WC.alloc (.cells #[.int .i64 0, .string ⟨#[]⟩, .int .i64 0, .int .i64 0, .slice none 0 0] 28)).drew (HALT.out _ (bdD (nxA (Below.refl _ _) _))) HL).mono ?_); rintro z W3 ⟨⟨A2, n2, c2, rfl, hn2, hq⟩, hb1⟩; have HB3 : Hid (Below WC.heap.size WC W3) := Lib.hid (nx (bdD (nxA (Below.refl _ _) _)) hb1); have HX3 : Hid (Blk W3 WC.heap.size [.int .i64 0, .string ⟨#[]⟩, .int .i64 0, .int .i64 0, .slice none 0 0]) := Lib.hid (((Blk.new WC [.int .i64 0, .string ⟨#[]⟩, .int .i64 0, .int .i64 0, .slice none 0 0] 28 rfl).of (w' := (WC.alloc (.cells #[.int .i64 0, .string ⟨#[]⟩, .int .i64 0, .int .i64 0, .slice none 0 0] 28)).drew) rfl).up hb1 (by simp)); have HQ3 := Lib.hid hq; have HN2 := Lib.hid hn2; clear hq hn2 hb1)
          | (go_at_call 13; (with_reducible refine (refAtoms_yes (e := e) (L := L) k1 s1 m1 u1 A1 n1 c1 WC.drew (HALT.out _ (bdD (Below.refl _ _))) HL).mono ?_); rintro z W3 ⟨⟨A2, n2, c2, rfl, hn2, hq⟩, hb1⟩; have HB3 : Hid (Below WC.heap.size WC W3) := Lib.hid (nx (bdD (Below.refl _ _)) hb1); have HQ3 := Lib.hid hq; have HN2 := Lib.hid hn2; clear hq hn2 hb1)
          | (go_at_call 28; (with_reducible refine (rmin_is (e := e) k1 s1 m1 u1 A1 n1 c1 W3 (HALT.out _ (HB3.out))).mono ?_); rintro z W4 ⟨⟨X, A3, c3, rfl, hP, hR, hc3⟩, hb1⟩; have HB4 : Hid (Below WC.heap.size WC W4) := Lib.hid (nx (HB3.out) hb1); (try (have HX4 := Lib.hid (HX3.out.up hb1 HX3.out.lt))); have hXX : X = X0 := hP.uniq HX0.out; have HR4 : Hid (SRd W4 A3 (ofN X0)) := Lib.hid (by rw [← hXX]; exact hR); have HQ4 := Lib.hid (HQ3.out.below (hb1)); have HC3 : Hid (X0.length ≤ c3) := Lib.hid (by rw [← hXX]; exact hc3); rw [hXX, hN0.out]; have hcN : N0 ≤ c3 := (by rw [← hN0.out]; exact HC3.out); clear hP hR hc3 hXX hb1)
          | (go_at_call 28; (with_reducible refine (rmin_is (e := e) k1 s1 m1 u1 A1 n1 c1 (W3.alloc (.cells #[.int .i64 0, .string ⟨#[]⟩, .int .i64 0, .int .i64 0, .slice none 0 0] 28)) (HALT.out _ (nxA HB3.out _))).mono ?_); rintro z W4 ⟨⟨X, A3, c3, rfl, hP, hR, hc3⟩, hb1⟩; have HB4 : Hid (Below WC.heap.size WC W4) := Lib.hid (nx (nxA HB3.out _) hb1); have HX4 : Hid (Blk W4 W3.heap.size [.int .i64 0, .string ⟨#[]⟩, .int .i64 0, .int .i64 0, .slice none 0 0]) := Lib.hid ((Blk.new W3 [.int .i64 0, .string ⟨#[]⟩, .int .i64 0, .int .i64 0, .slice none 0 0] 28 rfl).up hb1 (by simp)); have hXX : X = X0 := hP.uniq HX0.out; have HR4 : Hid (SRd W4 A3 (ofN X0)) := Lib.hid (by rw [← hXX]; exact hR); have HQ4 := Lib.hid (HQ3.out.below (nx (newB W3 _) hb1)); have HC3 : Hid (X0.length ≤ c3) := Lib.hid (by rw [← hXX]; exact hc3); rw [hXX, hN0.out]; have hcN : N0 ≤ c3 := (by rw [← hN0.out]; exact HC3.out); clear hP hR hc3 hXX hb1)
          | (go_at_call 27; (with_reducible refine (rFrom_is L (ofN X0) A2 n2 c2 A3 N0 c3 W4 r HQ4.out HR4.out HN2 hN1 hr y hy).mono ?_); rintro z W5 ⟨⟨k5, s5, m5, u5, A5, n5, c5, rfl, ht⟩, hb1⟩; have HB5 : Hid (Below WC.heap.size WC W5) := Lib.hid (nx (HB4.out) hb1); (try (have HLT5 := Lib.hid HX4.out.lt; have HX5 := Lib.hid (HX4.out.up hb1 HX4.out.lt); have r0 := HX5.out.cell 0 rfl; have r1 := HX5.out.cell 1 rfl; have r2 := HX5.out.cell 2 rfl; have r3 := HX5.out.cell 3 rfl; have r4 := HX5.out.cell 4 rfl; have rf := HX5.out.fz; have rl := HX5.out.lt)); clear ht hb1)
          | (go_at_call 27; (with_reducible refine (rFrom_is L (ofN X0) A2 n2 c2 A3 N0 c3 (W4.alloc (.cells #[.int .i64 0, .string ⟨#[]⟩, .int .i64 0, .int .i64 0, .slice none 0 0] 28)) r (HQ4.out.below (newB W4 _)) (HR4.out.below (newB W4 _)) HN2 hN1 hr y hy).mono ?_); rintro z W5 ⟨⟨k5, s5, m5, u5, A5, n5, c5, rfl, ht⟩, hb1⟩; have HB5 : Hid (Below WC.heap.size WC W5) := Lib.hid (nx (nxA HB4.out _) hb1); have HLT5 : Hid (W4.heap.size < (W4.alloc (.cells #[.int .i64 0, .string ⟨#[]⟩, .int .i64 0, .int .i64 0, .slice none 0 0] 28)).heap.size) := Lib.hid (by simp); have HX5 : Hid (Blk W5 W4.heap.size [.int .i64 0, .string ⟨#[]⟩, .int .i64 0, .int .i64 0, .slice none 0 0]) := Lib.hid ((Blk.new W4 [.int .i64 0, .string ⟨#[]⟩, .int .i64 0, .int .i64 0, .slice none 0 0] 28 rfl).up hb1 (by simp)); have r0 := HX5.out.cell 0 rfl; have r1 := HX5.out.cell 1 rfl; have r2 := HX5.out.cell 2 rfl; have r3 := HX5.out.cell 3 rfl; have r4 := HX5.out.cell 4 rfl; have rf := HX5.out.fz; have rl := HX5.out.lt; clear ht hb1))
        all_goals (
          go_wp2_with fail
          go_meet
          first
            | exact ⟨rfl, Lib.hid (HB5.out.trans ((five_below W5 _ _ _ _ _ _).mono (by first | exact Nat.le_refl _ | exact HB3.out.size | exact HB4.out.size)))⟩
            | exact ⟨rfl, Lib.hid (nxA HB5.out _)⟩)
      case rest =>
        obtain ⟨rfl, HBD⟩ := hcut
        obtain ⟨WD, hWD⟩ : ∃ W, W = wc := ⟨_, rfl⟩
        subst hWD
        have HK3 := Lib.hid (HK2.out.up HBD.out HK2.out.lt)
        have HF3 := Lib.hid (HF1.out.up HBD.out HF1.out.lt)
        have HT3 := Lib.hid (HTC.out.up HBD.out)
        have HG3 := Lib.hid (HF2.out.up HBD.out)
        have HBV := Lib.hid (nx HBW.out HBD.out)
        have hrr : (r == r) = true := by simp
        clear HALL HAS HALT
        cases r with
        | false =>
          go_wp2_with (go_at_call 7; refine (awake9_any _).mono ?_; rintro z W8 ⟨rfl, hb⟩; have HB8 := Lib.hid (nx HBV.out hb); clear hb)
          go_ret
          exact ⟨by simp, HB8.out⟩
        | true =>
          have hyy : y = frm L (ofN X0) := by have h := hy.out; rw [if_pos rfl] at h; exact h
          have heq : Hid ((impB y e && impB e y) = true) := Lib.hid (by
            have h := frm_eqv HL.out (mn_of9 HL.out HX0.out) (frmB_iff.1 hr.out).2
            rw [hyy, h.1, h.2]; rfl)
          clear hyy
          go_wp2_with (first
            | (go_at_call 7; refine (awake9_any _).mono ?_; rintro z W8 ⟨rfl, hb⟩; have HB8 := Lib.hid (nx HBV.out hb); have hk8 := HK3.out.up hb HK3.out.lt; have hf8 := HF3.out.up hb HF3.out.lt; have x0 := hk8.cell 0 rfl; have x1 := hk8.cell 1 rfl; have x2 := hk8.cell 2 rfl; have x3 := hk8.cell 3 rfl; have x4 := hk8.cell 4 rfl; have y0 := hf8.cell 0 rfl; have y1 := hf8.cell 1 rfl; have y2 := hf8.cell 2 rfl; have y3 := hf8.cell 3 rfl; have y4 := hf8.cell 4 rfl; have HT8 := Lib.hid (HT3.out.up hb); have HG8 := Lib.hid (HG3.out.up hb); clear hb hk8 hf8)
            | (go_at_call 22; refine (reqv_is (a := y) (b := e) k s m u A n c k1 s1 m1 u1 A1 n1 c1 _ HG8.out HT8.out heq).mono ?_; rintro z W9 ⟨rfl, hb⟩; have HB9 := Lib.hid (nx HB8.out hb); clear hb))
          go_ret
          exact ⟨by simp, HB9.out⟩
  · have hd : decide ((n0 : Int) ≤ 300) = false := decide_eq_false hn
    go_enter Tryz.func6, Tryz.ntmps6
    go_wp2_with (first
      | (go_at_call 11; refine (light_is A0 n0 c0 _).mono ?_; rintro e W1 ⟨rfl, rfl⟩; rw [hd])
      | (go_at_call 7; refine (awake9_any _).mono ?_; rintro x W8 ⟨rfl, hb⟩; have HB8 := Lib.hid hb; clear hb))
    go_ret
    exact ⟨by simp, HB8.out⟩
end Go.Proofs.YtohjllnfnkajjaaGreat
