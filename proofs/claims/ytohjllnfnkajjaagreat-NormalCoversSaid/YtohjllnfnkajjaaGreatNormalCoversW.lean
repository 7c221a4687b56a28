/- NormalCovers walked. -/
import Derived.Test.YtohjllnfnkajjaaGreatQ11
namespace Go.Proofs.YtohjllnfnkajjaaGreat
open Go.RowKit
set_option linter.unusedVariables false
set_option linter.unusedSimpArgs false
theorem covers9 {e : Ex} {L : List A3} {X : List (List Nat)} (hX : MinOf (holdF e L) L.length X) (S : List Bool) : inB9 X S = e.hld L S := by
  rw [Bool.eq_iff_iff, inB9_iff]; exact (covers hX S).symm
theorem blk9 {e : Ex} {L : List A3} (h : VL e L) {Y : List (List Nat)} (hY : MinOf (blkF e L) L.length Y) (S : List Bool) : inB9 Y S = !e.hld L (deadS L.length S) := by
  rw [Bool.eq_iff_iff, inB9_iff]; exact (blk_covers h hY S).symm
set_option maxHeartbeats 8000000 in
set_option maxRecDepth 20000 in
theorem NormalCovers_walk (A0 : Option Addr) (n0 c0 : Nat) (x0 : List Int) (x1 : Int) (w : World) (w0 : InI w A0 n0 c0 x0) (w1 : (Lit.int .i64 x1).wf = true) :
    Calls Tryz.prog 4 #[.slice A0 n0 c0, .int .i64 x1] w fun x w' => x = .returned (.bool true) ∧ Below w.heap.size w w' := by
  have HI := Lib.hid w0
  have hwf := Lib.hid w1
  clear w0 w1
  by_cases hn : (n0 : Int) ≤ 300
  · have hd : decide ((n0 : Int) ≤ 300) = true := decide_eq_true hn
    have hn3 : n0 ≤ 300 := by omega
    go_enter Tryz.func4, Tryz.ntmps4
    go_upto_region 4 with (first
      | (go_at_call 11; refine (light_is A0 n0 c0 _).mono ?_; rintro e W1 ⟨rfl, rfl⟩; rw [hd])
      | (go_at_call 12; refine (made_is x0 A0 n0 c0 _ HI.out hn3).mono ?_; rintro x W1 ⟨⟨k1, s1, m1, u1, A1, n1, c1, e, L, rfl, ht, hL0⟩, hb⟩; have HT1 := Lib.hid (ht.grow (.cells #[.int .i64 k1, .string s1, .int .i64 m1, .int .i64 u1, .slice A1 n1 c1] 28)); have HK1 := Lib.hid (Blk.new W1 [.int .i64 k1, .string s1, .int .i64 m1, .int .i64 u1, .slice A1 n1 c1] 28 rfl); have HB1 := Lib.hid (nxA hb (.cells #[.int .i64 k1, .string s1, .int .i64 m1, .int .i64 u1, .slice A1 n1 c1] 28)); have HL := Lib.hid hL0; clear hb ht hL0))
    obtain ⟨gd, hgd⟩ : ∃ gd, W1.heap.size = gd := ⟨_, rfl⟩
    rw [hgd] at HK1 ⊢
    generalize W1.alloc (.cells #[.int .i64 k1, .string s1, .int .i64 m1, .int .i64 u1, .slice A1 n1 c1] 28) = W2 at HT1 HK1 HB1 ⊢
    have HALL : Hid (∀ W, Below W2.heap.size W2 W → Below W2.heap.size W2 W ∧ S5 W gd k1 s1 m1 u1 A1 n1 c1) := Lib.hid (fun W h => ⟨h, (HK1.out.up h HK1.out.lt).s5⟩)
    have HALT : Hid (∀ W, Below W2.heap.size W2 W → TIn (Lo W.heap.size) W ⟨k1, s1, m1, u1, A1, n1, c1⟩ e) := Lib.hid (fun W h => HT1.out.up h)
    clear hgd HI hn hd hn3
    obtain ⟨N, hN⟩ : ∃ N, Hid (L.length = N) := ⟨_, Lib.hid rfl⟩
    have hN8 : N ≤ 8 := by have h1 := HL.out.n8; have h2 := hN.out; omega
    obtain ⟨P, hP⟩ : ∃ P, Hid (2 ^ N = P) := ⟨2 ^ N, Lib.hid rfl⟩
    have hP2 : P ≤ 256 := by have h := hP.out; have h2 := Nat.pow_le_pow_right (n := 2) (by omega) hN8; omega
    have hP1 : 1 ≤ P := by have h := hP.out; have h2 := Nat.pow_pos (n := N) (show 0 < 2 by omega); omega
    have e0 := pow_wrap N (by omega)
    have e00 := u64_wrap N (by omega)
    rw [hP.out] at e0
    obtain ⟨b, hb⟩ : ∃ b : Nat, Hid (x1 % (P : Int) = (b : Int)) := ⟨(x1 % (P : Int)).toNat, Lib.hid (by have := Int.emod_nonneg x1 (show (P : Int) ≠ 0 by omega); omega)⟩
    have hb256 : b < 256 := by have h1 := hb.out; have h2 := Int.emod_lt_of_pos x1 (show (0 : Int) < (P : Int) by omega); omega
    have x0' := (HALL.out _ (Below.refl _ _)).2
    obtain ⟨y0, y1, y2, y3, y4⟩ := x0'
    go_upto_region 6 with (first
      | (go_at_call 13; refine (refAtoms_yes (e := e) (L := L) k1 s1 m1 u1 A1 n1 c1 _ HT1.out HL).mono ?_; rintro x W3 ⟨⟨A2, n2, c2, rfl, hn2, -⟩, hb3⟩; have hnn : n2 = N := hn2.symm.trans hN.out; subst hnn; have HB3 := Lib.hid hb3; clear hb3 hn2)
      | (go_at_call 15; refine (mod_is x1 (P : Int) _ hwf.out (by omega) (by omega) hb).mono ?_; rintro x W4 ⟨rfl, rfl⟩)
      | (go_at_call 14; refine (rset_ex b n2 _ hb256 hN8).mono ?_; rintro x W5 ⟨⟨g5, rfl, hg5⟩, hb5⟩; have HB5 := Lib.hid (nx HB3.out hb5); have HS5 := Lib.hid (show SI W5 (bitS n2 b) (some ⟨g5, 0, none⟩) n2 from ⟨bitS_len _ _, hg5.br, by omega⟩); clear hg5 hb5))
    have HAL5 : Hid (∀ W, Below W5.heap.size W5 W → Below W5.heap.size W5 W ∧ S5 W gd k1 s1 m1 u1 A1 n1 c1) := Lib.hid (fun W h => ⟨h, (HALL.out _ (nx HB5.out h)).2⟩)
    have HAT5 : Hid (∀ W, Below W5.heap.size W5 W → TIn (Lo W.heap.size) W ⟨k1, s1, m1, u1, A1, n1, c1⟩ e) := Lib.hid (fun W h => HALT.out _ (nx HB5.out h))
    have HAS5 : Hid (∀ W, Below W5.heap.size W5 W → SI W (bitS n2 b) (some ⟨g5, 0, none⟩) n2) := Lib.hid (fun W h => HS5.out.below h)
    obtain ⟨φ, hφ⟩ : ∃ φ, Hid (e.hld L (bitS n2 b) = φ) := ⟨_, Lib.hid rfl⟩
    obtain ⟨ψ, hψ⟩ : ∃ ψ, Hid (e.hld L (deadS L.length (bitS n2 b)) = ψ) := ⟨_, Lib.hid rfl⟩
    have q1 : (φ == φ) = true := by simp
    have q2 : ((!ψ) == (!ψ)) = true := by simp
    clear y0 y1 y2 y3 y4 HALL HALT HT1 HK1
    go_region_held3 (fun W => Below W5.heap.size W5 W ∧ S5 W gd k1 s1 m1 u1 A1 n1 c1)
    (first
      | exact HAL5.out _ (Below.refl _ _)
      | exact HAL5.out _ (bdD (Below.refl _ _))
      | (go_split_ands; exact HAL5.out _ (nx (by assumption) hb1)))
    (first
      | (go_at_call 7; (with_reducible refine (awake9_any _).mono ?_); rintro x W6 ⟨rfl, hb1⟩)
      | (go_at_call 17; go_split_ands; (with_reducible refine (pmin_is k1 s1 m1 u1 A1 n1 c1 _ (HAT5.out _ ?_)).mono ?_); (· assumption); rintro x W7 ⟨⟨X, A3, c3, rfl, hP', hR, -⟩, hb1⟩; have HX := Lib.hid (hP'.of HL.out); have HRX := Lib.hid hR; have HSX := Lib.hid (HAS5.out _ (nx (by assumption) hb1)); obtain ⟨N3, hN3⟩ : ∃ N, Hid (X.length = N) := ⟨_, Lib.hid rfl⟩; have hfX := HX.out.few9 HL.out.n8; have hN3k : N3 ≤ 1000 := (by have h1 := hN3.out; omega); have HFX : Hid (∀ s ∈ X, s.length ≤ 1000) := Lib.hid (fun s hs => by have := hfX.2 s hs; omega); have HCX : Hid (inB9 X (bitS n2 b) = φ) := Lib.hid (by rw [covers9 HX.out, hφ.out]); rw [hN3.out]; clear hP' hR hfX)
      | (go_at_call 16; (with_reducible refine (within9_is X (bitS n2 b) A3 N3 c3 (some ⟨g5, 0, none⟩) n2 n2 _ φ HRX.out HSX.out hN3 HFX hN3k HCX).mono ?_); rintro x W8 ⟨rfl, hb1⟩)
      | (go_at_call 18; go_split_ands; (with_reducible refine (refHolds_yes (e := e) (L := L) (S := bitS n2 b) k1 s1 m1 u1 A1 n1 c1 (some ⟨g5, 0, none⟩) n2 n2 _ (HAT5.out _ ?_) (HAS5.out _ ?_) HL hφ).mono ?_); (· assumption); (· assumption); rintro x W9 ⟨rfl, hb1⟩)
      | (go_at_call 9; go_split_ands; (with_reducible refine (pblk_is k1 s1 m1 u1 A1 n1 c1 _ (HAT5.out _ ?_)).mono ?_); (· assumption); rintro x W10 ⟨⟨Y, A4, c4, rfl, hP', hR, -⟩, hb1⟩; have HY := Lib.hid (hP'.of HL.out); have HRY := Lib.hid hR; have HSY := Lib.hid (HAS5.out _ (nx (by assumption) hb1)); obtain ⟨N4, hN4⟩ : ∃ N, Hid (Y.length = N) := ⟨_, Lib.hid rfl⟩; have hfY := HY.out.few9 HL.out.n8; have hN4k : N4 ≤ 1000 := (by have h1 := hN4.out; omega); have HFY : Hid (∀ s ∈ Y, s.length ≤ 1000) := Lib.hid (fun s hs => by have := hfY.2 s hs; omega); have HCY : Hid (inB9 Y (bitS n2 b) = !ψ) := Lib.hid (by rw [blk9 HL.out HY.out, hψ.out]); rw [hN4.out]; clear hP' hR hfY)
      | (go_at_call 16; (with_reducible refine (within9_is Y (bitS n2 b) A4 N4 c4 (some ⟨g5, 0, none⟩) n2 n2 _ (!ψ) HRY.out HSY.out hN4 HFY hN4k HCY).mono ?_); rintro x W11 ⟨rfl, hb1⟩)
      | (go_at_call 19; go_split_ands; (with_reducible refine (refHopeless_yes (e := e) (L := L) (D := bitS n2 b) k1 s1 m1 u1 A1 n1 c1 (some ⟨g5, 0, none⟩) n2 n2 _ (HAT5.out _ ?_) (HAS5.out _ ?_) HL hψ).mono ?_); (· assumption); (· assumption); rintro x W12 ⟨rfl, hb1⟩))
    all_goals (go_split_ands; go_wp2; go_ret; exact ⟨by simp, nx (nx HB1.out HB5.out) (by assumption)⟩)
  · have hd : decide ((n0 : Int) ≤ 300) = false := decide_eq_false hn
    go_enter Tryz.func4, Tryz.ntmps4
    go_wp2_with (first
      | (go_at_call 11; refine (light_is A0 n0 c0 _).mono ?_; rintro e W1 ⟨rfl, rfl⟩; rw [hd])
      | (go_at_call 7; refine (awake9_any _).mono ?_; rintro x W8 ⟨rfl, hb⟩; have HB8 := Lib.hid hb; clear hb))
    go_ret
    exact ⟨by simp, HB8.out⟩
end Go.Proofs.YtohjllnfnkajjaaGreat
