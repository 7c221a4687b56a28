/- NormalMeets walked. -/
import Derived.Test.YtohjllnfnkajjaaQ11
namespace Go.Proofs.Ytohjllnfnkajjaa
open Go.RowKit
set_option linter.unusedVariables false
set_option linter.unusedSimpArgs false
set_option maxHeartbeats 8000000 in
set_option maxRecDepth 20000 in
theorem NormalMeets_walk (A0 : Option Addr) (n0 c0 : Nat) (x0 : List Int) (w : World) (w0 : InI w A0 n0 c0 x0) :
    Calls Try.prog 4 #[.slice A0 n0 c0] w fun x w' => x = .returned (.bool true) ∧ Below w.heap.size w w' := by
  have HI := Lib.hid w0
  clear w0
  by_cases hn : (n0 : Int) ≤ 300
  · have hd : decide ((n0 : Int) ≤ 300) = true := decide_eq_true hn
    have hn3 : n0 ≤ 300 := by omega
    go_enter Try.func4, Try.ntmps4
    go_upto_region 4 with (first
      | (go_at_call 14; refine (light_is A0 n0 c0 _).mono ?_; rintro e W1 ⟨rfl, rfl⟩; rw [hd])
      | (go_at_call 15; refine (made_is x0 A0 n0 c0 _ HI.out hn3).mono ?_; rintro x W1 ⟨⟨k1, s1, m1, u1, A1, n1, c1, e, L, rfl, ht, hL0⟩, hb⟩; have HT1 := Lib.hid (ht.grow (.cells #[.int .i64 k1, .string s1, .int .i64 m1, .int .i64 u1, .slice A1 n1 c1] 28)); have HK1 := Lib.hid (Blk.new W1 [.int .i64 k1, .string s1, .int .i64 m1, .int .i64 u1, .slice A1 n1 c1] 28 rfl); have HB1 := Lib.hid (nxA hb (.cells #[.int .i64 k1, .string s1, .int .i64 m1, .int .i64 u1, .slice A1 n1 c1] 28)); have HL := Lib.hid hL0; clear hb ht hL0))
    obtain ⟨gd, hgd⟩ : ∃ gd, W1.heap.size = gd := ⟨_, rfl⟩
    rw [hgd] at HK1 ⊢
    generalize W1.alloc (.cells #[.int .i64 k1, .string s1, .int .i64 m1, .int .i64 u1, .slice A1 n1 c1] 28) = W2 at HT1 HK1 HB1 ⊢
    have HALL : Hid (∀ W, Below W2.heap.size W2 W → Below W2.heap.size W2 W ∧ S5 W gd k1 s1 m1 u1 A1 n1 c1) := Lib.hid (fun W h => ⟨h, (HK1.out.up h HK1.out.lt).s5⟩)
    have HALT : Hid (∀ W, Below W2.heap.size W2 W → TIn (Lo W.heap.size) W ⟨k1, s1, m1, u1, A1, n1, c1⟩ e) := Lib.hid (fun W h => HT1.out.up h)
    clear hgd HI hn hd hn3 HT1 HK1
    go_cut [4, 5] from 14 to 17 (fun a b wx => ∃ (X Y : List (List Nat)) (A B : Option Addr) (N M c d : Nat), a = .slice A N c ∧ b = .slice B M d ∧ Hid (X.length = N) ∧ Hid (Y.length = M) ∧ Hid (MnR holdF e X) ∧ Hid (MnR blkF e Y) ∧ Hid (SRd wx A (ofN X)) ∧ Hid (SRd wx B (ofN Y)) ∧ Below W2.heap.size W2 wx)
    case first =>
      go_region_held3 (fun W => Below W2.heap.size W2 W ∧ S5 W gd k1 s1 m1 u1 A1 n1 c1)
      (first
        | exact HALL.out _ (Below.refl _ _)
        | exact HALL.out _ (bdD (Below.refl _ _))
        | (go_split_ands; exact HALL.out _ (nx (by assumption) hb1)))
      (first
        | (go_at_call 12; go_split_ands; (with_reducible refine (pmin_is k1 s1 m1 u1 A1 n1 c1 _ (HALT.out _ ?_)).mono ?_); (· assumption); rintro x W3 ⟨⟨X, A3, c3, rfl, hP, hR, -⟩, hb1⟩; have HX := Lib.hid hP; have HRX := Lib.hid hR; obtain ⟨N, hN⟩ : ∃ N, Hid (X.length = N) := ⟨_, Lib.hid rfl⟩; rw [hN.out]; clear hP hR)
        | (go_at_call 16; go_split_ands; (with_reducible refine (pblk_is k1 s1 m1 u1 A1 n1 c1 _ (HALT.out _ ?_)).mono ?_); (· assumption); rintro x W4 ⟨⟨Y, A4, c4, rfl, hP, hR, -⟩, hb1⟩; have HY := Lib.hid hP; have HRY := Lib.hid hR; have HRX2 := Lib.hid (HRX.out.below hb1); obtain ⟨M, hM⟩ : ∃ M, Hid (Y.length = M) := ⟨_, Lib.hid rfl⟩; rw [hM.out]; clear hP hR))
      all_goals (go_split_ands; go_wp2_with fail; go_meet; exact ⟨X, Y, A3, A4, N, M, c3, c4, rfl, rfl, hN, hM, HX, HY, HRX2, HRY, by assumption⟩)
    case rest =>
      obtain ⟨X, Y, A3, A4, N, M, c3, c4, rfl, rfl, hN, hM, HX0, HY0, HRX, HRY, hbc⟩ := hcut
      have HX := Lib.hid (HX0.out.of HL.out)
      have HY := Lib.hid (HY0.out.of HL.out)
      have hNp : 0 < N := by have h1 := min_some HL.out HX.out; have h2 := List.length_pos_iff.2 h1; have h3 := hN.out; omega
      have hMp : 0 < M := by have h1 := blk_some HL.out HY.out; have h2 := List.length_pos_iff.2 h1; have h3 := hM.out; omega
      have hN8 : N ≤ 256 := by have h1 := (HX.out.few9 HL.out.n8).1; have h3 := hN.out; omega
      have hM8 : M ≤ 256 := by have h1 := (HY.out.few9 HL.out.n8).1; have h3 := hM.out; omega
      have hNi : (0 : Int) < (N : Int) := by omega
      have hMi : (0 : Int) < (M : Int) := by omega
      have HBC := Lib.hid (nx HB1.out hbc)
      clear hbc HALL HALT HX0 HY0
      go_wp2_with fail
      go_loopw [6] (fun i wr => ∃ (j : Nat), j ≤ N ∧ i = .int .i64 j ∧ Hid (Below wc.heap.size wc wr)) (fun i _ => N - (intOf i).toNat)
      case atStart => exact ⟨0, by omega, rfl, Below.refl _ _⟩
      case round =>
        obtain ⟨j, hj, rfl, hB⟩ := hrel
        obtain ⟨WR, hWR⟩ : ∃ W, W = wr := ⟨_, rfl⟩
        subst hWR
        by_cases hlt : (j : Int) < (N : Int)
        · have hjN : j < N := by omega
          have hjX : j < X.length := by have := hN.out; omega
          have e5 : IntKind.i64.wrap ((j : Int) + 1) = (j : Int) + 1 := by rw [IntKind.wrap_i64]; omega
          go_wp2_with fail
          go_loopw [7] (fun i wz => ∃ (q : Nat), q ≤ M ∧ i = .int .i64 q ∧ Hid (Below WR.heap.size WR wz)) (fun i _ => M - (intOf i).toNat)
          case atStart => exact ⟨0, by omega, rfl, Below.refl _ _⟩
          case round =>
            obtain ⟨q, hq, rfl, hZ⟩ := hrel
            by_cases hqt : (q : Int) < (M : Int)
            · have hqM : q < M := by omega
              have hqY : q < Y.length := by have := hM.out; omega
              have e6 : IntKind.i64.wrap ((q : Int) + 1) = (q : Int) + 1 := by rw [IntKind.wrap_i64]; omega
              obtain ⟨g, o, A5, n5, c5, rfl, hg, z1, hn5, -, hr5⟩ := (HRX.out.below (nx hB.out hZ.out)).at_ (i := j) (by rw [List.length_map]; exact hjX)
              obtain ⟨g', o', A6, n6, c6, rfl, hg', z2, hn6, -, hr6⟩ := (HRY.out.below (nx hB.out hZ.out)).at_ (i := q) (by rw [List.length_map]; exact hqY)
              rw [getD_ofN hjX] at hn5 hr5
              rw [getD_ofN hqY] at hn6 hr6
              have hsm : X.getD j [] ∈ X := by rw [List.getD_eq_getElem?_getD, List.getElem?_eq_getElem hjX]; exact List.getElem_mem hjX
              have htm : Y.getD q [] ∈ Y := by rw [List.getD_eq_getElem?_getD, List.getElem?_eq_getElem hqY]; exact List.getElem_mem hqY
              have hn5k : n5 ≤ 1000 := by have h1 := (HX.out.few9 HL.out.n8).2 _ hsm; have h2 := hn5.out; rw [List.length_map] at h2; omega
              have hn6k : n6 ≤ 1000 := by have h1 := (HY.out.few9 HL.out.n8).2 _ htm; have h2 := hn6.out; rw [List.length_map] at h2; omega
              have hmm : Hid (∃ v, v ∈ (X.getD j []).map Int.ofNat ∧ v ∈ (Y.getD q []).map Int.ofNat) := Lib.hid (by
                obtain ⟨i, h1, h2⟩ := meets HL.out HX.out HY.out hsm htm
                exact ⟨Int.ofNat i, List.mem_map.2 ⟨i, h1, rfl⟩, List.mem_map.2 ⟨i, h2, rfl⟩⟩)
              have HR5 : Hid (∀ W, Below wr.heap.size wr W → IRd W A5 ((X.getD j []).map Int.ofNat) ∧ IRd W A6 ((Y.getD q []).map Int.ofNat)) := Lib.hid (fun W h => ⟨hr5.below h, hr6.below h⟩)
              clear hr5 hr6 hsm htm
              go_wp2_with fail
              go_region_with (go_at_call 17; refine (common_is _ _ A5 n5 c5 A6 n6 c6 _ (HR5.out _ (bdD (Below.refl _ _))).1 (HR5.out _ (bdD (Below.refl _ _))).2 hn5 hn6 hn5k hn6k hmm).mono ?_; rintro x W7 ⟨rfl, hb1⟩; have HB7 : Hid (Below wr.heap.size wr W7) := (bdD (Below.refl _ _)).trans hb1; clear hb1)
              all_goals (try go_wp2)
              all_goals (
                go_roundw
                case rel => exact ⟨q + 1, by omega, by go_num, nx hZ.out HB7.out⟩
                case measure => simp [intOf]; omega)
            · go_wp2_with fail
              go_roundw
              case rel => exact ⟨j + 1, by omega, by go_num, nx hB.out hZ.out⟩
              case measure => simp [intOf]; omega
        · go_wp2_with (go_at_call 10; refine (awake9_any _).mono ?_; rintro x W8 ⟨rfl, hb⟩; have HB8 := Lib.hid (nx hB.out hb); clear hb)
          go_ret
          exact ⟨by simp, nx HBC.out HB8.out⟩
  · have hd : decide ((n0 : Int) ≤ 300) = false := decide_eq_false hn
    go_enter Try.func4, Try.ntmps4
    go_wp2_with (first
      | (go_at_call 14; refine (light_is A0 n0 c0 _).mono ?_; rintro e W1 ⟨rfl, rfl⟩; rw [hd])
      | (go_at_call 10; refine (awake9_any _).mono ?_; rintro x W8 ⟨rfl, hb⟩; have HB8 := Lib.hid hb; clear hb))
    go_ret
    exact ⟨by simp, HB8.out⟩
end Go.Proofs.Ytohjllnfnkajjaa
