/- FormulaHopeless walked. -/
import Derived.Test.YtecipjjnbikheaaFlw
namespace Go.Proofs.Ytecipjjnbikheaa
open Go.RowKit
set_option linter.unusedVariables false
set_option linter.unusedSimpArgs false
set_option maxHeartbeats 8000000 in
set_option maxRecDepth 100000 in
theorem FormulaHopeless_walk (k0 : Int) (s0 : ByteArray) (m0 u0 : Int) (A0 : Option Addr) (n0 c0 : Nat) (e0 : Ex) (A1 : Option Addr) (n1 c1 : Nat) (x1 : List Bool) (w : World) (T0 : TIn (Lo w.heap.size) w ⟨k0, s0, m0, u0, A0, n0, c0⟩ e0) (w1 : InB w A1 n1 c1 x1) :
    Calls Try.prog 6 #[xe k0 s0 m0 u0 A0 n0 c0, .slice A1 n1 c1] w fun x w' => x = .returned (.bool true) ∧ Below w.heap.size w w' := by
  have HT := Lib.hid T0
  have HS := Lib.hid w1.si
  have hn1 := w1.big
  have HK0 := Lib.hid (Blk.new w [.int .i64 k0, .string s0, .int .i64 m0, .int .i64 u0, .slice A0 n0 c0] 28 rfl)
  clear T0 w1
  by_cases hv : Vex e0
  · obtain ⟨L, hL0⟩ := VL.ex hv
    have hL := Lib.hid hL0
    have hvb : Hid (vexB e0 = true) := vexB_iff.2 hv
    obtain ⟨N, hN⟩ : ∃ N, Hid (L.length = N) := ⟨_, rfl⟩
    have hN8 : N ≤ 8 := by have h1 := hL0.n8; have h2 := hN.out; omega
    have hmk := make_bools N (by omega)
    obtain ⟨r, hr⟩ : ∃ r, Hid (e0.hld L (deadS L.length x1) = r) := ⟨_, rfl⟩
    clear hv hL0
    go_enter Try.func6, Try.ntmps6
    go_wp2_with (first
      | (go_at_call 23; refine (refValidExpr_is k0 s0 m0 u0 A0 n0 c0 _ (HT.out.grow _) hvb).mono ?_; rintro x W1 ⟨rfl, hb1⟩; have hk := HK0.out.up hb1 (by simp); have x0 := hk.cell 0 rfl; have x1' := hk.cell 1 rfl; have x2 := hk.cell 2 rfl; have x3 := hk.cell 3 rfl; have x4 := hk.cell 4 rfl; have HK1 := Lib.hid hk; have HB1 := Lib.hid (dn1 hb1); have HT1 := Lib.hid (TIn.up HT.out HB1.out); clear hk hb1)
      | (go_at_call 14; refine (refAtoms_yes k0 s0 m0 u0 A0 n0 c0 _ HT1.out hL).mono ?_; rintro x W2 ⟨⟨A3', n3, c3, rfl, hn3, -⟩, hb2⟩; have hnn : n3 = N := hn3.symm.trans hN.out; subst hnn; have hk2 := HK1.out.up hb2 HK1.out.lt; have hf : Hid (FS w W2.heap.size (fillS n3 0 (fun i => !x1.getD i false)) (W2.alloc (.cells (bvs (List.replicate n3 false)).toArray 4)) k0 s0 m0 u0 A0 n0 c0) := Lib.hid ⟨by rw [fillS_zero]; exact Blk.new W2 _ _ rfl, nx (nx HB1.out hb2) (newB _ _), hk2.up (newB _ _) hk2.lt, hk2.lt⟩; clear hb2 hk2 hn3))
    generalize W2.alloc (.cells (bvs (List.replicate n3 false)).toArray 4) = W3 at hf ⊢
    obtain ⟨g, hg⟩ : ∃ g, W2.heap.size = g := ⟨_, rfl⟩
    rw [hg] at hf ⊢
    clear hg HK0 HK1 HB1 HT1 hmk x0 x1' x2 x3 x4
    go_loopw [7] (fun i wr => ∃ (j : Nat), j ≤ n3 ∧ i = .int .i64 j ∧ Hid (FS w g (fillS n3 j (fun i => !x1.getD i false)) wr k0 s0 m0 u0 A0 n0 c0)) (fun i _ => n3 - (intOf i).toNat)
    case atStart => exact ⟨0, by omega, rfl, hf⟩
    case round =>
      obtain ⟨j, hj, rfl, hF⟩ := hrel
      have g1 := hF.out.blk.lt
      have gf := hF.out.blk.fz
      by_cases hlt : (j : Int) < (n3 : Int)
      · have e5 : IntKind.i64.wrap ((j : Int) + 1) = (j : Int) + 1 := by rw [IntKind.wrap_i64]; omega
        have gc := hF.out.blk.cell j (bvs_at (by rw [fillS_len]; omega))
        have hst := hF.out.put j (!x1.getD j false)
        have hfl := fillS_step (n := n3) (fun i => !x1.getD i false) (show j < n3 by omega)
        rw [hfl] at hst
        have HST := Lib.hid hst
        clear hst hfl
        by_cases hjs : j < n1
        · obtain ⟨g2, o2, v, rfl, hg2, hv2, d1⟩ := (HS.out.sr.below hF.out.bel).at_ (i := j) (by have := HS.out.sn; omega)
          have dj : decide (n1 ≤ j) = false := decide_eq_false (by omega)
          rw [hv2.out] at HST
          go_wp2
          exact ⟨⟨j + 1, by omega, by go_num, HST⟩, by simp [intOf]; omega⟩
        · have dj : decide (n1 ≤ j) = true := decide_eq_true (by omega)
          rw [getD_out (by have := HS.out.sn; omega)] at HST
          go_wp2
          exact ⟨⟨j + 1, by omega, by go_num, HST⟩, by simp [intOf]; omega⟩
      · have hje : j = n3 := by omega
        subst hje
        have hS2 : Hid (∀ W, Below wr.heap.size wr W → S5 W w.heap.size k0 s0 m0 u0 A0 n0 c0 ∧ TIn (Lo W.heap.size) W ⟨k0, s0, m0, u0, A0, n0, c0⟩ e0 ∧ SI W x1 A1 n1 ∧ SI W (deadS L.length x1) (some ⟨g, 0, none⟩) j) := Lib.hid (fun W hW => by
          have hF2 := hF.out.of hW
          refine ⟨hF2.box.s5, TIn.up HT.out hF2.bel, HS.out.below hF2.bel, by simp [deadS, hN.out], ?_, by omega⟩
          have h := hF2.blk.br
          rw [fillS_all] at h
          rw [hN.out]
          exact h)
        have HFB := Lib.hid hF.out.bel
        clear g1 gf hF
        go_wp2
        go_region_held3 (fun W => Below wr.heap.size wr W ∧ S5 W w.heap.size k0 s0 m0 u0 A0 n0 c0)
          (first
            | exact ⟨Below.refl _ _, (hS2.out _ (Below.refl _ _)).1⟩
            | exact ⟨bdD (Below.refl _ _), (hS2.out _ (bdD (Below.refl _ _))).1⟩
            | (go_split_ands; exact ⟨nx (by assumption) hb1, (hS2.out _ (nx (by assumption) hb1)).1⟩))
          (first
            | (go_at_call 15; (with_reducible refine (awake8_any _).mono ?_); rintro x W1 ⟨rfl, hb1⟩)
            | (go_at_call 18; go_split_ands; (with_reducible refine (hopeless8_yes k0 s0 m0 u0 A0 n0 c0 A1 n1 c1 _ (hS2.out _ ?_).2.1 (hS2.out _ ?_).2.2.1 hL hr).mono ?_); (· assumption); (· assumption); rintro x W1 ⟨rfl, hb1⟩)
            | (go_at_call 16; go_split_ands; (with_reducible refine (holds8_yes k0 s0 m0 u0 A0 n0 c0 (some ⟨g, 0, none⟩) j j _ (hS2.out _ ?_).2.1 (hS2.out _ ?_).2.2.2 hL hr).mono ?_); (· assumption); (· assumption); rintro x W1 ⟨rfl, hb1⟩))
        all_goals (go_wp2; go_ret; go_split_ands; refine ⟨by cases r <;> simp, HFB.out.trans (Below.mono (by assumption) HFB.out.size)⟩)
  · have hn := Lib.hid hv
    have hvb : Hid (vexB e0 = false) := vexB_no.2 hv
    clear hv
    go_enter Try.func6, Try.ntmps6
    go_wp2_with (first
      | (go_at_call 23; refine (refValidExpr_is k0 s0 m0 u0 A0 n0 c0 _ (HT.out.grow _) hvb).mono ?_; rintro x W1 ⟨rfl, hb1⟩; have HK1 := Lib.hid (HK0.out.up hb1 (by simp)); have HB1 := Lib.hid (dn1 hb1); clear hb1)
      | (go_at_call 15; refine (awake8_any _).mono ?_; rintro x W2 ⟨rfl, hb2⟩; have hk := HK1.out.up hb2 HK1.out.lt; have x0 := hk.cell 0 rfl; have x1' := hk.cell 1 rfl; have x2 := hk.cell 2 rfl; have x3 := hk.cell 3 rfl; have x4 := hk.cell 4 rfl; have HB2 := Lib.hid (nx HB1.out hb2); clear hk hb2)
      | (go_at_call 18; refine (hopeless8_no k0 s0 m0 u0 A0 n0 c0 A1 n1 c1 _ (TIn.up HT.out HB2.out) (HS.out.below HB2.out) hn).mono ?_; rintro x W3 ⟨rfl, hb3⟩; have HB3 := Lib.hid (nx HB2.out hb3); clear hb3))
    go_ret
    exact ⟨by simp, HB3.out⟩
end Go.Proofs.Ytecipjjnbikheaa
