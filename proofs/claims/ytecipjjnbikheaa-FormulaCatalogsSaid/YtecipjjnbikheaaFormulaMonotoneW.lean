/- FormulaMonotone walked. -/
import Derived.Test.YtecipjjnbikheaaFlw
import Derived.Test.YtecipjjnbikheaaTrq
import Derived.Test.YtecipjjnbikheaaTin
namespace Go.Proofs.Ytecipjjnbikheaa
open Go.RowKit
set_option linter.unusedVariables false
set_option linter.unusedSimpArgs false
theorem tape_new8 {W : World} {A : Option Addr} {n c : Nat} {xs : List Int} (h : InI W A n c xs) (hn : n ≤ 300) : Tp (W.alloc (.cells #[.slice A n c, .int .i64 0] 39)) W.heap.size := by
  have hk := Blk.new W [.slice A n c, .int .i64 0] 39 rfl
  refine ⟨A, n, c, xs, 0, hk.lt, hk.cell 0 rfl, hk.cell 1 rfl, hk.fz, h.len, fun h0 => ?_, h.wf, hn, Nat.zero_le _, h.fit⟩
  obtain ⟨g, o, hA, hg, hc⟩ := h.rd (by rintro rfl; have := h.len; simp at this; omega)
  exact ⟨g, o, hA, hg, fun j hj => (cell_of_block ((newB W _).block g hg) _).trans (hc j (by rw [h.len]; exact hj))⟩
theorem TIn.lo8 {lo : Nat} {w : World} {v : XV} {e : Ex} (h : TIn (Snc lo w) w v e) : TIn (Lo w.heap.size) w v e := h.mono (fun k hk => hk.2)
theorem nxB8 {b : Nat} {w a c : World} (h : Below b w a) (k : Below a.heap.size a c) (hb : w.heap.size = b) : Below b w c := h.trans (k.mono (by have := h.size; omega))
theorem F2.new0 {w wr : World} {k : Int} {s : ByteArray} {m u : Int} {A : Option Addr} {n c : Nat} (hB : Below w.heap.size w wr) (hK : Blk wr w.heap.size [.int .i64 k, .string s, .int .i64 m, .int .i64 u, .slice A n c]) (X Y : List Bool) :
    F2 w wr.heap.size (wr.heap.size + 1) X Y ((wr.alloc (.cells (bvs X).toArray 4)).alloc (.cells (bvs Y).toArray 4)) k s m u A n c := by
  have hl := hK.lt
  have h1 := (Blk.new wr (bvs X) 4 rfl).grow (.cells (bvs Y).toArray 4)
  have h2 := Blk.new (wr.alloc (.cells (bvs X).toArray 4)) (bvs Y) 4 (g := wr.heap.size + 1) (by simp)
  exact ⟨h1, h2, nx hB (nxA (newB wr _) _), (hK.grow _).grow _, hl, by omega, by omega⟩
theorem vl_pos {e : Ex} {L : List A3} (h : VL e L) : 0 < L.length := by
  cases L with
  | nil =>
    have h1 := hld_all (L := []) (S := []) (fun i hi => by simp at hi) e h.good
    have h2 := hld_none (L := []) (S := []) (fun i => rfl) e h.good
    rw [h1] at h2
    cases h2
  | cons a r => simp
set_option maxHeartbeats 8000000 in
set_option maxRecDepth 100000 in
theorem FormulaMonotone_walk (A0 : Option Addr) (n0 c0 : Nat) (x0 : List Int) (A1 : Option Addr) (n1 c1 : Nat) (x1 : List Bool) (A2 : Option Addr) (n2 c2 : Nat) (x2 : List Bool) (w : World) (w0 : InI w A0 n0 c0 x0) (w1 : InB w A1 n1 c1 x1) (w2 : InB w A2 n2 c2 x2) :
    Calls Try.prog 5 #[.slice A0 n0 c0, .slice A1 n1 c1, .slice A2 n2 c2] w fun x w' => x = .returned (.bool true) ∧ Below w.heap.size w w' := by
  have HI := Lib.hid w0
  have HS1 := Lib.hid w1.si
  have HS2 := Lib.hid w2.si
  have hn1 := w1.big
  have hn2 := w2.big
  clear w0 w1 w2
  by_cases hn : (n0 : Int) ≤ 300
  · have hd : decide ((n0 : Int) ≤ 300) = true := decide_eq_true hn
    have HT := Lib.hid (tape_new8 HI.out (by omega))
    have HB0 := Lib.hid (newB w (.cells #[.slice A0 n0 c0, .int .i64 0] 39))
    go_enter Try.func5, Try.ntmps5
    go_upto_region 4 with (first
      | (go_at_call 20; refine (light_is A0 n0 c0 _).mono ?_; rintro e W1 ⟨rfl, rfl⟩; rw [hd]))
    obtain ⟨b, hb⟩ : ∃ b, w.heap.size = b := ⟨_, rfl⟩
    rw [hb] at HT ⊢
    have hbl : Hid (b ≤ (w.alloc (.cells #[.slice A0 n0 c0, .int .i64 0] 39)).heap.size) := Lib.hid (by have := HT.out.lt; omega)
    have HBB : Hid (Below b w (w.alloc (.cells #[.slice A0 n0 c0, .int .i64 0] 39))) := Lib.hid (by rw [← hb]; exact HB0.out)
    have HSB : Hid (∀ W, Below b w W → SI W x1 A1 n1 ∧ SI W x2 A2 n2) := Lib.hid (fun W h => ⟨HS1.out.below (by rw [hb]; exact h), HS2.out.below (by rw [hb]; exact h)⟩)
    have hbH := Lib.hid hb
    clear hb HB0 HI hd hn HS1 HS2
    generalize w.alloc (.cells #[.slice A0 n0 c0, .int .i64 0] 39) = W0 at HT hbl HBB ⊢
    go_upto_region 5 with (first
      | (go_at_call 22; refine (catalog_any b _ HT.out).mono ?_; rintro e W1 ⟨⟨A3', c3, l, rfl, hl6, hC, hO⟩, ht, hf⟩; have HT1 := Lib.hid ht; have HB1 := Lib.hid (HBB.out.trans (hf.below hbl.out)); have hL6 := Lib.hid hl6; have HC := Lib.hid hC; have hA1 : Hid (∀ g o, A3' = some ⟨g, o, none⟩ → g ≠ b) := Lib.hid (fun g o h => by have h1 := (own_lt hO (g := g) (by rw [h]; rfl)).1; have h2 := HT.out.lt; omega); have hR1 : Hid (RRd W1 A3' l) := Lib.hid (by obtain ⟨A4, c4, hV, h1, h2, h3⟩ := hO.form; injection hV with q1; rw [q1]; exact h2); clear ht hf hl6 hC hO)
      | (go_at_call 21; refine (mexpr_any l b A3' c3 _ HT1.out hL6 HC hR1.out hA1.out).mono ?_; rintro e W2 ⟨⟨k0, s0, m0, u0, Ak, nk, ck, e0, rfl, ht, hv, -⟩, hp2, hf2⟩; have HB2 := Lib.hid (HB1.out.trans (hf2.below (Nat.le_of_lt HT1.out.lt))); have HT2 := Lib.hid ht.lo8; have HV := Lib.hid hv; clear ht hv hp2 hf2))
    obtain ⟨L, hL0⟩ := VL.ex HV.out
    have hL := Lib.hid hL0
    obtain ⟨N, hN⟩ : ∃ N, Hid (L.length = N) := ⟨_, rfl⟩
    have hN8 : N ≤ 8 := by have h1 := hL0.n8; have h2 := hN.out; omega
    have hNp : 0 < N := by have h1 := vl_pos hL0; have h2 := hN.out; omega
    have hmk := make_bools N (by omega)
    have hK3 := Blk.new W2 [.int .i64 k0, .string s0, .int .i64 m0, .int .i64 u0, .slice Ak nk ck] 28 rfl
    have y0 := hK3.cell 0 rfl
    have y1 := hK3.cell 1 rfl
    have y2 := hK3.cell 2 rfl
    have y3 := hK3.cell 3 rfl
    have y4 := hK3.cell 4 rfl
    have HK3 := Lib.hid hK3
    have HT3 := Lib.hid (HT2.out.grow (.cells #[.int .i64 k0, .string s0, .int .i64 m0, .int .i64 u0, .slice Ak nk ck] 28))
    have HB3 := Lib.hid (newB W2 (.cells #[.int .i64 k0, .string s0, .int .i64 m0, .int .i64 u0, .slice Ak nk ck] 28))
    clear hL0 hK3 HT1 HB1 hL6 HC hA1 hR1 HT hbl HBB HV
    go_wp2_with (go_at_call 13; refine (atoms8_yes k0 s0 m0 u0 Ak nk ck _ HT3.out hL).mono ?_; rintro x W4 ⟨⟨A5, n5, c5, rfl, hn5, -⟩, hb4⟩; have hnn : n5 = N := hn5.symm.trans hN.out; subst hnn; have hk4 := HK3.out.up hb4 HK3.out.lt; have HB4 := Lib.hid (nx HB3.out hb4); have HK4 := Lib.hid hk4; clear hb4 hk4 hn5)
    have hF0 : Hid (F2 W2 W4.heap.size (W4.heap.size + 1) (fillS n5 0 (fun i => x1.getD i false || x2.getD i false)) (fillS n5 0 (fun _ => true)) ((W4.alloc (.cells (bvs (List.replicate n5 false)).toArray 4)).alloc (.cells (bvs (List.replicate n5 false)).toArray 4)) k0 s0 m0 u0 Ak nk ck) := Lib.hid (by rw [fillS_zero, fillS_zero]; exact F2.new0 HB4.out HK4.out _ _)
    have hbw2 : b ≤ W2.heap.size := by have h1 := HB2.out.size; have h2 := hbH.out; omega
    obtain ⟨g, hg⟩ : ∃ g, W4.heap.size = g := ⟨_, rfl⟩
    obtain ⟨h, hh⟩ : ∃ h, W4.heap.size + 1 = h := ⟨_, rfl⟩
    rw [hh] at hF0 ⊢
    rw [hg] at hF0 ⊢
    generalize (W4.alloc (.cells (bvs (List.replicate n5 false)).toArray 4)).alloc (.cells (bvs (List.replicate n5 false)).toArray 4) = W5 at hF0 ⊢
    have HBof : Hid (∀ W X Y, F2 W2 g h X Y W k0 s0 m0 u0 Ak nk ck → Below b w W) := Lib.hid (fun W X Y z => HB2.out.trans (z.bel.mono hbw2))
    clear hg hh hmk HK3 HT3 HB3 HK4 HB4 y0 y1 y2 y3 y4
    go_loopw [12] (fun i wr => ∃ (j : Nat), j ≤ n5 ∧ i = .int .i64 j ∧ Hid (F2 W2 g h (fillS n5 j (fun i => x1.getD i false || x2.getD i false)) (fillS n5 j (fun _ => true)) wr k0 s0 m0 u0 Ak nk ck)) (fun i _ => n5 - (intOf i).toNat)
    case atStart => exact ⟨0, by omega, rfl, hF0⟩
    case round =>
      obtain ⟨j, hj, rfl, hF⟩ := hrel
      by_cases hlt : (j : Int) < (n5 : Int)
      · have e5 : IntKind.i64.wrap ((j : Int) + 1) = (j : Int) + 1 := by rw [IntKind.wrap_i64]; omega
        have g1 := hF.out.b1.lt
        have g2 := hF.out.b1.fz
        have g3 := hF.out.b1.cell j (bvs_at (by rw [fillS_len]; omega))
        have h1 := hF.out.b2.lt
        have h2 := hF.out.b2.fz
        have h3 := hF.out.b2.cell j (bvs_at (by rw [fillS_len]; omega))
        have ne1 := hF.out.ne
        have ne2 := hF.out.ne.symm
        have hst := hF.out.put j (x1.getD j false || x2.getD j false) true
        have f1 := fillS_step (n := n5) (fun i => x1.getD i false || x2.getD i false) (show j < n5 by omega)
        have f2 := fillS_step (n := n5) (fun _ => true) (show j < n5 by omega)
        rw [f1, f2] at hst
        have HST := Lib.hid hst
        have hSB := HSB.out _ (HBof.out _ _ _ hF.out)
        have HSr := Lib.hid hSB
        clear hst f1 f2 hSB
        by_cases hj1 : j < n1
        · obtain ⟨p1, o1, v1, hA1, hp1, hv1, d1⟩ := HSr.out.1.sr.at_ (i := j) (by have := HSr.out.1.sn; omega)
          subst hA1
          have dj1 : decide (j < n1) = true := decide_eq_true hj1
          rw [hv1.out] at HST
          cases v1 with
          | true =>
            rw [Bool.true_or] at HST
            go_wp2
            exact ⟨⟨j + 1, by omega, by go_num, HST⟩, by simp [intOf]; omega⟩
          | false =>
            rw [Bool.false_or] at HST
            by_cases hj2 : j < n2
            · obtain ⟨p2, o2, v2, hA2, hp2, hv2, d2⟩ := HSr.out.2.sr.at_ (i := j) (by have := HSr.out.2.sn; omega)
              subst hA2
              have dj2 : decide (j < n2) = true := decide_eq_true hj2
              rw [hv2.out] at HST
              go_wp2
              exact ⟨⟨j + 1, by omega, by go_num, HST⟩, by simp [intOf]; omega⟩
            · have dj2 : decide (j < n2) = false := decide_eq_false hj2
              rw [getD_out (S := x2) (by have := HSr.out.2.sn; omega)] at HST
              go_wp2
              exact ⟨⟨j + 1, by omega, by go_num, HST⟩, by simp [intOf]; omega⟩
        · have dj1 : decide (j < n1) = false := decide_eq_false hj1
          rw [getD_out (S := x1) (by have := HSr.out.1.sn; omega), Bool.false_or] at HST
          by_cases hj2 : j < n2
          · obtain ⟨p2, o2, v2, hA2, hp2, hv2, d2⟩ := HSr.out.2.sr.at_ (i := j) (by have := HSr.out.2.sn; omega)
            subst hA2
            have dj2 : decide (j < n2) = true := decide_eq_true hj2
            rw [hv2.out] at HST
            go_wp2
            exact ⟨⟨j + 1, by omega, by go_num, HST⟩, by simp [intOf]; omega⟩
          · have dj2 : decide (j < n2) = false := decide_eq_false hj2
            rw [getD_out (S := x2) (by have := HSr.out.2.sn; omega)] at HST
            go_wp2
            exact ⟨⟨j + 1, by omega, by go_num, HST⟩, by simp [intOf]; omega⟩
      · have hje : j = n5 := by omega
        subst hje
        have HFV0 := hF
        have HBV0 := Lib.hid (HBof.out _ _ _ hF.out)
        have npos : (0 : Int) < (j : Int) := by omega
        have M1 := Lib.hid trivial
        have M2 := Lib.hid trivial
        have M3 := Lib.hid trivial
        have hal : Hid (e0.hld L (fillS j j (fun _ => true)) = true) := hld_all (fun i hi => by rw [fillS_all, map_getD, hN.out.symm, decide_eq_true hi]; rfl) e0 hL.out.good
        have hno : Hid (e0.hld L [] = false) := hld_none (fun i => rfl) e0 hL.out.good
        obtain ⟨r, hr⟩ : ∃ r, Hid (e0.hld L x1 = r) := ⟨_, rfl⟩
        clear hF
        cases r with
        | false =>
          go_wp2_with (first
            | (go_at_call 15; refine (awake8_any _).mono ?_; rintro x V1 ⟨rfl, hb1⟩; have HFV1 := Lib.hid (HFV0.out.of hb1); have HBV1 := Lib.hid (nxB8 HBV0.out hb1 hbH.out); have y0 := HFV1.out.box.cell 0 rfl; have y1 := HFV1.out.box.cell 1 rfl; have y2 := HFV1.out.box.cell 2 rfl; have y3 := HFV1.out.box.cell 3 rfl; have y4 := HFV1.out.box.cell 4 rfl; clear hb1)
            | (go_at_call 16; clear M1; refine (holds8_yes k0 s0 m0 u0 Ak nk ck A1 n1 c1 _ (TIn.up HT2.out HFV1.out.bel) (HSB.out _ HBV1.out).1 hL hr).mono ?_; rintro x V2 ⟨rfl, hb1⟩; have HFV2 := Lib.hid (HFV1.out.of hb1); have HBV2 := Lib.hid (nxB8 HBV1.out hb1 hbH.out); clear y0 y1 y2 y3 y4; have y0 := HFV2.out.box.cell 0 rfl; have y1 := HFV2.out.box.cell 1 rfl; have y2 := HFV2.out.box.cell 2 rfl; have y3 := HFV2.out.box.cell 3 rfl; have y4 := HFV2.out.box.cell 4 rfl; clear hb1)
            | (go_at_call 16; clear M3; refine (holds8_yes k0 s0 m0 u0 Ak nk ck (some ⟨h, 0, none⟩) j j _ (TIn.up HT2.out HFV2.out.bel) ⟨fillS_len _ _ _, HFV2.out.b2.br, by omega⟩ hL hal).mono ?_; rintro x V4 ⟨rfl, hb1⟩; have HFV4 := Lib.hid (HFV2.out.of hb1); have HBV4 := Lib.hid (nxB8 HBV2.out hb1 hbH.out); clear y0 y1 y2 y3 y4; have y0 := HFV4.out.box.cell 0 rfl; have y1 := HFV4.out.box.cell 1 rfl; have y2 := HFV4.out.box.cell 2 rfl; have y3 := HFV4.out.box.cell 3 rfl; have y4 := HFV4.out.box.cell 4 rfl; clear hb1)
            | (go_at_call 16; refine (holds8_yes (S := []) k0 s0 m0 u0 Ak nk ck none 0 0 _ (TIn.up HT2.out HFV4.out.bel) ⟨rfl, BR.nil _ _, by omega⟩ hL hno).mono ?_; rintro x V5 ⟨rfl, hb1⟩; have HBV5 := Lib.hid (nxB8 HBV4.out hb1 hbH.out); clear hb1))
          go_ret
          exact ⟨by simp, by rw [hbH.out]; exact HBV5.out⟩
        | true =>
          have hbo : Hid (e0.hld L (fillS j j (fun i => x1.getD i false || x2.getD i false)) = true) := by
            show _ = _
            have h1 := hr.out
            rw [← cutS_hld] at h1
            refine hld_mono (fun i hi => ?_) e0 h1
            unfold cutS at hi
            rw [map_getD, Bool.and_eq_true] at hi
            rw [fillS_all, map_getD, ← hN.out, hi.1, hi.2]
            rfl
          go_wp2_with (first
            | (go_at_call 15; refine (awake8_any _).mono ?_; rintro x V1 ⟨rfl, hb1⟩; have HFV1 := Lib.hid (HFV0.out.of hb1); have HBV1 := Lib.hid (nxB8 HBV0.out hb1 hbH.out); have y0 := HFV1.out.box.cell 0 rfl; have y1 := HFV1.out.box.cell 1 rfl; have y2 := HFV1.out.box.cell 2 rfl; have y3 := HFV1.out.box.cell 3 rfl; have y4 := HFV1.out.box.cell 4 rfl; clear hb1)
            | (go_at_call 16; clear M1; refine (holds8_yes k0 s0 m0 u0 Ak nk ck A1 n1 c1 _ (TIn.up HT2.out HFV1.out.bel) (HSB.out _ HBV1.out).1 hL hr).mono ?_; rintro x V2 ⟨rfl, hb1⟩; have HFV2 := Lib.hid (HFV1.out.of hb1); have HBV2 := Lib.hid (nxB8 HBV1.out hb1 hbH.out); clear y0 y1 y2 y3 y4; have y0 := HFV2.out.box.cell 0 rfl; have y1 := HFV2.out.box.cell 1 rfl; have y2 := HFV2.out.box.cell 2 rfl; have y3 := HFV2.out.box.cell 3 rfl; have y4 := HFV2.out.box.cell 4 rfl; clear hb1)
            | (go_at_call 16; clear M2; refine (holds8_yes k0 s0 m0 u0 Ak nk ck (some ⟨g, 0, none⟩) j j _ (TIn.up HT2.out HFV2.out.bel) ⟨fillS_len _ _ _, HFV2.out.b1.br, by omega⟩ hL hbo).mono ?_; rintro x V3 ⟨rfl, hb1⟩; have HFV3 := Lib.hid (HFV2.out.of hb1); have HBV3 := Lib.hid (nxB8 HBV2.out hb1 hbH.out); clear y0 y1 y2 y3 y4; have y0 := HFV3.out.box.cell 0 rfl; have y1 := HFV3.out.box.cell 1 rfl; have y2 := HFV3.out.box.cell 2 rfl; have y3 := HFV3.out.box.cell 3 rfl; have y4 := HFV3.out.box.cell 4 rfl; clear hb1)
            | (go_at_call 16; clear M3; refine (holds8_yes k0 s0 m0 u0 Ak nk ck (some ⟨h, 0, none⟩) j j _ (TIn.up HT2.out HFV3.out.bel) ⟨fillS_len _ _ _, HFV3.out.b2.br, by omega⟩ hL hal).mono ?_; rintro x V4 ⟨rfl, hb1⟩; have HFV4 := Lib.hid (HFV3.out.of hb1); have HBV4 := Lib.hid (nxB8 HBV3.out hb1 hbH.out); clear y0 y1 y2 y3 y4; have y0 := HFV4.out.box.cell 0 rfl; have y1 := HFV4.out.box.cell 1 rfl; have y2 := HFV4.out.box.cell 2 rfl; have y3 := HFV4.out.box.cell 3 rfl; have y4 := HFV4.out.box.cell 4 rfl; clear hb1)
            | (go_at_call 16; refine (holds8_yes (S := []) k0 s0 m0 u0 Ak nk ck none 0 0 _ (TIn.up HT2.out HFV4.out.bel) ⟨rfl, BR.nil _ _, by omega⟩ hL hno).mono ?_; rintro x V5 ⟨rfl, hb1⟩; have HBV5 := Lib.hid (nxB8 HBV4.out hb1 hbH.out); clear hb1))
          go_ret
          exact ⟨by simp, by rw [hbH.out]; exact HBV5.out⟩
  · have hd : decide ((n0 : Int) ≤ 300) = false := decide_eq_false hn
    go_enter Try.func5, Try.ntmps5
    go_wp2_with (first
      | (go_at_call 20; refine (light_is A0 n0 c0 _).mono ?_; rintro e W1 ⟨rfl, rfl⟩; rw [hd])
      | (go_at_call 15; refine (awake8_any _).mono ?_; rintro e W2 ⟨rfl, hb2⟩; have HB2 := Lib.hid hb2; clear hb2))
    go_ret
    exact ⟨rfl, HB2.out⟩
end Go.Proofs.Ytecipjjnbikheaa
