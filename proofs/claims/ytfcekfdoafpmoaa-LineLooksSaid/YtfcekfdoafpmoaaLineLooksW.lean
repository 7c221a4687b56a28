/- LineLooks walked. -/
import Derived.Test.YtfcekfdoafpmoaaJaw
import Derived.Test.YtfcekfdoafpmoaaJopen
namespace Go.Proofs.Ytfcekfdoafpmoaa
open Go.RowKit
set_option linter.unusedVariables false
set_option linter.unusedSimpArgs false

set_option maxHeartbeats 8000000 in
set_option maxRecDepth 20000 in
theorem LineLooks_walk (A0 : Option Addr) (n0 c0 : Nat) (x0 : List Wt) (a1 b1 c1 : Int) (w : World) (w0 : InW w A0 n0 c0 x0) (wa1 : (Lit.int .i64 a1).wf = true) (wb1 : (Lit.int .i64 b1).wf = true) (wc1 : (Lit.int .i64 c1).wf = true) :
    Calls Try.prog 5 #[.slice A0 n0 c0, .agg #[.int .i64 a1, .int .i64 b1, .int .i64 c1]] w fun e w' => e = .returned (.bool true) ∧ Below w.heap.size w w' := by
  have HR := Lib.hid w0.rd
  have hn : Hid (x0.length = n0) := w0.len
  have HCAP : Hid (n0 ≤ c0) := Lib.hid w0.fit
  have mixed : Try.prog.follows .mixedOrders = true := by kernel_rfl
  have HK := Lib.hid (Blk.new w [.int .i64 a1, .int .i64 b1, .int .i64 c1] 24 rfl)
  clear w0 wa1 wb1 wc1
  obtain ⟨W0, hW0⟩ : ∃ W0, Hid (w.alloc (.cells #[.int .i64 a1, .int .i64 b1, .int .i64 c1] 24) = W0) := ⟨_, rfl⟩
  have HB0 : Hid (Below w.heap.size w W0) := Lib.hid (by rw [← hW0.out]; exact newB _ _)
  rw [hW0.out] at HK
  have HL0 : Hid (∀ W, Below W0.heap.size W0 W → WRd W A0 x0) := Lib.hid (fun W hW => HR.out.below (nx HB0.out hW))
  by_cases h100 : 100 < (n0 : Int)
  · clear hn HL0
    go_enter Try.func5, Try.ntmps5
    go_upto_region 1 with fail
    rw [hW0.out]
    go_wp2_with (go_at_call 10; refine (awakeW_any _).mono ?_; rintro e W1 ⟨rfl, hb1⟩; have HB1 := Lib.hid (nx HB0.out hb1); clear hb1)
    go_ret
    exact ⟨rfl, HB1.out⟩
  · have hm : Hid (n0 ≤ 1000) := Lib.hid (by omega)
    obtain ⟨f, hf⟩ : ∃ f, Hid (findW x0 (a1, b1, c1) = f) := ⟨_, Lib.hid rfl⟩
    obtain ⟨L, hL⟩ : ∃ L : List P3, Hid (ahdW x0 (a1, b1, c1) = L) := ⟨_, Lib.hid rfl⟩
    obtain ⟨k, hk⟩ : ∃ k, Hid (L.length = k) := ⟨_, Lib.hid rfl⟩
    obtain ⟨D, hD⟩ : ∃ D, Hid (delW x0 (a1, b1, c1) = D) := ⟨_, Lib.hid rfl⟩
    obtain ⟨q, hq⟩ : ∃ q, Hid (D.length = q) := ⟨_, Lib.hid rfl⟩
    have hkm : Hid (k ≤ 1000) := Lib.hid (by
      have h1 := hm.out
      rw [← hk.out, ← hL.out, ahdW, List.length_map, List.length_take, hn.out]
      omega)
    have hqm : Hid (q ≤ 1000) := Lib.hid (by
      have h1 := hm.out
      have h2 := delW_len x0 (a1, b1, c1)
      rw [hD.out, hq.out, hn.out] at h2
      omega)
    have HXS : Hid (∀ W, Below W0.heap.size W0 W → W.cell? ⟨w.heap.size, 0, none⟩ = some (.int .i64 a1) ∧ W.cell? ⟨w.heap.size, 1, none⟩ = some (.int .i64 b1) ∧ W.cell? ⟨w.heap.size, 2, none⟩ = some (.int .i64 c1)) := Lib.hid (fun W hW => by
      have h := HK.out.up hW HK.out.lt
      exact ⟨h.cell 0 rfl, h.cell 1 rfl, h.cell 2 rfl⟩)
    obtain ⟨bq, hbq⟩ : ∃ bq, Hid (decide ((q : Int) < (n0 : Int)) = bq) := ⟨_, Lib.hid rfl⟩
    have HRP : Hid (∀ W, Below W0.heap.size W0 W → Calls Try.prog 18 #[.slice A0 n0 c0, .agg #[.int .i64 a1, .int .i64 b1, .int .i64 c1]] W fun e w' => (∃ A' c', e = .returned (.tuple #[.slice A' q c', .bool bq]) ∧ WRd w' A' D) ∧ Below W.heap.size W w') := Lib.hid (fun W hW => (rem_is A0 n0 c0 x0 a1 b1 c1 W (HL0.out W hW) hn hm hD hq).mono fun e w' ⟨⟨A', c', he, ho⟩, hb⟩ => ⟨⟨A', c', by rw [he, hbq.out], own_rdW ho hq⟩, hb⟩)
    have HRR : Hid (∀ W, Below W0.heap.size W0 W → Calls Try.prog 19 #[.slice A0 n0 c0, .agg #[.int .i64 a1, .int .i64 b1, .int .i64 c1]] W fun e w' => (∃ A' c', e = .returned (.tuple #[.slice A' q c', .bool bq]) ∧ WRd w' A' D) ∧ Below W.heap.size W w') := Lib.hid (fun W hW => (refRemove_is A0 n0 c0 x0 a1 b1 c1 W (HL0.out W hW) hn hm hD hq).mono fun e w' ⟨⟨A', c', he, ho⟩, hb⟩ => ⟨⟨A', c', by rw [he, hbq.out], own_rdW ho hq⟩, hb⟩)
    have hbr : ∀ W : World, (binOp .eql 4 (.bool bq) (.bool bq)).run Try.prog W = .ok (.bool true) W := fun W => by cases bq <;> kernel_rfl
    clear hD
    obtain ⟨i0, i1, i2⟩ := HXS.out _ (Below.refl _ _)
    go_enter Try.func5, Try.ntmps5
    go_upto_region 1 with fail
    rw [hW0.out]
    go_upto_region 5 with (first
      | (go_at_call 18; (with_reducible refine (HRP.out _ (Below.refl _ _)).mono ?_); rintro e W1 ⟨⟨A1, c1', rfl, hr1⟩, hb1⟩; have HRA := Lib.hid hr1; have HB1 := Lib.hid hb1; clear hb1 hr1; obtain ⟨j0, j1, j2⟩ := HXS.out _ HB1.out)
      | (go_at_call 19; (with_reducible refine (HRR.out _ HB1.out).mono ?_); rintro e W2 ⟨⟨A2, c2', rfl, hr2⟩, hb2⟩; have HRB := Lib.hid hr2; have HRA := Lib.hid (HRA.out.below hb2); have HB2 := Lib.hid (nx HB1.out hb2); clear hb2 hr2 j0 j1 j2 i0 i1 i2))
    have hcur : Below W0.heap.size W0 W2.drew := bdD HB2.out
    have HRA := Lib.hid (HRA.out.below (bdD (Below.refl _ _)))
    have HRB := Lib.hid (HRB.out.below (bdD (Below.refl _ _)))
    go_region_held3 (fun W => W.cell? ⟨w.heap.size, 0, none⟩ = some (.int .i64 a1) ∧ W.cell? ⟨w.heap.size, 1, none⟩ = some (.int .i64 b1) ∧ W.cell? ⟨w.heap.size, 2, none⟩ = some (.int .i64 c1))
      (exact HXS.out _ hcur)
      (first
        | (go_at_call 10; (with_reducible refine (awakeW_any _).mono ?_); rintro e Wn ⟨rfl, hbb⟩; replace hcur := nx hcur hbb; replace HRA := Lib.hid (HRA.out.below hbb); replace HRB := Lib.hid (HRB.out.below hbb); clear hbb)
        | (go_at_call 20; (with_reducible refine (find_is A0 n0 c0 x0 a1 b1 c1 _ (HL0.out _ hcur) hn hm hf).mono ?_); rintro e Wn ⟨rfl, hbb⟩; replace hcur := nx hcur hbb; replace HRA := Lib.hid (HRA.out.below hbb); replace HRB := Lib.hid (HRB.out.below hbb); clear hbb)
        | (go_at_call 21; (with_reducible refine (refFind_is A0 n0 c0 x0 a1 b1 c1 _ (HL0.out _ hcur) hn hm hf).mono ?_); rintro e Wn ⟨rfl, hbb⟩; replace hcur := nx hcur hbb; replace HRA := Lib.hid (HRA.out.below hbb); replace HRB := Lib.hid (HRB.out.below hbb); clear hbb)
        | (go_at_call 23; (with_reducible refine (ahd_is A0 n0 c0 x0 a1 b1 c1 _ (HL0.out _ hcur) hn hm HCAP.out hL hk).mono ?_); rintro e Wn ⟨⟨A3, c3, rfl, hr3⟩, hbb⟩; have HPA := Lib.hid hr3; (try replace HPB := Lib.hid (HPB.out.below hbb)); replace hcur := nx hcur hbb; replace HRA := Lib.hid (HRA.out.below hbb); replace HRB := Lib.hid (HRB.out.below hbb); clear hbb hr3)
        | (go_at_call 24; (with_reducible refine (refAhead_is A0 n0 c0 x0 a1 b1 c1 _ (HL0.out _ hcur) hn hm hL hk).mono ?_); rintro e Wn ⟨⟨A4, c4, rfl, hr4⟩, hbb⟩; have HPB := Lib.hid hr4; (try replace HPA := Lib.hid (HPA.out.below hbb)); replace hcur := nx hcur hbb; replace HRA := Lib.hid (HRA.out.below hbb); replace HRB := Lib.hid (HRB.out.below hbb); clear hbb hr4)
        | (go_at_call 22; (with_reducible refine (sameProcs_yes A3 A4 k c3 c4 L _ HPA.out HPB.out hk hkm).mono ?_); rintro e Wn ⟨rfl, hbb⟩; replace hcur := nx hcur hbb; replace HRA := Lib.hid (HRA.out.below hbb); replace HRB := Lib.hid (HRB.out.below hbb); clear hbb)
        | (go_at_call 17; (with_reducible refine (sameWaits_yes A1 A2 q c1' c2' D _ HRA.out HRB.out hq hqm).mono ?_); rintro e Wn ⟨rfl, hbb⟩; replace hcur := nx hcur hbb; clear hbb))
    all_goals (
      go_wp2
      go_ret
      exact ⟨rfl, nx HB0.out hcur⟩)
end Go.Proofs.Ytfcekfdoafpmoaa
