/- HoldersAgainst walked. -/
import Derived.Test.YthclgccgkdijbaaDoorHaw
import Derived.Test.YthclgccgkdijbaaDoorHra
import Derived.Test.YthclgccgkdijbaaDoorHopen
namespace Go.Proofs.YthclgccgkdijbaaDoor
open Go.RowKit
set_option linter.unusedVariables false
set_option linter.unusedSimpArgs false

theorem agR_len {k u : Int} {l : List Hd} {p : Pr3} {a : P2} {L : List Pr3} (h : AgR k u l p a L) : L.length ≤ l.length := by
  by_cases hs : SenH k u l p a ∧ ¬ RoomH k u l p a
  · rw [← h.1 hs, prsH, List.length_map]
    exact agn_len k l p a
  · rw [h.2 hs]
    exact Nat.zero_le _
set_option maxHeartbeats 4000000 in
set_option maxRecDepth 20000 in
theorem HoldersAgainst_walk (s0 : ByteArray) (a0 b0 c0 : Int) (A1 : Option Addr) (n1 c1 : Nat) (x1 : List Hd) (a2 b2 c2 : Int) (a3 b3 : Int) (w : World) (hV : Vars w) (wa0 : (Lit.int .i64 a0).wf = true) (wb0 : (Lit.int .i64 b0).wf = true) (wc0 : (Lit.int .i64 c0).wf = true) (w1 : InH w A1 n1 c1 x1) (wa2 : (Lit.int .i64 a2).wf = true) (wb2 : (Lit.int .i64 b2).wf = true) (wc2 : (Lit.int .i64 c2).wf = true) (wa3 : (Lit.int .i64 a3).wf = true) (wb3 : (Lit.int .i64 b3).wf = true) :
    Calls Tryd.prog 7 #[.agg #[.string s0, .int .i64 a0, .int .i64 b0, .int .i64 c0], .slice A1 n1 c1, .agg #[.int .i64 a2, .int .i64 b2, .int .i64 c2], .agg #[.int .i64 a3, .int .i64 b3]] w fun e w' => e = .returned (.bool true) ∧ Below w.heap.size w w' := by
  have HV := Lib.hid hV
  have HR := Lib.hid w1.rd
  have hn : Hid (x1.length = n1) := w1.len
  have hnc : n1 ≤ c1 := w1.fit
  have mixed : Tryd.prog.follows .mixedOrders = true := by kernel_rfl
  clear hV w1 wa0 wb0 wc0 wa2 wb2 wc2 wa3 wb3
  have HK0 := Lib.hid (((Blk.new w [.string s0, .int .i64 a0, .int .i64 b0, .int .i64 c0] 23 (g := w.heap.size) (by simp)).grow (.cells #[.int .i64 a2, .int .i64 b2, .int .i64 c2] 26)).grow (.cells #[.int .i64 a3, .int .i64 b3] 30))
  have HK1 := Lib.hid ((Blk.new (w.alloc (.cells #[.string s0, .int .i64 a0, .int .i64 b0, .int .i64 c0] 23)) [.int .i64 a2, .int .i64 b2, .int .i64 c2] 26 (g := w.heap.size + 1) (by simp)).grow (.cells #[.int .i64 a3, .int .i64 b3] 30))
  have HK2 := Lib.hid (Blk.new ((w.alloc (.cells #[.string s0, .int .i64 a0, .int .i64 b0, .int .i64 c0] 23)).alloc (.cells #[.int .i64 a2, .int .i64 b2, .int .i64 c2] 26)) [.int .i64 a3, .int .i64 b3] 30 (g := w.heap.size + 1 + 1) (by simp))
  obtain ⟨W0, hW0⟩ : ∃ W0, Hid ((((w.alloc (.cells #[.string s0, .int .i64 a0, .int .i64 b0, .int .i64 c0] 23)).alloc (.cells #[.int .i64 a2, .int .i64 b2, .int .i64 c2] 26)).alloc (.cells #[.int .i64 a3, .int .i64 b3] 30)) = W0) := ⟨_, rfl⟩
  have HB0 : Hid (Below w.heap.size w W0) := Lib.hid (by rw [← hW0.out]; exact nxA (nxA (newB _ _) _) _)
  rw [hW0.out] at HK0 HK1 HK2
  have HXS : Hid (∀ W, Below W0.heap.size W0 W → RS4 W (w.heap.size) s0 a0 b0 c0 ∧ RS3 W (w.heap.size + 1) a2 b2 c2 ∧ RS2 W (w.heap.size + 1 + 1) a3 b3) := Lib.hid (fun W hW => ⟨RS4.of (HK0.out.up hW HK0.out.lt), RS3.of (HK1.out.up hW HK1.out.lt), RS2.of (HK2.out.up hW HK2.out.lt)⟩)
  clear HK0 HK1 HK2
  have HV0 : Hid (Vars W0) := Lib.hid (HV.out.below HB0.out)
  have HAWK : Hid (∀ W, Below W0.heap.size W0 W → Calls Tryd.prog 11 #[] W fun e w' => e = .returned (.bool true) ∧ Below W.heap.size W w') := Lib.hid (fun W hW => awakeH_any W (HV.out.below (nx HB0.out hW)))
  have HL0 : Hid (∀ W, Below W0.heap.size W0 W → HRd W A1 x1) := Lib.hid (fun W hW => HR.out.below (nx HB0.out hW))
  by_cases h100 : 100 < (n1 : Int)
  · clear hn HL0
    go_enter Tryd.func7, Tryd.ntmps7
    go_upto_region 1 with fail
    rw [hW0.out]
    go_wp2_with (go_at_call 11; refine (awakeH_any _ HV0.out).mono ?_; rintro e W1 ⟨rfl, hb1⟩; have HB1 := Lib.hid (nx HB0.out hb1); clear hb1)
    go_ret
    exact ⟨rfl, HB1.out⟩
  · have h100' : ¬ (100 : Int) < (n1 : Int) := h100
    have hm : Hid (n1 ≤ 900) := Lib.hid (by omega)
    obtain ⟨L, hL⟩ := agR_ex a0 b0 x1 (a2, b2, c2) (a3, b3)
    obtain ⟨q, hq⟩ : ∃ q, Hid (L.length = q) := ⟨_, Lib.hid rfl⟩
    have hq1 : Hid (q ≤ 1000) := Lib.hid (by
      have h1 := agR_len hL.out
      rw [hq.out, hn.out] at h1
      omega)
    have HRP : Hid (∀ W, Below W0.heap.size W0 W → Calls Tryd.prog 30 #[ra s0 a0 b0 c0, .slice A1 n1 c1, .agg #[.int .i64 a2, .int .i64 b2, .int .i64 c2], .agg #[.int .i64 a3, .int .i64 b3]] W fun e w' => (∃ A' c', e = .returned (.slice A' q c') ∧ PRd w' A' L) ∧ Below W.heap.size W w') := Lib.hid (fun W hW => hagainst_is s0 a0 b0 c0 A1 n1 c1 x1 a2 b2 c2 a3 b3 W (HV.out.below (nx HB0.out hW)) (HL0.out W hW) hn hnc hm hL hq)
    have HRR : Hid (∀ W, Below W0.heap.size W0 W → Calls Tryd.prog 31 #[ra s0 a0 b0 c0, .slice A1 n1 c1, .agg #[.int .i64 a2, .int .i64 b2, .int .i64 c2], .agg #[.int .i64 a3, .int .i64 b3]] W fun e w' => (∃ A' c', e = .returned (.slice A' q c') ∧ PRd w' A' L) ∧ Below W.heap.size W w') := Lib.hid (fun W hW => refAgainst_is s0 a0 b0 c0 A1 n1 c1 x1 a2 b2 c2 a3 b3 W (HL0.out W hW) hn hm hL hq)
    clear hL h100'
    go_enter Tryd.func7, Tryd.ntmps7
    go_upto_region 1 with fail
    rw [hW0.out]
    go_upto_region 3 with fail
    have hcur : Below W0.heap.size W0 W0.drew := bdD (Below.refl _ _)
    go_region_held3 (fun W => RS4 W (w.heap.size) s0 a0 b0 c0 ∧ RS3 W (w.heap.size + 1) a2 b2 c2 ∧ RS2 W (w.heap.size + 1 + 1) a3 b3)
      (exact HXS.out _ hcur)
      (first
        | (go_at_call 11; (with_reducible refine (HAWK.out _ hcur).mono ?_); rintro e Wn ⟨rfl, hbb⟩; replace hcur := nx hcur hbb; clear hbb)
        | (go_at_call 30; (with_reducible refine (HRP.out _ hcur).mono ?_); rintro e Wn ⟨⟨A2, c2', rfl, hr2⟩, hbb⟩; have HRA := Lib.hid hr2; (try replace HRB := Lib.hid (HRB.out.below hbb)); replace hcur := nx hcur hbb; clear hbb hr2)
        | (go_at_call 31; (with_reducible refine (HRR.out _ hcur).mono ?_); rintro e Wn ⟨⟨A3, c3, rfl, hr3⟩, hbb⟩; have HRB := Lib.hid hr3; (try replace HRA := Lib.hid (HRA.out.below hbb)); replace hcur := nx hcur hbb; clear hbb hr3)
        | (go_at_call 16; (with_reducible refine (sameProcs_yes A2 A3 q c2' c3 L _ HRA.out HRB.out hq hq1).mono ?_); rintro e Wn ⟨rfl, hbb⟩; replace hcur := nx hcur hbb; clear hbb))
    all_goals (
      go_wp2
      go_ret
      exact ⟨rfl, nx HB0.out hcur⟩)
end Go.Proofs.YthclgccgkdijbaaDoor
