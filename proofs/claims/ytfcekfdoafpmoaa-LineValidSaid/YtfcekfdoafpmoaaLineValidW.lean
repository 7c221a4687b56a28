/- LineValid walked. -/
import Derived.Test.YtfcekfdoafpmoaaJaw
import Derived.Test.YtfcekfdoafpmoaaJopen
namespace Go.Proofs.Ytfcekfdoafpmoaa
open Go.RowKit
set_option linter.unusedVariables false
set_option linter.unusedSimpArgs false

set_option maxHeartbeats 8000000 in
set_option maxRecDepth 20000 in
theorem LineValid_walk (A0 : Option Addr) (n0 c0 : Nat) (x0 : List Wt) (a1 b1 c1 d1 e1 f1 g1 : Int) (w : World) (w0 : InW w A0 n0 c0 x0) (wa1 : (Lit.int .i64 a1).wf = true) (wb1 : (Lit.int .i64 b1).wf = true) (wc1 : (Lit.int .i64 c1).wf = true) (wd1 : (Lit.int .i64 d1).wf = true) (we1 : (Lit.int .i64 e1).wf = true) (wf1 : (Lit.int .i64 f1).wf = true) (wg1 : (Lit.int .i64 g1).wf = true) :
    Calls Try.prog 3 #[.slice A0 n0 c0, .agg #[.int .i64 a1, .int .i64 b1, .int .i64 c1, .int .i64 d1, .int .i64 e1, .int .i64 f1, .int .i64 g1]] w fun e w' => e = .returned (.bool true) ∧ Below w.heap.size w w' := by
  have HR := Lib.hid w0.rd
  have hn : Hid (x0.length = n0) := w0.len
  have mixed : Try.prog.follows .mixedOrders = true := by kernel_rfl
  have HK := Lib.hid (Blk.new w [.int .i64 a1, .int .i64 b1, .int .i64 c1, .int .i64 d1, .int .i64 e1, .int .i64 f1, .int .i64 g1] 28 rfl)
  clear w0 wa1 wb1 wc1 wd1 we1 wf1 wg1
  obtain ⟨W0, hW0⟩ : ∃ W0, Hid (w.alloc (.cells #[.int .i64 a1, .int .i64 b1, .int .i64 c1, .int .i64 d1, .int .i64 e1, .int .i64 f1, .int .i64 g1] 28) = W0) := ⟨_, rfl⟩
  have HB0 : Hid (Below w.heap.size w W0) := Lib.hid (by rw [← hW0.out]; exact newB _ _)
  rw [hW0.out] at HK
  have HL0 : Hid (∀ W, Below W0.heap.size W0 W → WRd W A0 x0) := Lib.hid (fun W hW => HR.out.below (nx HB0.out hW))
  by_cases h100 : 100 < (n0 : Int)
  · clear hn HL0
    go_enter Try.func3, Try.ntmps3
    go_upto_region 1 with fail
    rw [hW0.out]
    go_wp2_with (go_at_call 10; refine (awakeW_any _).mono ?_; rintro e W1 ⟨rfl, hb1⟩; have HB1 := Lib.hid (nx HB0.out hb1); clear hb1)
    go_ret
    exact ⟨rfl, HB1.out⟩
  · have hm : Hid (n0 ≤ 1000) := Lib.hid (by omega)
    obtain ⟨r, hr⟩ : ∃ r : Bool, Hid (VL x0 ↔ r = true) := ⟨decide (VL x0), Lib.hid (by simp)⟩
    obtain ⟨v, hv⟩ : ∃ v, Hid (vW ((a1, b1, c1), (d1, e1), f1, g1) = v) := ⟨_, Lib.hid rfl⟩
    have HXS : Hid (∀ W, Below W0.heap.size W0 W → W.cell? ⟨w.heap.size, 0, none⟩ = some (.int .i64 a1) ∧ W.cell? ⟨w.heap.size, 1, none⟩ = some (.int .i64 b1) ∧ W.cell? ⟨w.heap.size, 2, none⟩ = some (.int .i64 c1) ∧ W.cell? ⟨w.heap.size, 3, none⟩ = some (.int .i64 d1) ∧ W.cell? ⟨w.heap.size, 4, none⟩ = some (.int .i64 e1) ∧ W.cell? ⟨w.heap.size, 5, none⟩ = some (.int .i64 f1) ∧ W.cell? ⟨w.heap.size, 6, none⟩ = some (.int .i64 g1)) := Lib.hid (fun W hW => by
      have h := HK.out.up hW HK.out.lt
      exact ⟨h.cell 0 rfl, h.cell 1 rfl, h.cell 2 rfl, h.cell 3 rfl, h.cell 4 rfl, h.cell 5 rfl, h.cell 6 rfl⟩)
    have hbe : ∀ (b : Bool) (W : World), (binOp .eql 4 (.bool b) (.bool b)).run Try.prog W = .ok (.bool true) W := fun b W => by cases b <;> kernel_rfl
    have hbr := hbe r
    have hbv := hbe v
    clear hbe
    go_enter Try.func3, Try.ntmps3
    go_upto_region 1 with fail
    rw [hW0.out]
    go_upto_region 3 with fail
    have hcur : Below W0.heap.size W0 W0.drew := bdD (Below.refl _ _)
    go_region_held3 (fun W => W.cell? ⟨w.heap.size, 0, none⟩ = some (.int .i64 a1) ∧ W.cell? ⟨w.heap.size, 1, none⟩ = some (.int .i64 b1) ∧ W.cell? ⟨w.heap.size, 2, none⟩ = some (.int .i64 c1) ∧ W.cell? ⟨w.heap.size, 3, none⟩ = some (.int .i64 d1) ∧ W.cell? ⟨w.heap.size, 4, none⟩ = some (.int .i64 e1) ∧ W.cell? ⟨w.heap.size, 5, none⟩ = some (.int .i64 f1) ∧ W.cell? ⟨w.heap.size, 6, none⟩ = some (.int .i64 g1))
      (exact HXS.out _ hcur)
      (first
        | (go_at_call 10; (with_reducible refine (awakeW_any _).mono ?_); rintro e Wn ⟨rfl, hbb⟩; replace hcur := nx hcur hbb; clear hbb)
        | (go_at_call 11; (with_reducible refine (vw_is a1 b1 c1 d1 e1 f1 g1 _ hv).mono ?_); rintro e Wn ⟨rfl, hbb⟩; replace hcur := nx hcur hbb; clear hbb)
        | (go_at_call 12; (with_reducible refine (refVW_is a1 b1 c1 d1 e1 f1 g1 _ hv).mono ?_); rintro e Wn ⟨rfl, hbb⟩; replace hcur := nx hcur hbb; clear hbb)
        | (go_at_call 13; (with_reducible refine (vl_is A0 n0 c0 x0 _ (HL0.out _ hcur) hn hm hr).mono ?_); rintro e Wn ⟨rfl, hbb⟩; replace hcur := nx hcur hbb; clear hbb)
        | (go_at_call 14; (with_reducible refine (refVL_is A0 n0 c0 x0 _ (HL0.out _ hcur) hn hm hr).mono ?_); rintro e Wn ⟨rfl, hbb⟩; replace hcur := nx hcur hbb; clear hbb))
    all_goals (
      go_wp2
      go_ret
      exact ⟨rfl, nx HB0.out hcur⟩)
end Go.Proofs.Ytfcekfdoafpmoaa
