/- AmountFits walked. -/
import Derived.Test.YtbddgdicnonadaaDoorAawake
import Derived.Test.YtbddgdicnonadaaDoorAroom
namespace Go.Proofs.YtbddgdicnonadaaDoor
set_option linter.unusedVariables false
open Go.RowKit
theorem awake_K {w0 W : World} (hb : Below w0.heap.size w0 W) (HV : Hid (∀ W, Below w0.heap.size w0 W → Vars W)) :
    Calls Tryd.prog 12 #[] W fun e w' => e = .returned (.bool true) ∧ Below W.heap.size W w' := awake_any W (HV.out W hb)
set_option maxHeartbeats 1000000 in
theorem AmountFits_walk (s0 : ByteArray) (a0 b0 c0 : Int) (a1 b1 : Int) (w : World) (hV : Vars w) (wa0 : (Lit.int .i64 a0).wf = true) (wb0 : (Lit.int .i64 b0).wf = true) (wc0 : (Lit.int .i64 c0).wf = true) (wa1 : (Lit.int .i64 a1).wf = true) (wb1 : (Lit.int .i64 b1).wf = true) :
    Calls Tryd.prog 3 #[.agg #[.string s0, .int .i64 a0, .int .i64 b0, .int .i64 c0], .agg #[.int .i64 a1, .int .i64 b1]] w fun e w' => e = .returned (.bool true) ∧ Below w.heap.size w w' := by
  have HV : Hid (∀ W, Below (T2 w s0 a0 b0 c0 a1 b1).heap.size (T2 w s0 a0 b0 c0 a1 b1) W → Vars W) := fun W hW => hV.below (nx (new2 w _ _) hW)
  obtain ⟨rs, hs⟩ : ∃ r, Hid (shp a0 b0 = r) := ⟨_, rfl⟩
  obtain ⟨rf, hf⟩ : ∃ r, Hid (fit a0 b0 a1 b1 = r) := ⟨_, rfl⟩
  obtain ⟨rz, hz⟩ : ∃ r, Hid (zer a1 b1 = r) := ⟨_, rfl⟩
  have e0 : ∀ W, (binOp .eql 25 (.agg #[.int .i64 a1, .int .i64 b1]) (.agg #[.int .i64 0, .int .i64 0])).run Tryd.prog W = .ok (.bool rz) W := fun W => by rw [eqAm, ← hz.out]; rfl
  clear hV wa0 wb0 wc0 wa1 wb1
  go_enter Tryd.func3, Tryd.ntmps3
  go_wp2
  go_region_held3 (fun W => Below (T2 w s0 a0 b0 c0 a1 b1).heap.size (T2 w s0 a0 b0 c0 a1 b1) W ∧ S4 W w.heap.size s0 a0 b0 c0 ∧ E2 W (w.heap.size + 1) a1 b1)
    (first
      | exact keep2 (Below.refl _ _)
      | exact keep2 (bdD (Below.refl _ _))
      | (go_split_ands; exact keep2 (nx (by assumption) hb1)))
    (first
      | (go_at_call 12; go_split_ands; (with_reducible refine (awake_K ?_ HV).mono ?_); (· assumption); rintro e W1 ⟨rfl, hb1⟩)
      | (go_at_call 13; refine (shaped_is _ _ _ _ _ hs).mono ?_; rintro e W1 ⟨rfl, hb1⟩)
      | (go_at_call 14; refine (refShaped_is _ _ _ _ _ hs).mono ?_; rintro e W1 ⟨rfl, hb1⟩)
      | (go_at_call 15; refine (zero_is _ _ _ hz).mono ?_; rintro e W1 ⟨rfl, hb1⟩)
      | (go_at_call 16; refine (fits_is _ _ _ _ _ _ _ hf).mono ?_; rintro e W1 ⟨rfl, hb1⟩)
      | (go_at_call 17; refine (refFits_is _ _ _ _ _ _ _ hf).mono ?_; rintro e W1 ⟨rfl, hb1⟩))
  all_goals (go_wp2; go_ret; go_split_ands; exact ⟨by simp, nx (new2 w _ _) (by assumption)⟩)
end Go.Proofs.YtbddgdicnonadaaDoor
