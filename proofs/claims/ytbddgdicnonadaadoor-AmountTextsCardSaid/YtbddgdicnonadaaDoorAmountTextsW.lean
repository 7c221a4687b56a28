/- AmountTexts walked. -/
import Derived.Test.YtbddgdicnonadaaDoorAmountFitsW
namespace Go.Proofs.YtbddgdicnonadaaDoor
set_option linter.unusedVariables false
set_option linter.unusedSimpArgs false
open Go.RowKit
abbrev T1 (w : World) (m n : Int) : World := w.alloc (.cells #[.int .i64 m, .int .i64 n] 25)
theorem keep1 {w W : World} {m n : Int} (hW : Below (T1 w m n).heap.size (T1 w m n) W) : Below (T1 w m n).heap.size (T1 w m n) W ∧ E2 W w.heap.size m n :=
  ⟨hW, E2.of hW (by simp [T1]) ⟨by simp [T1], by simp [T1]⟩⟩
set_option maxHeartbeats 1000000 in
theorem AmountTexts_walk (a0 b0 : Int) (w : World) (hV : Vars w) (wa0 : (Lit.int .i64 a0).wf = true) (wb0 : (Lit.int .i64 b0).wf = true) :
    Calls Tryd.prog 10 #[.agg #[.int .i64 a0, .int .i64 b0]] w fun e w' => e = .returned (.bool true) ∧ Below w.heap.size w w' := by
  have HV : Hid (∀ W, Below (T1 w a0 b0).heap.size (T1 w a0 b0) W → Vars W) := fun W hW => hV.below (nx (newB w _) hW)
  obtain ⟨r, hr⟩ : ∃ r, Hid (fmA a0 b0 = r) := ⟨_, rfl⟩
  clear hV wa0 wb0
  go_enter Tryd.func10, Tryd.ntmps10
  go_wp2
  go_region_held3 (fun W => Below (T1 w a0 b0).heap.size (T1 w a0 b0) W ∧ E2 W w.heap.size a0 b0)
    (first
      | exact keep1 (Below.refl _ _)
      | exact keep1 (bdD (Below.refl _ _))
      | (go_split_ands; exact keep1 (nx (by assumption) hb1)))
    (first
      | (go_at_call 12; go_split_ands; (with_reducible refine (awake_K ?_ HV).mono ?_); (· assumption); rintro e W1 ⟨rfl, hb1⟩)
      | (go_at_call 27; go_split_ands; (with_reducible refine (formatA_is _ _ _ (HV.out _ ?_) hr).mono ?_); (· assumption); rintro e W1 ⟨rfl, hb1⟩)
      | (go_at_call 28; go_split_ands; (with_reducible refine (refFormatA_is _ _ _ (HV.out _ ?_) hr).mono ?_); (· assumption); rintro e W1 ⟨rfl, hb1⟩))
  all_goals (go_wp2; go_ret; go_split_ands; exact ⟨by simp, nx (newB w _) (by assumption)⟩)
end Go.Proofs.YtbddgdicnonadaaDoor
