/- AmountCovers walked. -/
import Derived.Test.YtbddgdicnonadaaDoorAmountFitsW
namespace Go.Proofs.YtbddgdicnonadaaDoor
set_option linter.unusedVariables false
set_option linter.unusedSimpArgs false
open Go.RowKit
abbrev T3 (w : World) (s : ByteArray) (k u h m n p q : Int) : World := (T2 w s k u h m n).alloc (.cells #[.int .i64 p, .int .i64 q] 25)
theorem keep3 {w W : World} {s : ByteArray} {k u h m n p q : Int} (hW : Below (T3 w s k u h m n p q).heap.size (T3 w s k u h m n p q) W) :
    Below (T3 w s k u h m n p q).heap.size (T3 w s k u h m n p q) W ∧ S4 W w.heap.size s k u h ∧ E2 W (w.heap.size + 1) m n ∧ E2 W (w.heap.size + 1 + 1) p q :=
  ⟨hW, S4.of hW (by simp [T3, T2]; omega) ⟨by simp [T3, T2, go_sem], by simp [T3, T2, go_sem], by simp [T3, T2, go_sem], by simp [T3, T2, go_sem]⟩, E2.of hW (by simp [T3, T2]; try omega) ⟨by simp [T3, T2, go_sem], by simp [T3, T2, go_sem]⟩, E2.of hW (by simp [T3, T2]) ⟨by simp [T3, T2, go_sem], by simp [T3, T2, go_sem]⟩⟩
set_option maxHeartbeats 1000000 in
theorem AmountCovers_walk (s0 : ByteArray) (a0 b0 c0 : Int) (a1 b1 : Int) (a2 b2 : Int) (w : World) (hV : Vars w) (wa0 : (Lit.int .i64 a0).wf = true) (wb0 : (Lit.int .i64 b0).wf = true) (wc0 : (Lit.int .i64 c0).wf = true) (wa1 : (Lit.int .i64 a1).wf = true) (wb1 : (Lit.int .i64 b1).wf = true) (wa2 : (Lit.int .i64 a2).wf = true) (wb2 : (Lit.int .i64 b2).wf = true) :
    Calls Tryd.prog 4 #[.agg #[.string s0, .int .i64 a0, .int .i64 b0, .int .i64 c0], .agg #[.int .i64 a1, .int .i64 b1], .agg #[.int .i64 a2, .int .i64 b2]] w fun e w' => e = .returned (.bool true) ∧ Below w.heap.size w w' := by
  have HV : Hid (∀ W, Below (T3 w s0 a0 b0 c0 a1 b1 a2 b2).heap.size (T3 w s0 a0 b0 c0 a1 b1 a2 b2) W → Vars W) := fun W hW => hV.below (nx (new3 w _ _ _) hW)
  obtain ⟨rc, hcv⟩ : ∃ r, Hid (cvr a0 b0 a1 b1 a2 b2 = r) := ⟨_, rfl⟩
  obtain ⟨jx, hx⟩ : ∃ r, Hid (jm a0 b0 a1 b1 a2 b2 = r) := ⟨_, rfl⟩
  obtain ⟨jy, hy⟩ : ∃ r, Hid (ju a0 b0 a1 b1 a2 b2 = r) := ⟨_, rfl⟩
  have e0 : ∀ W, (binOp .eql 25 (.agg #[.int .i64 jx, .int .i64 jy]) (.agg #[.int .i64 jx, .int .i64 jy])).run Tryd.prog W = .ok (.bool true) W := fun W => by rw [eqAm]; simp
  clear hV wa0 wb0 wc0 wa1 wb1 wa2 wb2
  go_enter Tryd.func4, Tryd.ntmps4
  go_wp2
  go_region_held3 (fun W => Below (T3 w s0 a0 b0 c0 a1 b1 a2 b2).heap.size (T3 w s0 a0 b0 c0 a1 b1 a2 b2) W ∧ S4 W w.heap.size s0 a0 b0 c0 ∧ E2 W (w.heap.size + 1) a1 b1 ∧ E2 W (w.heap.size + 1 + 1) a2 b2)
    (first
      | exact keep3 (Below.refl _ _)
      | exact keep3 (bdD (Below.refl _ _))
      | (go_split_ands; exact keep3 (nx (by assumption) hb1)))
    (first
      | (go_at_call 12; go_split_ands; (with_reducible refine (awake_K ?_ HV).mono ?_); (· assumption); rintro e W1 ⟨rfl, hb1⟩)
      | (go_at_call 18; refine (amCovers_is _ _ _ _ _ _ _ _ _ hcv).mono ?_; rintro e W1 ⟨rfl, hb1⟩)
      | (go_at_call 19; refine (refAmCovers_is _ _ _ _ _ _ _ _ _ hcv).mono ?_; rintro e W1 ⟨rfl, hb1⟩)
      | (go_at_call 20; refine (join_is _ _ _ _ _ _ _ _ _ hx hy).mono ?_; rintro e W1 ⟨rfl, hb1⟩)
      | (go_at_call 21; refine (refJoin_is _ _ _ _ _ _ _ _ _ hx hy).mono ?_; rintro e W1 ⟨rfl, hb1⟩))
  all_goals (go_wp2; go_ret; go_split_ands; exact ⟨by simp, nx (new3 w _ _ _) (by assumption)⟩)
end Go.Proofs.YtbddgdicnonadaaDoor
