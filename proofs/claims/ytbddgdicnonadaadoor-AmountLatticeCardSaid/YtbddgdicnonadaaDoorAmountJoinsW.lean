/- AmountJoins walked. -/
import Derived.Test.YtbddgdicnonadaaDoorAmountCoversW
import Derived.Test.YtbddgdicnonadaaDoorAlat
namespace Go.Proofs.YtbddgdicnonadaaDoor
set_option linter.unusedVariables false
set_option linter.unusedSimpArgs false
open Go.RowKit
abbrev T5 (w : World) (s : ByteArray) (k u h m n p q y z : Int) : World := (T3 w s k u h m n p q).alloc (.cells #[.int .i64 y, .int .i64 z] 25)
theorem keep5 {w W : World} {s : ByteArray} {k u h m n p q y z : Int} (hW : Below (T5 w s k u h m n p q y z).heap.size (T5 w s k u h m n p q y z) W) :
    Below (T5 w s k u h m n p q y z).heap.size (T5 w s k u h m n p q y z) W ∧ S4 W w.heap.size s k u h ∧ E2 W (w.heap.size + 1) m n ∧ E2 W (w.heap.size + 1 + 1) p q ∧ E2 W (w.heap.size + 1 + 1 + 1) y z :=
  ⟨hW, S4.of hW (by simp [T5, T3, T2]; omega) ⟨by simp [T5, T3, T2, go_sem], by simp [T5, T3, T2, go_sem], by simp [T5, T3, T2, go_sem], by simp [T5, T3, T2, go_sem]⟩, E2.of hW (by simp [T5, T3, T2]; try omega) ⟨by simp [T5, T3, T2, go_sem], by simp [T5, T3, T2, go_sem]⟩, E2.of hW (by simp [T5, T3, T2]; try omega) ⟨by simp [T5, T3, T2, go_sem], by simp [T5, T3, T2, go_sem]⟩, E2.of hW (by simp [T5, T3, T2]) ⟨by simp [T5, T3, T2, go_sem], by simp [T5, T3, T2, go_sem]⟩⟩
set_option maxHeartbeats 2000000 in
theorem AmountJoins_walk (s0 : ByteArray) (a0 b0 c0 : Int) (a1 b1 : Int) (a2 b2 : Int) (a3 b3 : Int) (w : World) (hV : Vars w) (wa0 : (Lit.int .i64 a0).wf = true) (wb0 : (Lit.int .i64 b0).wf = true) (wc0 : (Lit.int .i64 c0).wf = true) (wa1 : (Lit.int .i64 a1).wf = true) (wb1 : (Lit.int .i64 b1).wf = true) (wa2 : (Lit.int .i64 a2).wf = true) (wb2 : (Lit.int .i64 b2).wf = true) (wa3 : (Lit.int .i64 a3).wf = true) (wb3 : (Lit.int .i64 b3).wf = true) :
    Calls Tryd.prog 11 #[.agg #[.string s0, .int .i64 a0, .int .i64 b0, .int .i64 c0], .agg #[.int .i64 a1, .int .i64 b1], .agg #[.int .i64 a2, .int .i64 b2], .agg #[.int .i64 a3, .int .i64 b3]] w fun e w' => e = .returned (.bool true) ∧ Below w.heap.size w w' := by
  have HV : Hid (∀ W, Below (T5 w s0 a0 b0 c0 a1 b1 a2 b2 a3 b3).heap.size (T5 w s0 a0 b0 c0 a1 b1 a2 b2 a3 b3) W → Vars W) := fun W hW => hV.below (nx (new4 w _ _ _ _) hW)
  clear hV wa0 wb0 wc0 wa1 wb1 wa2 wb2 wa3 wb3
  cases h1 : per a0 b0 a1 b1 with
  | false =>
    have h1 := Lib.hid h1
    go_enter Tryd.func11, Tryd.ntmps11
    go_wp2_with (first
      | (go_at_call 22; (with_reducible refine (refPermitted_is _ _ _ _ _ _ _ h1).mono ?_); rintro e W1 ⟨rfl, hb1⟩; obtain ⟨hc1, hf1⟩ := bcell hb1)
      | (go_at_call 12; refine (awake_K hb1 HV).mono ?_; rintro e W9 ⟨rfl, hb9⟩))
    go_ret
    exact ⟨rfl, dn4 (nx hb1 hb9)⟩
  | true =>
    cases h2 : per a0 b0 a2 b2 with
    | false =>
      have h1 := Lib.hid h1
      have h2 := Lib.hid h2
      go_enter Tryd.func11, Tryd.ntmps11
      go_wp2_with (first
        | (have _g := hb1; clear _g; go_at_call 22; (with_reducible refine (refPermitted_is _ _ _ _ _ _ _ h2).mono ?_); rintro e W2 ⟨rfl, hb2⟩; have hb2 := nx hb1 hb2; obtain ⟨hc2, hf2⟩ := bcell hb2)
        | (go_at_call 22; (with_reducible refine (refPermitted_is _ _ _ _ _ _ _ h1).mono ?_); rintro e W1 ⟨rfl, hb1⟩; obtain ⟨hc1, hf1⟩ := bcell hb1)
        | (go_at_call 12; refine (awake_K hb2 HV).mono ?_; rintro e W9 ⟨rfl, hb9⟩))
      go_ret
      exact ⟨rfl, dn4 (nx hb2 hb9)⟩
    | true =>
      cases h3 : per a0 b0 a3 b3 with
      | false =>
        have h1 := Lib.hid h1
        have h2 := Lib.hid h2
        have h3 := Lib.hid h3
        go_enter Tryd.func11, Tryd.ntmps11
        go_wp2_with (first
          | (have _g := hb2; clear _g; go_at_call 22; (with_reducible refine (refPermitted_is _ _ _ _ _ _ _ h3).mono ?_); rintro e W3 ⟨rfl, hb3⟩; have hb3 := nx hb2 hb3; obtain ⟨hc3, hf3⟩ := bcell hb3)
          | (have _g := hb1; clear _g; go_at_call 22; (with_reducible refine (refPermitted_is _ _ _ _ _ _ _ h2).mono ?_); rintro e W2 ⟨rfl, hb2⟩; have hb2 := nx hb1 hb2; obtain ⟨hc2, hf2⟩ := bcell hb2)
          | (go_at_call 22; (with_reducible refine (refPermitted_is _ _ _ _ _ _ _ h1).mono ?_); rintro e W1 ⟨rfl, hb1⟩; obtain ⟨hc1, hf1⟩ := bcell hb1)
          | (go_at_call 12; refine (awake_K hb3 HV).mono ?_; rintro e W9 ⟨rfl, hb9⟩))
        go_ret
        exact ⟨rfl, dn4 (nx hb3 hb9)⟩
      | true =>
        obtain ⟨x1, hx1⟩ : ∃ r, Hid (jm a0 b0 a1 b1 a2 b2 = r) := ⟨_, rfl⟩
        obtain ⟨y1, hy1⟩ : ∃ r, Hid (ju a0 b0 a1 b1 a2 b2 = r) := ⟨_, rfl⟩
        obtain ⟨x3, hx3⟩ : ∃ r, Hid (jm a0 b0 a2 b2 a3 b3 = r) := ⟨_, rfl⟩
        obtain ⟨y3, hy3⟩ : ∃ r, Hid (ju a0 b0 a2 b2 a3 b3 = r) := ⟨_, rfl⟩
        obtain ⟨x2, hx2⟩ : ∃ r, Hid (jm a0 b0 x1 y1 a3 b3 = r) := ⟨_, rfl⟩
        obtain ⟨y2, hy2⟩ : ∃ r, Hid (ju a0 b0 x1 y1 a3 b3 = r) := ⟨_, rfl⟩
        have hx4 : Hid (jm a0 b0 a2 b2 a1 b1 = x1) := by show _ = _; rw [← (j_comm h1 h2).1]; exact hx1.out
        have hy4 : Hid (ju a0 b0 a2 b2 a1 b1 = y1) := by show _ = _; rw [← (j_comm h1 h2).2]; exact hy1.out
        have hx5 : Hid (jm a0 b0 a1 b1 a1 b1 = a1) := (j_self h1).1
        have hy5 : Hid (ju a0 b0 a1 b1 a1 b1 = b1) := (j_self h1).2
        have hx6 : Hid (jm a0 b0 a1 b1 x3 y3 = x2) := by show _ = _; rw [← hx2.out, ← hx1.out, ← hy1.out, ← hx3.out, ← hy3.out]; exact ((j_assoc h1 h2 h3).1).symm
        have hy6 : Hid (ju a0 b0 a1 b1 x3 y3 = y2) := by show _ = _; rw [← hy2.out, ← hx1.out, ← hy1.out, ← hx3.out, ← hy3.out]; exact ((j_assoc h1 h2 h3).2).symm
        have e1 : ∀ W, (binOp .eql 25 (.agg #[.int .i64 x1, .int .i64 y1]) (.agg #[.int .i64 x1, .int .i64 y1])).run Tryd.prog W = .ok (.bool true) W := fun W => by rw [eqAm]; simp
        have e2 : ∀ W, (binOp .eql 25 (.agg #[.int .i64 a1, .int .i64 b1]) (.agg #[.int .i64 a1, .int .i64 b1])).run Tryd.prog W = .ok (.bool true) W := fun W => by rw [eqAm]; simp
        have e3 : ∀ W, (binOp .eql 25 (.agg #[.int .i64 x2, .int .i64 y2]) (.agg #[.int .i64 x2, .int .i64 y2])).run Tryd.prog W = .ok (.bool true) W := fun W => by rw [eqAm]; simp
        have h1 := Lib.hid h1
        have h2 := Lib.hid h2
        have h3 := Lib.hid h3
        go_enter Tryd.func11, Tryd.ntmps11
        go_wp2_with (first
          | (have _g := hb2; clear _g; go_at_call 22; (with_reducible refine (refPermitted_is _ _ _ _ _ _ _ h3).mono ?_); rintro e W3 ⟨rfl, hb3⟩; have hb3 := nx hb2 hb3; obtain ⟨hc3, hf3⟩ := bcell hb3)
          | (have _g := hb1; clear _g; go_at_call 22; (with_reducible refine (refPermitted_is _ _ _ _ _ _ _ h2).mono ?_); rintro e W2 ⟨rfl, hb2⟩; have hb2 := nx hb1 hb2; obtain ⟨hc2, hf2⟩ := bcell hb2)
          | (go_at_call 22; (with_reducible refine (refPermitted_is _ _ _ _ _ _ _ h1).mono ?_); rintro e W1 ⟨rfl, hb1⟩; obtain ⟨hc1, hf1⟩ := bcell hb1))
        clear hc1 hf1 hc2 hf2 hc3 hf3
        go_region_held3 (fun W => Below (T5 w s0 a0 b0 c0 a1 b1 a2 b2 a3 b3).heap.size (T5 w s0 a0 b0 c0 a1 b1 a2 b2 a3 b3) W ∧ S4 W w.heap.size s0 a0 b0 c0 ∧ E2 W (w.heap.size + 1) a1 b1 ∧ E2 W (w.heap.size + 1 + 1) a2 b2 ∧ E2 W (w.heap.size + 1 + 1 + 1) a3 b3)
          (first
            | exact keep5 hb3
            | exact keep5 (bdD hb3)
            | (go_split_ands; exact keep5 (nx (by assumption) hb4)))
          (first
            | (go_at_call 12; go_split_ands; (with_reducible refine (awake_K ?_ HV).mono ?_); (· assumption); rintro e W4 ⟨rfl, hb4⟩)
            | (go_at_call 20; (with_reducible refine (join_is s0 a0 b0 c0 a1 b1 a2 b2 _ hx1 hy1).mono ?_); rintro e W4 ⟨rfl, hb4⟩)
            | (go_at_call 20; (with_reducible refine (join_is s0 a0 b0 c0 a2 b2 a1 b1 _ hx4 hy4).mono ?_); rintro e W4 ⟨rfl, hb4⟩)
            | (go_at_call 20; (with_reducible refine (join_is s0 a0 b0 c0 a1 b1 a1 b1 _ hx5 hy5).mono ?_); rintro e W4 ⟨rfl, hb4⟩)
            | (go_at_call 20; (with_reducible refine (join_is s0 a0 b0 c0 x1 y1 a3 b3 _ hx2 hy2).mono ?_); rintro e W4 ⟨rfl, hb4⟩)
            | (go_at_call 20; (with_reducible refine (join_is s0 a0 b0 c0 a2 b2 a3 b3 _ hx3 hy3).mono ?_); rintro e W4 ⟨rfl, hb4⟩)
            | (go_at_call 20; (with_reducible refine (join_is s0 a0 b0 c0 a1 b1 x3 y3 _ hx6 hy6).mono ?_); rintro e W4 ⟨rfl, hb4⟩))
        all_goals (go_wp2; go_ret; go_split_ands; exact ⟨by simp, nx (new4 w _ _ _ _) (by assumption)⟩)
end Go.Proofs.YtbddgdicnonadaaDoor
