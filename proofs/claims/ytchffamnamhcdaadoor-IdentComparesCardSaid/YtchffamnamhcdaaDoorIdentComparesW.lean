/- IdentCompares walked. -/
import Derived.Test.YtchffamnamhcdaaDoorIb
namespace Go.Proofs.YtchffamnamhcdaaDoor
set_option linter.unusedVariables false
open Go.RowKit
abbrev w0C (w : World) (a b c x y z t s u v : Int) : World := (((w.alloc (.cells #[.int .i64 a, .int .i64 b, .int .i64 c] 23)).alloc (.cells #[.int .i64 x, .int .i64 y, .int .i64 z] 23)).alloc (.cells #[.int .i64 t, .int .i64 s] 25)).alloc (.cells #[.int .i64 u, .int .i64 v] 25)
theorem keepC {w W : World} {a b c x y z t s u v : Int} (h : Below (w0C w a b c x y z t s u v).heap.size (w0C w a b c x y z t s u v) W) :
    Below (w0C w a b c x y z t s u v).heap.size (w0C w a b c x y z t s u v) W ∧ C3 W w.heap.size (.int .i64 a) (.int .i64 b) (.int .i64 c) ∧ C3 W (w.heap.size + 1) (.int .i64 x) (.int .i64 y) (.int .i64 z) ∧ C2 W (w.heap.size + 1 + 1) (.int .i64 t) (.int .i64 s) ∧ C2 W (w.heap.size + 1 + 1 + 1) (.int .i64 u) (.int .i64 v) :=
  ⟨h, C3.of h (by simp <;> omega) ((((C3.new w _ _ _ _ rfl).up (by simp) _).up (by simp <;> omega) _).up (by simp <;> omega) _), C3.of h (by simp <;> omega) (((C3.new _ _ _ _ _ (by simp)).up (by simp) _).up (by simp) _),
    C2.of h (by simp) ((C2.new _ _ _ _ (by simp)).up (by simp) _), C2.of h (by simp) (C2.new _ _ _ _ (by simp))⟩
set_option maxHeartbeats 1000000 in
theorem IdentCompares_walk (a0 b0 c0 : Int) (a1 b1 c1 : Int) (a2 b2 : Int) (a3 b3 : Int) (w : World) (hV : Vars w) (wa0 : (Lit.int .i64 a0).wf = true) (wb0 : (Lit.int .i64 b0).wf = true) (wc0 : (Lit.int .i64 c0).wf = true) (wa1 : (Lit.int .i64 a1).wf = true) (wb1 : (Lit.int .i64 b1).wf = true) (wc1 : (Lit.int .i64 c1).wf = true) (wa2 : (Lit.int .i64 a2).wf = true) (wb2 : (Lit.int .i64 b2).wf = true) (wa3 : (Lit.int .i64 a3).wf = true) (wb3 : (Lit.int .i64 b3).wf = true) :
    Calls Tryd.prog 4 #[.agg #[.int .i64 a0, .int .i64 b0, .int .i64 c0], .agg #[.int .i64 a1, .int .i64 b1, .int .i64 c1], .agg #[.int .i64 a2, .int .i64 b2], .agg #[.int .i64 a3, .int .i64 b3]] w fun e w' => e = .returned (.bool true) ∧ Below w.heap.size w w' := by
  obtain ⟨r, hr⟩ : ∃ r, Hid (cmp3 a0 b0 c0 a1 b1 c1 = r) := ⟨_, rfl⟩
  obtain ⟨q, hq⟩ : ∃ q, Hid (cmp2 a2 b2 a3 b3 = q) := ⟨_, rfl⟩
  have hb0 : Below w.heap.size w (w0C w a0 b0 c0 a1 b1 c1 a2 b2 a3 b3) := nxA (nxA (nxA (newB _ _) _) _) _
  have HV : Hid (∀ W, Below (w0C w a0 b0 c0 a1 b1 c1 a2 b2 a3 b3).heap.size (w0C w a0 b0 c0 a1 b1 c1 a2 b2 a3 b3) W → Vars W) := fun W hW => hV.below (nx hb0 hW)
  clear hV wa0 wb0 wc0 wa1 wb1 wc1 wa2 wb2 wa3 wb3
  go_enter Tryd.func4, Tryd.ntmps4
  go_wp2
  go_region_held3 (fun W => Below (w0C w a0 b0 c0 a1 b1 c1 a2 b2 a3 b3).heap.size (w0C w a0 b0 c0 a1 b1 c1 a2 b2 a3 b3) W ∧ C3 W w.heap.size (.int .i64 a0) (.int .i64 b0) (.int .i64 c0) ∧ C3 W (w.heap.size + 1) (.int .i64 a1) (.int .i64 b1) (.int .i64 c1) ∧ C2 W (w.heap.size + 1 + 1) (.int .i64 a2) (.int .i64 b2) ∧ C2 W (w.heap.size + 1 + 1 + 1) (.int .i64 a3) (.int .i64 b3))
    (first
      | exact keepC (Below.refl _ _)
      | exact keepC (Below.refl _ _).drew
      | (go_split_ands; exact keepC (nx (by assumption) hb1)))
    (first
      | (go_at_call 14; refine (awake_any _ (HV.out _ (by go_split_ands; assumption))).mono ?_; rintro e W1 ⟨rfl, hb1⟩)
      | (go_at_call 19; refine (compareProc_is _ _ _ _ _ _ _ hr).mono ?_; rintro e W1 ⟨rfl, hb1⟩)
      | (go_at_call 20; refine (refCompareProc_is _ _ _ _ _ _ _ hr).mono ?_; rintro e W1 ⟨rfl, hb1⟩)
      | (go_at_call 21; refine (compareStamp_is _ _ _ _ _ hq).mono ?_; rintro e W1 ⟨rfl, hb1⟩)
      | (go_at_call 22; refine (refCompareStamp_is _ _ _ _ _ hq).mono ?_; rintro e W1 ⟨rfl, hb1⟩))
  all_goals (go_wp2; go_ret; go_split_ands; exact ⟨by simp, nx hb0 (by assumption)⟩)
end Go.Proofs.YtchffamnamhcdaaDoor
