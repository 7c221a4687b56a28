/- IdentValid walked. -/
import Derived.Test.YtchffamnamhcdaaDoorIb
namespace Go.Proofs.YtchffamnamhcdaaDoor
set_option linter.unusedVariables false
open Go.RowKit
abbrev w0V (w : World) (a b c t s : Int) : World := (w.alloc (.cells #[.int .i64 a, .int .i64 b, .int .i64 c] 23)).alloc (.cells #[.int .i64 t, .int .i64 s] 25)
theorem keepV {w W : World} {a b c t s : Int} (h : Below (w0V w a b c t s).heap.size (w0V w a b c t s) W) :
    Below (w0V w a b c t s).heap.size (w0V w a b c t s) W ∧ C3 W w.heap.size (.int .i64 a) (.int .i64 b) (.int .i64 c) ∧ C2 W (w.heap.size + 1) (.int .i64 t) (.int .i64 s) :=
  ⟨h, C3.of h (by simp; omega) (by simp [C3]), C2.of h (by simp) (by simp [C2])⟩
set_option maxHeartbeats 1000000 in
theorem IdentValid_walk (a0 b0 c0 : Int) (a1 b1 : Int) (w : World) (hV : Vars w) (wa0 : (Lit.int .i64 a0).wf = true) (wb0 : (Lit.int .i64 b0).wf = true) (wc0 : (Lit.int .i64 c0).wf = true) (wa1 : (Lit.int .i64 a1).wf = true) (wb1 : (Lit.int .i64 b1).wf = true) :
    Calls Tryd.prog 3 #[.agg #[.int .i64 a0, .int .i64 b0, .int .i64 c0], .agg #[.int .i64 a1, .int .i64 b1]] w fun e w' => e = .returned (.bool true) ∧ Below w.heap.size w w' := by
  obtain ⟨r, hr⟩ : ∃ r, Hid (vpB a0 b0 c0 = r) := ⟨_, rfl⟩
  obtain ⟨q, hq⟩ : ∃ q, Hid (vsB a1 b1 = q) := ⟨_, rfl⟩
  have hb0 : Below w.heap.size w (w0V w a0 b0 c0 a1 b1) := nxA (newB _ _) _
  have HV : Hid (∀ W, Below (w0V w a0 b0 c0 a1 b1).heap.size (w0V w a0 b0 c0 a1 b1) W → Vars W) := fun W hW => hV.below (nx hb0 hW)
  clear hV wa0 wb0 wc0 wa1 wb1
  go_enter Tryd.func3, Tryd.ntmps3
  go_wp2
  go_region_held3 (fun W => Below (w0V w a0 b0 c0 a1 b1).heap.size (w0V w a0 b0 c0 a1 b1) W ∧ C3 W w.heap.size (.int .i64 a0) (.int .i64 b0) (.int .i64 c0) ∧ C2 W (w.heap.size + 1) (.int .i64 a1) (.int .i64 b1))
    (first
      | exact keepV (Below.refl _ _)
      | exact keepV (Below.refl _ _).drew
      | (go_split_ands; exact keepV (nx (by assumption) hb1)))
    (first
      | (go_at_call 14; refine (awake_any _ (HV.out _ (by go_split_ands; assumption))).mono ?_; rintro e W1 ⟨rfl, hb1⟩)
      | (go_at_call 15; refine (valid_b _ _ _ _ hr).mono ?_; rintro e W1 ⟨rfl, hb1⟩)
      | (go_at_call 16; refine (refValid_b _ _ _ _ hr).mono ?_; rintro e W1 ⟨rfl, hb1⟩)
      | (go_at_call 17; refine (vstamp_b _ _ _ hq).mono ?_; rintro e W1 ⟨rfl, hb1⟩)
      | (go_at_call 18; refine (refVstamp_b _ _ _ hq).mono ?_; rintro e W1 ⟨rfl, hb1⟩))
  all_goals (go_wp2; go_ret; go_split_ands; exact ⟨by simp, nx hb0 (by assumption)⟩)
end Go.Proofs.YtchffamnamhcdaaDoor
