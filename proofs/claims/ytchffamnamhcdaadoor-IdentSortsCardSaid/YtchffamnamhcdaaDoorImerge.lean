/- Contracts: Merge, by the program and by the reference. -/
import Derived.Test.YtchffamnamhcdaaDoorIsmall
namespace Go.Proofs.YtchffamnamhcdaaDoor
open Go.RowKit

theorem bcell {W w1 : World} (hb : Below W.heap.size W w1) : (∀ b o, b < W.heap.size → w1.cell? ⟨b, o, none⟩ = W.cell? ⟨b, o, none⟩) ∧ (∀ b o, b < W.heap.size → w1.frozen? ⟨b, o, none⟩ = W.frozen? ⟨b, o, none⟩) :=
  ⟨fun b o h => hb.cell (p := ⟨b, o, none⟩) h, fun b o h => hb.frozen (p := ⟨b, o, none⟩) h⟩

/-- What Merge gives. -/
def MergeV (x y e : Int) : Value := .tuple #[.agg #[.int .i64 x, .int .i64 y], .int .i64 e]

/-- Three blocks were made, then the world grew. -/
theorem three_new {w W : World} {o1 o2 o3 : Obj} (h : Gro (((w.alloc o1).alloc o2).alloc o3) W) : Below w.heap.size w W := by
  refine ((((Below.refl _ _).alloc (Nat.le_refl _) _).alloc ?_ _).alloc ?_ _).trans (h.below.mono ?_) <;> simp <;> omega
theorem merge_bad1 (t s u v : Int) (w : World) (h1 : Hid (vsB t s = false)) :
    Calls Tryd.prog 35 #[.agg #[.int .i64 t, .int .i64 s], .agg #[.int .i64 u, .int .i64 v]] w fun e w' => e = .returned (MergeV 0 0 1) ∧ Below w.heap.size w w' := by
  go_enter Tryd.func35, Tryd.ntmps35
  go_wp2_with (go_at_call 17; (with_reducible refine (vstamp_is _ _ _ h1).mono ?_); rintro e W1 ⟨rfl, hg1⟩; obtain ⟨hc1, hf1⟩ := bcell hg1.below)
  have hz := hg1.size
  simp at hz
  exact bodyPost_ret (v := MergeV 0 0 1) (by simp [MergeV, results, Tryd.results35, go_sem, hc1]) rfl ⟨rfl, ((three_new hg1).setCell (by simp; omega) _).setCell (by simp; omega) _⟩
theorem merge_bad2 (t s u v : Int) (w : World) (h1 : Hid (vsB t s = true)) (h2 : Hid (vsB u v = false)) :
    Calls Tryd.prog 35 #[.agg #[.int .i64 t, .int .i64 s], .agg #[.int .i64 u, .int .i64 v]] w fun e w' => e = .returned (MergeV 0 0 1) ∧ Below w.heap.size w w' := by
  have tok : True := trivial
  go_enter Tryd.func35, Tryd.ntmps35
  go_wp2_with (first
    | (have _t := tok; (go_at_call 17; (with_reducible refine (vstamp_is _ _ _ h1).mono ?_); rintro e W1 ⟨rfl, hg1⟩; obtain ⟨hc1, hf1⟩ := bcell hg1.below); clear tok)
    | (go_at_call 17; (with_reducible refine (vstamp_is _ _ _ h2).mono ?_); rintro e W2 ⟨rfl, hg2'⟩; have hg2 := hg1.trans hg2'; clear hc1 hf1; obtain ⟨hc2, hf2⟩ := bcell hg2.below; have hz := hg2.size; simp at hz; have hz0 : w.heap.size < W2.heap.size := (by omega); have hz1 : w.heap.size + 1 < W2.heap.size := (by omega); have hz2 : w.heap.size + 1 + 1 < W2.heap.size := (by omega)))
  exact bodyPost_ret (v := MergeV 0 0 1) (by simp [MergeV, results, Tryd.results35, go_sem, hc2]) rfl ⟨rfl, ((three_new hg2).setCell (by simp; omega) _).setCell (by simp; omega) _⟩
theorem refMerge_bad1 (t s u v : Int) (w : World) (h1 : Hid (vsB t s = false)) :
    Calls Tryd.prog 36 #[.agg #[.int .i64 t, .int .i64 s], .agg #[.int .i64 u, .int .i64 v]] w fun e w' => e = .returned (MergeV 0 0 1) ∧ Below w.heap.size w w' := by
  go_enter Tryd.func36, Tryd.ntmps36
  go_wp2_with (go_at_call 18; (with_reducible refine (refVstamp_is _ _ _ h1).mono ?_); rintro e W1 ⟨rfl, hg1⟩; obtain ⟨hc1, hf1⟩ := bcell hg1.below)
  have hz := hg1.size
  simp at hz
  exact bodyPost_ret (v := MergeV 0 0 1) (by simp [MergeV, results, Tryd.results36, go_sem, hc1]) rfl ⟨rfl, ((three_new hg1).setCell (by simp; omega) _).setCell (by simp; omega) _⟩
theorem refMerge_bad2 (t s u v : Int) (w : World) (h1 : Hid (vsB t s = true)) (h2 : Hid (vsB u v = false)) :
    Calls Tryd.prog 36 #[.agg #[.int .i64 t, .int .i64 s], .agg #[.int .i64 u, .int .i64 v]] w fun e w' => e = .returned (MergeV 0 0 1) ∧ Below w.heap.size w w' := by
  have tok : True := trivial
  go_enter Tryd.func36, Tryd.ntmps36
  go_wp2_with (first
    | (have _t := tok; (go_at_call 18; (with_reducible refine (refVstamp_is _ _ _ h1).mono ?_); rintro e W1 ⟨rfl, hg1⟩; obtain ⟨hc1, hf1⟩ := bcell hg1.below); clear tok)
    | (go_at_call 18; (with_reducible refine (refVstamp_is _ _ _ h2).mono ?_); rintro e W2 ⟨rfl, hg2'⟩; have hg2 := hg1.trans hg2'; clear hc1 hf1; obtain ⟨hc2, hf2⟩ := bcell hg2.below; have hz := hg2.size; simp at hz; have hz0 : w.heap.size < W2.heap.size := (by omega); have hz1 : w.heap.size + 1 < W2.heap.size := (by omega); have hz2 : w.heap.size + 1 + 1 < W2.heap.size := (by omega)))
  exact bodyPost_ret (v := MergeV 0 0 1) (by simp [MergeV, results, Tryd.results36, go_sem, hc2]) rfl ⟨rfl, ((three_new hg2).setCell (by simp; omega) _).setCell (by simp; omega) _⟩
theorem merge_limit (t s u v : Int) (w : World) (h1 : Hid (vsB t s = true)) (h2 : Hid (vsB u v = true)) (hm : max t u = 1073741824) :
    Calls Tryd.prog 35 #[.agg #[.int .i64 t, .int .i64 s], .agg #[.int .i64 u, .int .i64 v]] w fun e w' => e = .returned (MergeV 0 0 16) ∧ Below w.heap.size w w' := by
  obtain ⟨b1, b2, b3, b4⟩ := vsB_true h1.out
  obtain ⟨b5, b6, b7, b8⟩ := vsB_true h2.out
  have hl : (1073741824 : Int) < max t u + 1 := by omega
  have hl0 : (0 : Int) ≤ max t u := by omega
  have hl1 : max t u ≤ 1073741824 := by omega
  clear hm
  have tok : True := trivial
  go_enter Tryd.func35, Tryd.ntmps35
  go_wp2_with (first
    | (have _t := tok; (go_at_call 17; (with_reducible refine (vstamp_is _ _ _ h1).mono ?_); rintro e W1 ⟨rfl, hg1⟩; obtain ⟨hc1, hf1⟩ := bcell hg1.below); clear tok)
    | (go_at_call 17; (with_reducible refine (vstamp_is _ _ _ h2).mono ?_); rintro e W2 ⟨rfl, hg2'⟩; have hg2 := hg1.trans hg2'; clear hc1 hf1; obtain ⟨hc2, hf2⟩ := bcell hg2.below; have hz := hg2.size; simp at hz; have hz0 : w.heap.size < W2.heap.size := (by omega); have hz1 : w.heap.size + 1 < W2.heap.size := (by omega); have hz2 : w.heap.size + 1 + 1 < W2.heap.size := (by omega)))
  exact bodyPost_ret (v := MergeV 0 0 16) (by simp [MergeV, results, Tryd.results35, go_sem, hc2, hz2]) rfl ⟨rfl, (((three_new hg2).setCell (by simp; omega) _).setCell (by simp; omega) _).alloc (by simp; omega) _⟩
theorem merge_ok (t s u v : Int) (w : World) (h1 : Hid (vsB t s = true)) (h2 : Hid (vsB u v = true)) (hm : max t u < 1073741824) :
    Calls Tryd.prog 35 #[.agg #[.int .i64 t, .int .i64 s], .agg #[.int .i64 u, .int .i64 v]] w fun e w' => e = .returned (MergeV (max t u + 1) s 0) ∧ Below w.heap.size w w' := by
  obtain ⟨b1, b2, b3, b4⟩ := vsB_true h1.out
  obtain ⟨b5, b6, b7, b8⟩ := vsB_true h2.out
  have hl : ¬ (1073741824 : Int) < max t u + 1 := by omega
  have hl0 : (0 : Int) ≤ max t u := by omega
  have hl1 : max t u ≤ 1073741824 := by omega
  clear hm
  have tok : True := trivial
  go_enter Tryd.func35, Tryd.ntmps35
  go_wp2_with (first
    | (have _t := tok; (go_at_call 17; (with_reducible refine (vstamp_is _ _ _ h1).mono ?_); rintro e W1 ⟨rfl, hg1⟩; obtain ⟨hc1, hf1⟩ := bcell hg1.below); clear tok)
    | (go_at_call 17; (with_reducible refine (vstamp_is _ _ _ h2).mono ?_); rintro e W2 ⟨rfl, hg2'⟩; have hg2 := hg1.trans hg2'; clear hc1 hf1; obtain ⟨hc2, hf2⟩ := bcell hg2.below; have hz := hg2.size; simp at hz; have hz0 : w.heap.size < W2.heap.size := (by omega); have hz1 : w.heap.size + 1 < W2.heap.size := (by omega); have hz2 : w.heap.size + 1 + 1 < W2.heap.size := (by omega)))
  exact bodyPost_ret (v := MergeV (max t u + 1) s 0) (by simp [MergeV, results, Tryd.results35, go_sem, hc2, hz2]) rfl ⟨rfl, (((three_new hg2).setCell (by simp; omega) _).setCell (by simp; omega) _).alloc (by simp; omega) _⟩
theorem refMerge_lt_limit (t s u v : Int) (w : World) (h1 : Hid (vsB t s = true)) (h2 : Hid (vsB u v = true)) (hc : t < u) (hm : u = 1073741824) :
    Calls Tryd.prog 36 #[.agg #[.int .i64 t, .int .i64 s], .agg #[.int .i64 u, .int .i64 v]] w fun e w' => e = .returned (MergeV 0 0 16) ∧ Below w.heap.size w w' := by
  obtain ⟨b1, b2, b3, b4⟩ := vsB_true h1.out
  obtain ⟨b5, b6, b7, b8⟩ := vsB_true h2.out
  subst hm
  have tok : True := trivial
  go_enter Tryd.func36, Tryd.ntmps36
  go_wp2_with (first
    | (have _t := tok; (go_at_call 18; (with_reducible refine (refVstamp_is _ _ _ h1).mono ?_); rintro e W1 ⟨rfl, hg1⟩; obtain ⟨hc1, hf1⟩ := bcell hg1.below); clear tok)
    | (go_at_call 18; (with_reducible refine (refVstamp_is _ _ _ h2).mono ?_); rintro e W2 ⟨rfl, hg2'⟩; have hg2 := hg1.trans hg2'; clear hc1 hf1; obtain ⟨hc2, hf2⟩ := bcell hg2.below; have hz := hg2.size; simp at hz; have hz0 : w.heap.size < W2.heap.size := (by omega); have hz1 : w.heap.size + 1 < W2.heap.size := (by omega); have hz2 : w.heap.size + 1 + 1 < W2.heap.size := (by omega)))
  exact bodyPost_ret (v := MergeV 0 0 16) (by simp [MergeV, results, Tryd.results36, go_sem, hc2]) rfl ⟨rfl, (((three_new hg2).setCell (by simp; omega) _).setCell (by simp; omega) _)⟩
theorem refMerge_lt_ok (t s u v : Int) (w : World) (h1 : Hid (vsB t s = true)) (h2 : Hid (vsB u v = true)) (hc : t < u) (hm : u < 1073741824) :
    Calls Tryd.prog 36 #[.agg #[.int .i64 t, .int .i64 s], .agg #[.int .i64 u, .int .i64 v]] w fun e w' => e = .returned (MergeV (u + 1) s 0) ∧ Below w.heap.size w w' := by
  obtain ⟨b1, b2, b3, b4⟩ := vsB_true h1.out
  obtain ⟨b5, b6, b7, b8⟩ := vsB_true h2.out
  have hn : ¬ u = 1073741824 := by omega
  have tok : True := trivial
  go_enter Tryd.func36, Tryd.ntmps36
  go_wp2_with (first
    | (have _t := tok; (go_at_call 18; (with_reducible refine (refVstamp_is _ _ _ h1).mono ?_); rintro e W1 ⟨rfl, hg1⟩; obtain ⟨hc1, hf1⟩ := bcell hg1.below); clear tok)
    | (go_at_call 18; (with_reducible refine (refVstamp_is _ _ _ h2).mono ?_); rintro e W2 ⟨rfl, hg2'⟩; have hg2 := hg1.trans hg2'; clear hc1 hf1; obtain ⟨hc2, hf2⟩ := bcell hg2.below; have hz := hg2.size; simp at hz; have hz0 : w.heap.size < W2.heap.size := (by omega); have hz1 : w.heap.size + 1 < W2.heap.size := (by omega); have hz2 : w.heap.size + 1 + 1 < W2.heap.size := (by omega)))
  exact bodyPost_ret (v := MergeV (u + 1) s 0) (by simp [MergeV, results, Tryd.results36, go_sem, hc2]) rfl ⟨rfl, (((three_new hg2).setCell (by simp; omega) _).setCell (by simp; omega) _)⟩
theorem refMerge_ge_limit (t s u v : Int) (w : World) (h1 : Hid (vsB t s = true)) (h2 : Hid (vsB u v = true)) (hc : u ≤ t) (hm : t = 1073741824) :
    Calls Tryd.prog 36 #[.agg #[.int .i64 t, .int .i64 s], .agg #[.int .i64 u, .int .i64 v]] w fun e w' => e = .returned (MergeV 0 0 16) ∧ Below w.heap.size w w' := by
  obtain ⟨b1, b2, b3, b4⟩ := vsB_true h1.out
  obtain ⟨b5, b6, b7, b8⟩ := vsB_true h2.out
  subst hm
  have d1 : ¬ (1073741824 : Int) < u := by omega
  have tok : True := trivial
  go_enter Tryd.func36, Tryd.ntmps36
  go_wp2_with (first
    | (have _t := tok; (go_at_call 18; (with_reducible refine (refVstamp_is _ _ _ h1).mono ?_); rintro e W1 ⟨rfl, hg1⟩; obtain ⟨hc1, hf1⟩ := bcell hg1.below); clear tok)
    | (go_at_call 18; (with_reducible refine (refVstamp_is _ _ _ h2).mono ?_); rintro e W2 ⟨rfl, hg2'⟩; have hg2 := hg1.trans hg2'; clear hc1 hf1; obtain ⟨hc2, hf2⟩ := bcell hg2.below; have hz := hg2.size; simp at hz; have hz0 : w.heap.size < W2.heap.size := (by omega); have hz1 : w.heap.size + 1 < W2.heap.size := (by omega); have hz2 : w.heap.size + 1 + 1 < W2.heap.size := (by omega)))
  exact bodyPost_ret (v := MergeV 0 0 16) (by simp [MergeV, results, Tryd.results36, go_sem, hc2]) rfl ⟨rfl, (((three_new hg2).setCell (by simp; omega) _).setCell (by simp; omega) _)⟩
theorem refMerge_ge_ok (t s u v : Int) (w : World) (h1 : Hid (vsB t s = true)) (h2 : Hid (vsB u v = true)) (hc : u ≤ t) (hm : t < 1073741824) :
    Calls Tryd.prog 36 #[.agg #[.int .i64 t, .int .i64 s], .agg #[.int .i64 u, .int .i64 v]] w fun e w' => e = .returned (MergeV (t + 1) s 0) ∧ Below w.heap.size w w' := by
  obtain ⟨b1, b2, b3, b4⟩ := vsB_true h1.out
  obtain ⟨b5, b6, b7, b8⟩ := vsB_true h2.out
  have hn : ¬ t = 1073741824 := by omega
  have d1 : ¬ t < u := by omega
  have tok : True := trivial
  go_enter Tryd.func36, Tryd.ntmps36
  go_wp2_with (first
    | (have _t := tok; (go_at_call 18; (with_reducible refine (refVstamp_is _ _ _ h1).mono ?_); rintro e W1 ⟨rfl, hg1⟩; obtain ⟨hc1, hf1⟩ := bcell hg1.below); clear tok)
    | (go_at_call 18; (with_reducible refine (refVstamp_is _ _ _ h2).mono ?_); rintro e W2 ⟨rfl, hg2'⟩; have hg2 := hg1.trans hg2'; clear hc1 hf1; obtain ⟨hc2, hf2⟩ := bcell hg2.below; have hz := hg2.size; simp at hz; have hz0 : w.heap.size < W2.heap.size := (by omega); have hz1 : w.heap.size + 1 < W2.heap.size := (by omega); have hz2 : w.heap.size + 1 + 1 < W2.heap.size := (by omega)))
  exact bodyPost_ret (v := MergeV (t + 1) s 0) (by simp [MergeV, results, Tryd.results36, go_sem, hc2]) rfl ⟨rfl, (((three_new hg2).setCell (by simp; omega) _).setCell (by simp; omega) _)⟩
theorem refMerge_limit (t s u v : Int) (w : World) (h1 : Hid (vsB t s = true)) (h2 : Hid (vsB u v = true)) (hm : max t u = 1073741824) :
    Calls Tryd.prog 36 #[.agg #[.int .i64 t, .int .i64 s], .agg #[.int .i64 u, .int .i64 v]] w fun e w' => e = .returned (MergeV 0 0 16) ∧ Below w.heap.size w w' := by
  by_cases hc : t < u
  · exact refMerge_lt_limit t s u v w h1 h2 hc (by omega)
  · exact refMerge_ge_limit t s u v w h1 h2 (by omega) (by omega)
theorem refMerge_ok (t s u v : Int) (w : World) (h1 : Hid (vsB t s = true)) (h2 : Hid (vsB u v = true)) (hm : max t u < 1073741824) :
    Calls Tryd.prog 36 #[.agg #[.int .i64 t, .int .i64 s], .agg #[.int .i64 u, .int .i64 v]] w fun e w' => e = .returned (MergeV (max t u + 1) s 0) ∧ Below w.heap.size w w' := by
  by_cases hc : t < u
  · rw [show max t u = u by omega]
    exact refMerge_lt_ok t s u v w h1 h2 hc (by omega)
  · rw [show max t u = t by omega]
    exact refMerge_ge_ok t s u v w h1 h2 (by omega) (by omega)
end Go.Proofs.YtchffamnamhcdaaDoor
