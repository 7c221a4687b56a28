/- IdentMerges walked. -/
import Derived.Test.YtchffamnamhcdaaDoorIb
namespace Go.Proofs.YtchffamnamhcdaaDoor
set_option linter.unusedVariables false
open Go.RowKit
/-- What Merge gives, as a relation. -/
def MergeIs (t s u v x y e : Int) : Prop :=
  ((vsB t s = false ∨ vsB u v = false) ∧ x = 0 ∧ y = 0 ∧ e = 1) ∨ (vsB t s = true ∧ vsB u v = true ∧ max t u = 1073741824 ∧ x = 0 ∧ y = 0 ∧ e = 16) ∨ (vsB t s = true ∧ vsB u v = true ∧ max t u < 1073741824 ∧ x = max t u + 1 ∧ y = s ∧ e = 0)
theorem merge_rel (t s u v x y e : Int) (w : World) (h : Hid (MergeIs t s u v x y e)) :
    Calls Tryd.prog 35 #[.agg #[.int .i64 t, .int .i64 s], .agg #[.int .i64 u, .int .i64 v]] w fun f w' => f = .returned (.tuple #[.agg #[.int .i64 x, .int .i64 y], .int .i64 e]) ∧ Below w.heap.size w w' := by
  rcases h.out with ⟨h1, rfl, rfl, rfl⟩ | ⟨h1, h2, h3, rfl, rfl, rfl⟩ | ⟨h1, h2, h3, rfl, hy, rfl⟩
  · cases h2 : vsB t s
    · exact merge_bad1 t s u v w h2
    · exact merge_bad2 t s u v w h2 (by rcases h1 with h1 | h1; · rw [h2] at h1; cases h1
                                        · exact h1)
  · exact merge_limit t s u v w h1 h2 h3
  · rw [hy]; exact merge_ok t s u v w h1 h2 h3
theorem refMerge_rel (t s u v x y e : Int) (w : World) (h : Hid (MergeIs t s u v x y e)) :
    Calls Tryd.prog 36 #[.agg #[.int .i64 t, .int .i64 s], .agg #[.int .i64 u, .int .i64 v]] w fun f w' => f = .returned (.tuple #[.agg #[.int .i64 x, .int .i64 y], .int .i64 e]) ∧ Below w.heap.size w w' := by
  rcases h.out with ⟨h1, rfl, rfl, rfl⟩ | ⟨h1, h2, h3, rfl, rfl, rfl⟩ | ⟨h1, h2, h3, rfl, hy, rfl⟩
  · cases h2 : vsB t s
    · exact refMerge_bad1 t s u v w h2
    · exact refMerge_bad2 t s u v w h2 (by rcases h1 with h1 | h1; · rw [h2] at h1; cases h1
                                           · exact h1)
  · exact refMerge_limit t s u v w h1 h2 h3
  · rw [hy]; exact refMerge_ok t s u v w h1 h2 h3
theorem cmp2_gt {x y t s : Int} (h : t < x) : cmp2 x y t s = 1 := by
  have e : ord x t = 1 := by unfold ord; rw [if_neg (by omega), if_pos h]
  unfold cmp2
  rw [e]
  rfl
theorem merge_cases (t s u v : Int) : ∃ x y e, MergeIs t s u v x y e ∧ (e = 1 ∨ e = 16 ∨ (e = 0 ∧ cmp2 x y t s = 1 ∧ cmp2 x y u v = 1)) := by
  by_cases h : vsB t s = true ∧ vsB u v = true
  · obtain ⟨h1, h2⟩ := h
    have b1 := vsB_true h1
    have b2 := vsB_true h2
    by_cases hm : max t u < 1073741824
    · exact ⟨_, _, _, .inr (.inr ⟨h1, h2, hm, rfl, rfl, rfl⟩), .inr (.inr ⟨rfl, cmp2_gt (by omega), cmp2_gt (by omega)⟩)⟩
    · exact ⟨_, _, _, .inr (.inl ⟨h1, h2, by omega, rfl, rfl, rfl⟩), .inr (.inl rfl)⟩
  · exact ⟨_, _, _, .inl ⟨by cases h1 : vsB t s <;> cases h2 : vsB u v <;> simp_all, rfl, rfl, rfl⟩, .inl rfl⟩
set_option maxHeartbeats 2000000 in
theorem IdentMerges_walk (a0 b0 : Int) (a1 b1 : Int) (w : World) (hV : Vars w) (wa0 : (Lit.int .i64 a0).wf = true) (wb0 : (Lit.int .i64 b0).wf = true) (wa1 : (Lit.int .i64 a1).wf = true) (wb1 : (Lit.int .i64 b1).wf = true) :
    Calls Tryd.prog 11 #[.agg #[.int .i64 a0, .int .i64 b0], .agg #[.int .i64 a1, .int .i64 b1]] w fun e w' => e = .returned (.bool true) ∧ Below w.heap.size w w' := by
  obtain ⟨x, y, e, hm, hc⟩ := merge_cases a0 b0 a1 b1
  have hm' := Lib.hid hm
  have HV := Lib.hid hV
  clear hm hV wa0 wb0 wa1 wb1
  rcases hc with rfl | rfl | ⟨rfl, k1, k2⟩
  · go_enter Tryd.func11, Tryd.ntmps11
    go_wp2_with (first
      | (go_at_call 35; refine (merge_rel _ _ _ _ _ _ _ _ hm').mono ?_; rintro e W1 ⟨rfl, hb1⟩; have hW1 := nx (nxA (newB w _) _) hb1; have x1 := Lib.hid (((B2.at_ w _ _ _ rfl).up _).below hb1); have y1 := Lib.hid ((B2.at_ _ _ _ _ (by simp)).below hb1 (k := w.heap.size + 1)); obtain ⟨i0, i1, i2⟩ := x1.out; obtain ⟨j0, j1, j2⟩ := y1.out)
      | (go_at_call 36; refine (refMerge_rel _ _ _ _ _ _ _ _ hm').mono ?_; rintro e W2 ⟨rfl, hb2⟩; have hW2 := nx (nxA hW1 _) hb2; have x2 := Lib.hid ((x1.out.up _).below hb2); have y2 := Lib.hid ((y1.out.up _).below hb2); have z2 := Lib.hid ((B2.at_ W1 _ _ _ rfl).below hb2); clear i0 i1 i2 j0 j1 j2; obtain ⟨i0, i1, i2⟩ := x2.out; obtain ⟨j0, j1, j2⟩ := y2.out; obtain ⟨l0, l1, l2⟩ := z2.out)
      | (go_at_call 14; refine (awake_any _ (HV.out.below (nxA hW2 _))).mono ?_; rintro e W3 ⟨rfl, hb3⟩; have hW3 := nx (nxA hW2 _) hb3; have x3 := Lib.hid ((x2.out.up _).below hb3); have y3 := Lib.hid ((y2.out.up _).below hb3); have z3 := Lib.hid ((z2.out.up _).below hb3); have v3 := Lib.hid ((B2.at_ W2 _ _ _ rfl).below hb3); clear i0 i1 i2 j0 j1 j2 l0 l1 l2; obtain ⟨i0, i1, i2⟩ := x3.out; obtain ⟨j0, j1, j2⟩ := y3.out; obtain ⟨l0, l1, l2⟩ := z3.out; obtain ⟨n0, n1, n2⟩ := v3.out))
    go_ret
    exact ⟨rfl, hW3⟩
  · go_enter Tryd.func11, Tryd.ntmps11
    go_wp2_with (first
      | (go_at_call 35; refine (merge_rel _ _ _ _ _ _ _ _ hm').mono ?_; rintro e W1 ⟨rfl, hb1⟩; have hW1 := nx (nxA (newB w _) _) hb1; have x1 := Lib.hid (((B2.at_ w _ _ _ rfl).up _).below hb1); have y1 := Lib.hid ((B2.at_ _ _ _ _ (by simp)).below hb1 (k := w.heap.size + 1)); obtain ⟨i0, i1, i2⟩ := x1.out; obtain ⟨j0, j1, j2⟩ := y1.out)
      | (go_at_call 36; refine (refMerge_rel _ _ _ _ _ _ _ _ hm').mono ?_; rintro e W2 ⟨rfl, hb2⟩; have hW2 := nx (nxA hW1 _) hb2; have x2 := Lib.hid ((x1.out.up _).below hb2); have y2 := Lib.hid ((y1.out.up _).below hb2); have z2 := Lib.hid ((B2.at_ W1 _ _ _ rfl).below hb2); clear i0 i1 i2 j0 j1 j2; obtain ⟨i0, i1, i2⟩ := x2.out; obtain ⟨j0, j1, j2⟩ := y2.out; obtain ⟨l0, l1, l2⟩ := z2.out)
      | (go_at_call 14; refine (awake_any _ (HV.out.below (nxA hW2 _))).mono ?_; rintro e W3 ⟨rfl, hb3⟩; have hW3 := nx (nxA hW2 _) hb3; have x3 := Lib.hid ((x2.out.up _).below hb3); have y3 := Lib.hid ((y2.out.up _).below hb3); have z3 := Lib.hid ((z2.out.up _).below hb3); have v3 := Lib.hid ((B2.at_ W2 _ _ _ rfl).below hb3); clear i0 i1 i2 j0 j1 j2 l0 l1 l2; obtain ⟨i0, i1, i2⟩ := x3.out; obtain ⟨j0, j1, j2⟩ := y3.out; obtain ⟨l0, l1, l2⟩ := z3.out; obtain ⟨n0, n1, n2⟩ := v3.out))
    go_ret
    exact ⟨rfl, hW3⟩
  · have K1 := Lib.hid k1
    have K2 := Lib.hid k2
    clear k1 k2
    have tok : True := trivial
    go_enter Tryd.func11, Tryd.ntmps11
    go_wp2_with (first
      | (go_at_call 35; refine (merge_rel _ _ _ _ _ _ _ _ hm').mono ?_; rintro e W1 ⟨rfl, hb1⟩; have hW1 := nx (nxA (newB w _) _) hb1; have x1 := Lib.hid (((B2.at_ w _ _ _ rfl).up _).below hb1); have y1 := Lib.hid ((B2.at_ _ _ _ _ (by simp)).below hb1 (k := w.heap.size + 1)); obtain ⟨i0, i1, i2⟩ := x1.out; obtain ⟨j0, j1, j2⟩ := y1.out)
      | (go_at_call 36; refine (refMerge_rel _ _ _ _ _ _ _ _ hm').mono ?_; rintro e W2 ⟨rfl, hb2⟩; have hW2 := nx (nxA hW1 _) hb2; have x2 := Lib.hid ((x1.out.up _).below hb2); have y2 := Lib.hid ((y1.out.up _).below hb2); have z2 := Lib.hid ((B2.at_ W1 _ _ _ rfl).below hb2); clear i0 i1 i2 j0 j1 j2; obtain ⟨i0, i1, i2⟩ := x2.out; obtain ⟨j0, j1, j2⟩ := y2.out; obtain ⟨l0, l1, l2⟩ := z2.out)
      | (go_at_call 14; refine (awake_any _ (HV.out.below (nxA hW2 _))).mono ?_; rintro e W3 ⟨rfl, hb3⟩; have hW3 := nx (nxA hW2 _) hb3; have x3 := Lib.hid ((x2.out.up _).below hb3); have y3 := Lib.hid ((y2.out.up _).below hb3); have z3 := Lib.hid ((z2.out.up _).below hb3); have v3 := Lib.hid ((B2.at_ W2 _ _ _ rfl).below hb3); clear i0 i1 i2 j0 j1 j2 l0 l1 l2; obtain ⟨i0, i1, i2⟩ := x3.out; obtain ⟨j0, j1, j2⟩ := y3.out; obtain ⟨l0, l1, l2⟩ := z3.out; obtain ⟨n0, n1, n2⟩ := v3.out)
      | (have _t := tok; go_at_call 21; (with_reducible refine (compareStamp_is _ _ _ _ _ K1).mono ?_); rintro e W4 ⟨rfl, hb4⟩; have y4 := Lib.hid (y3.out.below hb4); have z4 := Lib.hid (z3.out.below hb4); clear tok i0 i1 i2 j0 j1 j2 l0 l1 l2 n0 n1 n2; obtain ⟨j0, j1, j2⟩ := y4.out; obtain ⟨l0, l1, l2⟩ := z4.out)
      | (go_at_call 21; (with_reducible refine (compareStamp_is _ _ _ _ _ K2).mono ?_); rintro e W5 ⟨rfl, hb5⟩))
    go_ret
    exact ⟨rfl, nx (nx hW3 hb4) hb5⟩
end Go.Proofs.YtchffamnamhcdaaDoor
