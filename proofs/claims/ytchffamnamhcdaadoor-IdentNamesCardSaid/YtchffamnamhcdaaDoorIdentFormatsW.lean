/- IdentFormats walked. -/
import Derived.Test.YtchffamnamhcdaaDoorIdec
namespace Go.Proofs.YtchffamnamhcdaaDoor
set_option linter.unusedVariables false
open Go.RowKit

theorem keepR {w W : World} {T : TypeId} {a b c : Value} (h : Below (w.alloc (.cells #[a, b, c] T)).heap.size (w.alloc (.cells #[a, b, c] T)) W) :
    Below (w.alloc (.cells #[a, b, c] T)).heap.size (w.alloc (.cells #[a, b, c] T)) W ∧ C3 W w.heap.size a b c := ⟨h, box3 h⟩
set_option maxHeartbeats 400000 in
theorem refFormat_yes (a b c : Int) (w : World) (h : Hid (vpB a b c = true)) {F : ByteArray} (hF : Hid (mkB (fmtP a b c) = F)) :
    Calls Tryd.prog 25 #[.agg #[.int .i64 a, .int .i64 b, .int .i64 c]] w fun e w' => e = .returned (.string F) ∧ Below w.heap.size w w' := by
  obtain ⟨b1, b2, b3, b4, b5, b6⟩ := vpB_true h.out
  have g0 : Below w.heap.size w (w.alloc (.cells #[.int .i64 a, .int .i64 b, .int .i64 c] 23)) := newB _ _
  obtain ⟨A, hA⟩ : ∃ A, Hid (mkB (dec a.toNat) = A) := ⟨_, rfl⟩
  obtain ⟨B, hB⟩ : ∃ B, Hid (mkB (dec b.toNat) = B) := ⟨_, rfl⟩
  obtain ⟨C, hC⟩ : ∃ C, Hid (mkB (dec c.toNat) = C) := ⟨_, rfl⟩
  have sA : A.size ≤ 3 := by rw [← hA.out, mkB_size]; exact (dec_len (by omega)).2
  have sB : B.size ≤ 3 := by rw [← hB.out, mkB_size]; exact (dec_len (by omega)).2
  have sC : C.size ≤ 3 := by rw [← hC.out, mkB_size]; exact (dec_len (by omega)).2
  have n1 : ¬ 9223372036854775807 < A.size + 1 := by omega
  have n2 : ¬ 9223372036854775807 < A.size + 1 + B.size := by omega
  have n3 : ¬ 9223372036854775807 < A.size + 1 + B.size + 1 := by omega
  have n4 : ¬ 9223372036854775807 < A.size + 1 + B.size + 1 + C.size := by omega
  have HJ : Hid ((((A ++ ⟨#[46]⟩) ++ B) ++ ⟨#[46]⟩) ++ C = F) := by
    show _ = _
    rw [← hA.out, ← hB.out, ← hC.out, ← hF.out]
    exact join3 _ _ _
  clear sA sB sC
  go_enter Tryd.func25, Tryd.ntmps25
  go_wp2_with (go_at_call 16; refine (refValid_b _ _ _ _ h).mono ?_; rintro e W1 ⟨rfl, hg1⟩)
  go_region_held3 (fun W => Below (w.alloc (.cells #[.int .i64 a, .int .i64 b, .int .i64 c] 23)).heap.size (w.alloc (.cells #[.int .i64 a, .int .i64 b, .int .i64 c] 23)) W ∧ C3 W w.heap.size (.int .i64 a) (.int .i64 b) (.int .i64 c))
    (first
      | exact keepR hg1
      | exact keepR hg1.drew
      | (go_split_ands; exact keepR (nx (by assumption) hg2)))
    (first
      | (go_at_call 47; (with_reducible refine (decimal_str a _ (by omega) (by omega) hA).mono ?_); rintro e W2 ⟨rfl, hg2⟩)
      | (go_at_call 47; (with_reducible refine (decimal_str b _ (by omega) (by omega) hB).mono ?_); rintro e W2 ⟨rfl, hg2⟩)
      | (go_at_call 47; (with_reducible refine (decimal_str c _ (by omega) (by omega) hC).mono ?_); rintro e W2 ⟨rfl, hg2⟩))
  all_goals (go_wp2; go_ret; go_split_ands; exact ⟨by rw [← HJ.out]; rfl, nx g0 (by assumption)⟩)

theorem format_noS (a b c : Int) (w : World) (h : Hid (vpB a b c = false)) :
    Calls Tryd.prog 23 #[.agg #[.int .i64 a, .int .i64 b, .int .i64 c]] w fun e w' => e = .returned (.string ⟨#[]⟩) ∧ Below w.heap.size w w' := (format_no a b c w h).mono fun _ _ k => ⟨k.1, k.2.below⟩
theorem ptext_empty : ∀ a b c, ¬ PText (ByteArray.mk #[]).data.toList a b c := fun a b c h => by
  have := fmtP_len h.1
  rw [← h.2] at this
  simp at this

set_option maxHeartbeats 1000000 in
theorem IdentFormats_walk (a0 b0 c0 : Int) (w : World) (hV : Vars w) (wa0 : (Lit.int .i64 a0).wf = true) (wb0 : (Lit.int .i64 b0).wf = true) (wc0 : (Lit.int .i64 c0).wf = true) :
    Calls Tryd.prog 6 #[.agg #[.int .i64 a0, .int .i64 b0, .int .i64 c0]] w fun e w' => e = .returned (.bool true) ∧ Below w.heap.size w w' := by
  have HV := Lib.hid hV
  clear hV wa0 wb0 wc0
  cases hv : vpB a0 b0 c0
  · have hr := Lib.hid hv
    have hno := Lib.hid ptext_empty
    clear hv
    go_enter Tryd.func6, Tryd.ntmps6
    go_wp2_with (first
      | (go_at_call 23; refine (format_noS _ _ _ _ hr).mono ?_; rintro e W1 ⟨rfl, hb1⟩; have hW1 := nx (newB w _) hb1; have x1 := Lib.hid ((B3.new w _ _ _ _).below hb1); obtain ⟨i0, i1, i2, i3⟩ := x1.out)
      | (go_at_call 24; refine (parse_noT _ (by decide) _ (HV.out.below hW1) hno).mono ?_; rintro e W2 ⟨rfl, hb2⟩; have hW2 := nx hW1 hb2; have x2 := Lib.hid (x1.out.below hb2); clear i0 i1 i2 i3; obtain ⟨i0, i1, i2, i3⟩ := x2.out)
      | (go_at_call 16; refine (refValid_b _ _ _ _ hr).mono ?_; rintro e W3 ⟨rfl, hb3⟩; have hW3 := nx (nxA hW2 _) hb3; have y3 := Lib.hid ((B3.new W2 _ _ _ _).below hb3))
      | (go_at_call 14; refine (awake_any _ (HV.out.below hW3)).mono ?_; rintro e W4 ⟨rfl, hb4⟩; have hW4 := nx hW3 hb4; have y4 := Lib.hid (y3.out.below hb4); clear i0 i1 i2 i3; obtain ⟨i0, i1, i2, i3⟩ := y4.out))
    go_ret
    exact ⟨rfl, hW4⟩
  · have hr := Lib.hid hv
    obtain ⟨F, hF⟩ : ∃ F, Hid (mkB (fmtP a0 b0 c0) = F) := ⟨_, rfl⟩
    have hp : Hid (PText F.data.toList a0 b0 c0) := ⟨hv, by rw [← hF.out, mkB_data]⟩
    have hs : Hid (F.size ≤ 140737488351232) := by
      have := (fmtP_len hv).2
      show _ ≤ _
      rw [← hF.out, mkB_size]
      omega
    clear hv
    go_enter Tryd.func6, Tryd.ntmps6
    go_wp2_with (first
      | (go_at_call 23; refine (format_str _ _ _ _ hr (HV.out.below (newB _ _)).1 hF).mono ?_; rintro e W1 ⟨rfl, hb1⟩; have hW1 := nx (newB w _) hb1; have x1 := Lib.hid ((B3.new w _ _ _ _).below hb1); obtain ⟨i0, i1, i2, i3⟩ := x1.out)
      | (go_at_call 24; refine (parse_yesT _ hs.out _ (HV.out.below hW1) hp).mono ?_; rintro e W2 ⟨rfl, hb2⟩; have hW2 := nx hW1 hb2; have x2 := Lib.hid (x1.out.below hb2); clear i0 i1 i2 i3; obtain ⟨i0, i1, i2, i3⟩ := x2.out)
      | (go_at_call 16; refine (refValid_b _ _ _ _ hr).mono ?_; rintro e W3 ⟨rfl, hb3⟩; have hW3 := nx (nxA hW2 _) hb3; have x3 := Lib.hid ((x2.out.up _).below hb3); have y3 := Lib.hid ((B3.new W2 _ _ _ _).below hb3))
      | (go_at_call 14; refine (awake_any _ (HV.out.below hW3)).mono ?_; rintro e W4 ⟨rfl, hb4⟩; have hW4 := nx hW3 hb4; have x4 := Lib.hid (x3.out.below hb4); have y4 := Lib.hid (y3.out.below hb4); clear i0 i1 i2 i3; obtain ⟨i0, i1, i2, i3⟩ := x4.out)
      | (go_at_call 25; refine (refFormat_yes _ _ _ _ hr hF).mono ?_; rintro e W5 ⟨rfl, hb5⟩; have hW5 := nx hW4 hb5; have x5 := Lib.hid (x4.out.below hb5); have y5 := Lib.hid (y4.out.below hb5); clear i0 i1 i2 i3; obtain ⟨i0, i1, i2, i3⟩ := x5.out; obtain ⟨j0, j1, j2, j3⟩ := y5.out))
    go_ret
    exact ⟨rfl, hW5⟩
end Go.Proofs.YtchffamnamhcdaaDoor
