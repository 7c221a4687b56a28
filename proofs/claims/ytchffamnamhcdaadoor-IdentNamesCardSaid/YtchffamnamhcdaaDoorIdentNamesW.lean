/- IdentNames walked. -/
import Derived.Test.YtchffamnamhcdaaDoorIdentFormatsW
import Derived.Deep.DeepCutAuto
namespace Go.Proofs.YtchffamnamhcdaaDoor
set_option linter.unusedVariables false
open Go.RowKit

theorem format_case (a b c : Int) (w : World) (hT : Tab w) {A : ByteArray} (h : Hid ((vpB a b c = true ∧ mkB (fmtP a b c) = A) ∨ (vpB a b c = false ∧ A = ⟨#[]⟩))) :
    Calls Tryd.prog 23 #[.agg #[.int .i64 a, .int .i64 b, .int .i64 c]] w fun e w' => e = .returned (.string A) ∧ Below w.heap.size w w' := format_is a b c w hT h
theorem format_caseK {a b c : Int} {w0 W : World} (hb : Below w0.heap.size w0 W) (HV : Hid (∀ W, Below w0.heap.size w0 W → Vars W)) {A : ByteArray} (h : Hid ((vpB a b c = true ∧ mkB (fmtP a b c) = A) ∨ (vpB a b c = false ∧ A = ⟨#[]⟩))) :
    Calls Tryd.prog 23 #[.agg #[.int .i64 a, .int .i64 b, .int .i64 c]] W fun e w' => e = .returned (.string A) ∧ Below W.heap.size W w' := format_is a b c W (HV.out W hb).1 h
theorem case_ex (a b c : Int) : ∃ A, Hid ((vpB a b c = true ∧ mkB (fmtP a b c) = A) ∨ (vpB a b c = false ∧ A = ⟨#[]⟩)) := by
  cases h : vpB a b c
  · exact ⟨_, .inr ⟨rfl, rfl⟩⟩
  · exact ⟨_, .inl ⟨rfl, rfl⟩⟩
abbrev w0N (w : World) (a b c x y z : Int) : World := (w.alloc (.cells #[.int .i64 a, .int .i64 b, .int .i64 c] 23)).alloc (.cells #[.int .i64 x, .int .i64 y, .int .i64 z] 23)
theorem keepN {w W : World} {a b c x y z : Int} (h : Below (w0N w a b c x y z).heap.size (w0N w a b c x y z) W) :
    Below (w0N w a b c x y z).heap.size (w0N w a b c x y z) W ∧ C3 W w.heap.size (.int .i64 a) (.int .i64 b) (.int .i64 c) ∧ C3 W (w.heap.size + 1) (.int .i64 x) (.int .i64 y) (.int .i64 z) :=
  ⟨h, C3.of h (by simp <;> omega) ((C3.new w _ _ _ _ rfl).up (by simp) _), C3.of h (by simp) (C3.new _ _ _ _ _ (by simp))⟩
set_option maxHeartbeats 2000000 in
set_option maxRecDepth 100000 in
theorem IdentNames_walk (a0 b0 c0 : Int) (a1 b1 c1 : Int) (w : World) (hV : Vars w) (wa0 : (Lit.int .i64 a0).wf = true) (wb0 : (Lit.int .i64 b0).wf = true) (wc0 : (Lit.int .i64 c0).wf = true) (wa1 : (Lit.int .i64 a1).wf = true) (wb1 : (Lit.int .i64 b1).wf = true) (wc1 : (Lit.int .i64 c1).wf = true) :
    Calls Tryd.prog 13 #[.agg #[.int .i64 a0, .int .i64 b0, .int .i64 c0], .agg #[.int .i64 a1, .int .i64 b1, .int .i64 c1]] w fun e w' => e = .returned (.bool true) ∧ Below w.heap.size w w' := by
  obtain ⟨A, hA⟩ := case_ex a0 b0 c0
  obtain ⟨B, hB⟩ := case_ex a1 b1 c1
  obtain ⟨r, hr⟩ : ∃ r, Hid (vpB a0 b0 c0 = r) := ⟨_, rfl⟩
  obtain ⟨q, hq⟩ : ∃ q, Hid (vpB a1 b1 c1 = q) := ⟨_, rfl⟩
  have hb0 : Below w.heap.size w (w0N w a0 b0 c0 a1 b1 c1) := nxA (newB _ _) _
  have HV : Hid (∀ W, Below (w0N w a0 b0 c0 a1 b1 c1).heap.size (w0N w a0 b0 c0 a1 b1 c1) W → Vars W) := fun W hW => hV.below (nx hb0 hW)
  clear hV wa0 wb0 wc0 wa1 wb1 wc1
  go_enter Tryd.func13, Tryd.ntmps13
  go_upto_region 1 with fail
  go_cut [5, 6] (fun s5 s6 wx => s5 = .string A ∧ s6 = .string B ∧ Below (w0N w a0 b0 c0 a1 b1 c1).heap.size (w0N w a0 b0 c0 a1 b1 c1) wx)
  case first =>
    go_region_held3 (fun W => Below (w0N w a0 b0 c0 a1 b1 c1).heap.size (w0N w a0 b0 c0 a1 b1 c1) W ∧ C3 W w.heap.size (.int .i64 a0) (.int .i64 b0) (.int .i64 c0) ∧ C3 W (w.heap.size + 1) (.int .i64 a1) (.int .i64 b1) (.int .i64 c1))
      (first
        | exact keepN (Below.refl _ _)
        | exact keepN (Below.refl _ _).drew
        | (go_split_ands; exact keepN (nx (by assumption) hb1)))
      (first
        | (go_at_call 23; go_split_ands; (with_reducible refine (format_caseK ?_ HV hA).mono ?_); (· assumption); rintro e W1 ⟨rfl, hb1⟩)
        | (go_at_call 23; go_split_ands; (with_reducible refine (format_caseK ?_ HV hB).mono ?_); (· assumption); rintro e W1 ⟨rfl, hb1⟩))
    all_goals (go_wp2_with fail; go_meet; go_split_ands; exact ⟨rfl, rfl, by assumption⟩)
  case rest =>
    obtain ⟨rfl, rfl, hW1⟩ := hcut
    obtain ⟨_, ⟨i0, i1, i2⟩, ⟨j0, j1, j2⟩⟩ := keepN hW1
    have tok : True := trivial
    cases r
    · go_wp2_with (first
        | (go_at_call 15; refine (valid_b _ _ _ _ hr).mono ?_; rintro e W2 ⟨rfl, hb2⟩; have hW2 := nx hW1 hb2)
        | (go_at_call 14; refine (awake_any _ (HV.out _ hW2)).mono ?_; rintro e W3 ⟨rfl, hb3⟩))
      go_ret
      exact ⟨rfl, nx (nx hb0 hW2) hb3⟩
    · cases q
      · go_wp2_with (first
          | (have _t := tok; go_at_call 15; (with_reducible refine (valid_b _ _ _ _ hr).mono ?_); rintro e W2 ⟨rfl, hb2⟩; have hW2 := nx hW1 hb2; clear tok i0 i1 i2 j0 j1 j2; obtain ⟨_, ⟨i0, i1, i2⟩, ⟨j0, j1, j2⟩⟩ := keepN hW2)
          | (go_at_call 15; (with_reducible refine (valid_b _ _ _ _ hq).mono ?_); rintro e W3 ⟨rfl, hb3⟩; have hW3 := nx hW2 hb3)
          | (go_at_call 14; refine (awake_any _ (HV.out _ hW3)).mono ?_; rintro e W4 ⟨rfl, hb4⟩))
        go_ret
        exact ⟨rfl, nx (nx hb0 hW3) hb4⟩
      · have eA : mkB (fmtP a0 b0 c0) = A := by
          rcases hA.out with ⟨_, h⟩ | ⟨h, _⟩
          · exact h
          · rw [hr.out] at h; cases h
        have eB : mkB (fmtP a1 b1 c1) = B := by
          rcases hB.out with ⟨_, h⟩ | ⟨h, _⟩
          · exact h
          · rw [hq.out] at h; cases h
        have nA : A.toList.isEmpty = false := by
          have := (fmtP_len hr.out).1
          rw [← eA, mkB_toList]
          cases hx : fmtP a0 b0 c0 with
          | nil => rw [hx] at this; simp at this
          | cons _ _ => rfl
        have nA2 : ¬ A.toList = [] := by
          intro h
          rw [h] at nA
          cases nA
        have HAB : Hid ((A.toList == B.toList) = decide (a0 = a1 ∧ b0 = b1 ∧ c0 = c1)) := by
          show _ = _
          by_cases h : a0 = a1 ∧ b0 = b1 ∧ c0 = c1
          · obtain ⟨rfl, rfl, rfl⟩ := h
            rw [← eA, ← eB]
            simp
          · rw [decide_eq_false h, beq_eq_false_iff_ne, ← eA, ← eB, mkB_toList, mkB_toList]
            exact fun e => h (fmtP_inj hr.out hq.out e)
        clear eA eB
        by_cases hd : a0 = a1 ∧ b0 = b1 ∧ c0 = c1
        · have hs : (A.toList == B.toList) = true := by rw [HAB.out]; exact decide_eq_true hd
          obtain ⟨rfl, rfl, rfl⟩ := hd
          go_wp2_with (first
            | (have _t := tok; go_at_call 15; (with_reducible refine (valid_b _ _ _ _ hr).mono ?_); rintro e W2 ⟨rfl, hb2⟩; have hW2 := nx hW1 hb2; clear tok i0 i1 i2 j0 j1 j2; obtain ⟨_, ⟨i0, i1, i2⟩, ⟨j0, j1, j2⟩⟩ := keepN hW2)
            | (go_at_call 15; (with_reducible refine (valid_b _ _ _ _ hq).mono ?_); rintro e W3 ⟨rfl, hb3⟩; have hW3 := nx hW2 hb3)
            | (go_at_call 14; refine (awake_any _ (HV.out _ hW3)).mono ?_; rintro e W4 ⟨rfl, hb4⟩; clear i0 i1 i2 j0 j1 j2; obtain ⟨_, ⟨i0, i1, i2⟩, ⟨j0, j1, j2⟩⟩ := keepN (nx hW3 hb4)))
          go_ret
          exact ⟨rfl, nx (nx hb0 hW3) hb4⟩
        · have hs : (A.toList == B.toList) = false := by rw [HAB.out]; exact decide_eq_false hd
          have D1 := Lib.hid hd
          clear hd
          go_wp2_with (first
            | (have _t := tok; go_at_call 15; (with_reducible refine (valid_b _ _ _ _ hr).mono ?_); rintro e W2 ⟨rfl, hb2⟩; have hW2 := nx hW1 hb2; clear tok i0 i1 i2 j0 j1 j2; obtain ⟨_, ⟨i0, i1, i2⟩, ⟨j0, j1, j2⟩⟩ := keepN hW2)
            | (go_at_call 15; (with_reducible refine (valid_b _ _ _ _ hq).mono ?_); rintro e W3 ⟨rfl, hb3⟩; have hW3 := nx hW2 hb3)
            | (go_at_call 14; refine (awake_any _ (HV.out _ hW3)).mono ?_; rintro e W4 ⟨rfl, hb4⟩; clear i0 i1 i2 j0 j1 j2; obtain ⟨_, ⟨i0, i1, i2⟩, ⟨j0, j1, j2⟩⟩ := keepN (nx hW3 hb4)))
          all_goals (go_ret; first | exact ⟨rfl, nx (nx hb0 hW3) hb4⟩ | (exfalso; apply D1.out; refine ⟨?_, ?_, ?_⟩ <;> assumption))
end Go.Proofs.YtchffamnamhcdaaDoor
