/- IdentOrders walked. -/
import Derived.Test.YtchffamnamhcdaaDoorIb
import Derived.Deep.DeepCutAuto
namespace Go.Proofs.YtchffamnamhcdaaDoor
set_option linter.unusedVariables false
open Go.RowKit
theorem cmp3_spec (a b c x y z : Int) : ((a < x ∨ (a = x ∧ (b < y ∨ (b = y ∧ c < z)))) ∧ cmp3 a b c x y z = -1) ∨ ((x < a ∨ (a = x ∧ (y < b ∨ (b = y ∧ z < c)))) ∧ cmp3 a b c x y z = 1) ∨ ((a = x ∧ b = y ∧ c = z) ∧ cmp3 a b c x y z = 0) := by
  unfold cmp3
  rcases ord_cases a x with ⟨h1, e1⟩ | ⟨h1, e1⟩ | ⟨h1, e1⟩ <;> rcases ord_cases b y with ⟨h2, e2⟩ | ⟨h2, e2⟩ | ⟨h2, e2⟩ <;> rcases ord_cases c z with ⟨h3, e3⟩ | ⟨h3, e3⟩ | ⟨h3, e3⟩ <;> rw [e1, e2, e3] <;> simp <;> omega
abbrev w0O (w : World) (a b c x y z t u v : Int) : World := ((w.alloc (.cells #[.int .i64 a, .int .i64 b, .int .i64 c] 23)).alloc (.cells #[.int .i64 x, .int .i64 y, .int .i64 z] 23)).alloc (.cells #[.int .i64 t, .int .i64 u, .int .i64 v] 23)
theorem keepO {w W : World} {a b c x y z t u v : Int} (h : Below (w0O w a b c x y z t u v).heap.size (w0O w a b c x y z t u v) W) :
    Below (w0O w a b c x y z t u v).heap.size (w0O w a b c x y z t u v) W ∧ C3 W w.heap.size (.int .i64 a) (.int .i64 b) (.int .i64 c) ∧ C3 W (w.heap.size + 1) (.int .i64 x) (.int .i64 y) (.int .i64 z) ∧ C3 W (w.heap.size + 1 + 1) (.int .i64 t) (.int .i64 u) (.int .i64 v) :=
  ⟨h, C3.of h (by simp <;> omega) (((C3.new w _ _ _ _ rfl).up (by simp <;> omega) _).up (by simp <;> omega) _), C3.of h (by simp <;> omega) ((C3.new _ _ _ _ _ (by simp)).up (by simp <;> omega) _), C3.of h (by simp <;> omega) (C3.new _ _ _ _ _ (by simp))⟩
set_option maxHeartbeats 4000000 in
theorem IdentOrders_walk (a0 b0 c0 : Int) (a1 b1 c1 : Int) (a2 b2 c2 : Int) (w : World) (hV : Vars w) (wa0 : (Lit.int .i64 a0).wf = true) (wb0 : (Lit.int .i64 b0).wf = true) (wc0 : (Lit.int .i64 c0).wf = true) (wa1 : (Lit.int .i64 a1).wf = true) (wb1 : (Lit.int .i64 b1).wf = true) (wc1 : (Lit.int .i64 c1).wf = true) (wa2 : (Lit.int .i64 a2).wf = true) (wb2 : (Lit.int .i64 b2).wf = true) (wc2 : (Lit.int .i64 c2).wf = true) :
    Calls Tryd.prog 5 #[.agg #[.int .i64 a0, .int .i64 b0, .int .i64 c0], .agg #[.int .i64 a1, .int .i64 b1, .int .i64 c1], .agg #[.int .i64 a2, .int .i64 b2, .int .i64 c2]] w fun e w' => e = .returned (.bool true) ∧ Below w.heap.size w w' := by
  have s1 := cmp3_spec a0 b0 c0 a1 b1 c1
  have s2 := cmp3_spec a1 b1 c1 a2 b2 c2
  have s3 := cmp3_spec a0 b0 c0 a2 b2 c2
  have s4 := cmp3_spec a1 b1 c1 a0 b0 c0
  obtain ⟨r1, h1⟩ : ∃ r, Hid (cmp3 a0 b0 c0 a1 b1 c1 = r) := ⟨_, rfl⟩
  obtain ⟨r2, h2⟩ : ∃ r, Hid (cmp3 a1 b1 c1 a2 b2 c2 = r) := ⟨_, rfl⟩
  obtain ⟨r3, h3⟩ : ∃ r, Hid (cmp3 a0 b0 c0 a2 b2 c2 = r) := ⟨_, rfl⟩
  rw [h1.out] at s1
  rw [h2.out] at s2
  rw [h3.out] at s3
  have h4 : Hid (cmp3 a1 b1 c1 a0 b0 c0 = -r1) := by show _ = _; omega
  have hb0 : Below w.heap.size w (w0O w a0 b0 c0 a1 b1 c1 a2 b2 c2) := nxA (nxA (newB _ _) _) _
  have HV : Hid (∀ W, Below (w0O w a0 b0 c0 a1 b1 c1 a2 b2 c2).heap.size (w0O w a0 b0 c0 a1 b1 c1 a2 b2 c2) W → Vars W) := fun W hW => hV.below (nx hb0 hW)
  have m1 : -1 ≤ r1 := by omega
  have m2 : r1 ≤ 1 := by omega
  have S1 := Lib.hid s1
  have S2 := Lib.hid s2
  have S3 := Lib.hid s3
  clear hV wa0 wb0 wc0 wa1 wb1 wc1 wa2 wb2 wc2 s1 s2 s3 s4
  go_enter Tryd.func5, Tryd.ntmps5
  go_upto_region 1 with fail
  go_cut [7, 8, 9] (fun s7 s8 s9 wx => s7 = .int .i64 r1 ∧ s8 = .int .i64 r2 ∧ s9 = .int .i64 r3 ∧ Below (w0O w a0 b0 c0 a1 b1 c1 a2 b2 c2).heap.size (w0O w a0 b0 c0 a1 b1 c1 a2 b2 c2) wx)
  case first =>
    go_region_held3 (fun W => Below (w0O w a0 b0 c0 a1 b1 c1 a2 b2 c2).heap.size (w0O w a0 b0 c0 a1 b1 c1 a2 b2 c2) W ∧ C3 W w.heap.size (.int .i64 a0) (.int .i64 b0) (.int .i64 c0) ∧ C3 W (w.heap.size + 1) (.int .i64 a1) (.int .i64 b1) (.int .i64 c1) ∧ C3 W (w.heap.size + 1 + 1) (.int .i64 a2) (.int .i64 b2) (.int .i64 c2))
      (first
        | exact keepO (Below.refl _ _)
        | exact keepO (Below.refl _ _).drew
        | (go_split_ands; exact keepO (nx (by assumption) hb1)))
      (first
        | (go_at_call 19; (with_reducible refine (compareProc_is _ _ _ _ _ _ _ h1).mono ?_); rintro e W1 ⟨rfl, hb1⟩)
        | (go_at_call 19; (with_reducible refine (compareProc_is _ _ _ _ _ _ _ h2).mono ?_); rintro e W1 ⟨rfl, hb1⟩)
        | (go_at_call 19; (with_reducible refine (compareProc_is _ _ _ _ _ _ _ h3).mono ?_); rintro e W1 ⟨rfl, hb1⟩))
    all_goals (go_wp2_with fail; go_meet; go_split_ands; exact ⟨rfl, rfl, rfl, by assumption⟩)
  case rest =>
    obtain ⟨rfl, rfl, rfl, hW1⟩ := hcut
    obtain ⟨_, ⟨i0, i1, i2⟩, ⟨j0, j1, j2⟩, _⟩ := keepO hW1
    rcases S1.out with ⟨d1, rfl⟩ | ⟨d1, rfl⟩ | ⟨⟨rfl, rfl, rfl⟩, rfl⟩
    · have D1 := Lib.hid d1
      rcases S2.out with ⟨d2, rfl⟩ | ⟨d2, rfl⟩ | ⟨d2, rfl⟩
      · have g3 : r3 ≤ 0 := by have := S3.out; omega
        clear d1 d2
        go_wp2_with (first
          | (go_at_call 14; refine (awake_any _ (HV.out _ hW1)).mono ?_; rintro e W2 ⟨rfl, hb2⟩; have hW2 : Below (w0O w a0 b0 c0 a1 b1 c1 a2 b2 c2).heap.size (w0O w a0 b0 c0 a1 b1 c1 a2 b2 c2) W2 := nx hW1 hb2; clear i0 i1 i2 j0 j1 j2; obtain ⟨_, ⟨i0, i1, i2⟩, ⟨j0, j1, j2⟩, _⟩ := keepO hW2)
          | (go_at_call 19; (with_reducible refine (compareProc_is _ _ _ _ _ _ _ h4).mono ?_); rintro e W3 ⟨rfl, hb3⟩; have hW3 : Below (w0O w a0 b0 c0 a1 b1 c1 a2 b2 c2).heap.size (w0O w a0 b0 c0 a1 b1 c1 a2 b2 c2) W3 := nx hW2 hb3; clear i0 i1 i2 j0 j1 j2; obtain ⟨_, ⟨i0, i1, i2⟩, ⟨j0, j1, j2⟩, _⟩ := keepO hW3))
        all_goals (go_ret; first | exact ⟨rfl, nx hb0 hW3⟩ | exact absurd D1.out (by omega))
      · clear d1 d2
        go_wp2_with (first
          | (go_at_call 14; refine (awake_any _ (HV.out _ hW1)).mono ?_; rintro e W2 ⟨rfl, hb2⟩; have hW2 : Below (w0O w a0 b0 c0 a1 b1 c1 a2 b2 c2).heap.size (w0O w a0 b0 c0 a1 b1 c1 a2 b2 c2) W2 := nx hW1 hb2; clear i0 i1 i2 j0 j1 j2; obtain ⟨_, ⟨i0, i1, i2⟩, ⟨j0, j1, j2⟩, _⟩ := keepO hW2)
          | (go_at_call 19; (with_reducible refine (compareProc_is _ _ _ _ _ _ _ h4).mono ?_); rintro e W3 ⟨rfl, hb3⟩; have hW3 : Below (w0O w a0 b0 c0 a1 b1 c1 a2 b2 c2).heap.size (w0O w a0 b0 c0 a1 b1 c1 a2 b2 c2) W3 := nx hW2 hb3; clear i0 i1 i2 j0 j1 j2; obtain ⟨_, ⟨i0, i1, i2⟩, ⟨j0, j1, j2⟩, _⟩ := keepO hW3))
        all_goals (go_ret; first | exact ⟨rfl, nx hb0 hW3⟩ | exact absurd D1.out (by omega))
      · have g3 : r3 ≤ 0 := by have := S3.out; omega
        clear d1 d2
        go_wp2_with (first
          | (go_at_call 14; refine (awake_any _ (HV.out _ hW1)).mono ?_; rintro e W2 ⟨rfl, hb2⟩; have hW2 : Below (w0O w a0 b0 c0 a1 b1 c1 a2 b2 c2).heap.size (w0O w a0 b0 c0 a1 b1 c1 a2 b2 c2) W2 := nx hW1 hb2; clear i0 i1 i2 j0 j1 j2; obtain ⟨_, ⟨i0, i1, i2⟩, ⟨j0, j1, j2⟩, _⟩ := keepO hW2)
          | (go_at_call 19; (with_reducible refine (compareProc_is _ _ _ _ _ _ _ h4).mono ?_); rintro e W3 ⟨rfl, hb3⟩; have hW3 : Below (w0O w a0 b0 c0 a1 b1 c1 a2 b2 c2).heap.size (w0O w a0 b0 c0 a1 b1 c1 a2 b2 c2) W3 := nx hW2 hb3; clear i0 i1 i2 j0 j1 j2; obtain ⟨_, ⟨i0, i1, i2⟩, ⟨j0, j1, j2⟩, _⟩ := keepO hW3))
        all_goals (go_ret; first | exact ⟨rfl, nx hb0 hW3⟩ | exact absurd D1.out (by omega))
    · have D1 := Lib.hid d1
      rcases S2.out with ⟨d2, rfl⟩ | ⟨d2, rfl⟩ | ⟨d2, rfl⟩
      · clear d1 d2
        go_wp2_with (first
          | (go_at_call 14; refine (awake_any _ (HV.out _ hW1)).mono ?_; rintro e W2 ⟨rfl, hb2⟩; have hW2 : Below (w0O w a0 b0 c0 a1 b1 c1 a2 b2 c2).heap.size (w0O w a0 b0 c0 a1 b1 c1 a2 b2 c2) W2 := nx hW1 hb2; clear i0 i1 i2 j0 j1 j2; obtain ⟨_, ⟨i0, i1, i2⟩, ⟨j0, j1, j2⟩, _⟩ := keepO hW2)
          | (go_at_call 19; (with_reducible refine (compareProc_is _ _ _ _ _ _ _ h4).mono ?_); rintro e W3 ⟨rfl, hb3⟩; have hW3 : Below (w0O w a0 b0 c0 a1 b1 c1 a2 b2 c2).heap.size (w0O w a0 b0 c0 a1 b1 c1 a2 b2 c2) W3 := nx hW2 hb3; clear i0 i1 i2 j0 j1 j2; obtain ⟨_, ⟨i0, i1, i2⟩, ⟨j0, j1, j2⟩, _⟩ := keepO hW3))
        all_goals (go_ret; first | exact ⟨rfl, nx hb0 hW3⟩ | exact absurd D1.out (by omega))
      · have g3 : 0 ≤ r3 := by have := S3.out; omega
        clear d1 d2
        go_wp2_with (first
          | (go_at_call 14; refine (awake_any _ (HV.out _ hW1)).mono ?_; rintro e W2 ⟨rfl, hb2⟩; have hW2 : Below (w0O w a0 b0 c0 a1 b1 c1 a2 b2 c2).heap.size (w0O w a0 b0 c0 a1 b1 c1 a2 b2 c2) W2 := nx hW1 hb2; clear i0 i1 i2 j0 j1 j2; obtain ⟨_, ⟨i0, i1, i2⟩, ⟨j0, j1, j2⟩, _⟩ := keepO hW2)
          | (go_at_call 19; (with_reducible refine (compareProc_is _ _ _ _ _ _ _ h4).mono ?_); rintro e W3 ⟨rfl, hb3⟩; have hW3 : Below (w0O w a0 b0 c0 a1 b1 c1 a2 b2 c2).heap.size (w0O w a0 b0 c0 a1 b1 c1 a2 b2 c2) W3 := nx hW2 hb3; clear i0 i1 i2 j0 j1 j2; obtain ⟨_, ⟨i0, i1, i2⟩, ⟨j0, j1, j2⟩, _⟩ := keepO hW3))
        all_goals (go_ret; first | exact ⟨rfl, nx hb0 hW3⟩ | exact absurd D1.out (by omega))
      · have g3 : 0 ≤ r3 := by have := S3.out; omega
        clear d1 d2
        go_wp2_with (first
          | (go_at_call 14; refine (awake_any _ (HV.out _ hW1)).mono ?_; rintro e W2 ⟨rfl, hb2⟩; have hW2 : Below (w0O w a0 b0 c0 a1 b1 c1 a2 b2 c2).heap.size (w0O w a0 b0 c0 a1 b1 c1 a2 b2 c2) W2 := nx hW1 hb2; clear i0 i1 i2 j0 j1 j2; obtain ⟨_, ⟨i0, i1, i2⟩, ⟨j0, j1, j2⟩, _⟩ := keepO hW2)
          | (go_at_call 19; (with_reducible refine (compareProc_is _ _ _ _ _ _ _ h4).mono ?_); rintro e W3 ⟨rfl, hb3⟩; have hW3 : Below (w0O w a0 b0 c0 a1 b1 c1 a2 b2 c2).heap.size (w0O w a0 b0 c0 a1 b1 c1 a2 b2 c2) W3 := nx hW2 hb3; clear i0 i1 i2 j0 j1 j2; obtain ⟨_, ⟨i0, i1, i2⟩, ⟨j0, j1, j2⟩, _⟩ := keepO hW3))
        all_goals (go_ret; first | exact ⟨rfl, nx hb0 hW3⟩ | exact absurd D1.out (by omega))
    · have D1 : Hid (0 = (0 : Int)) := rfl
      have h4' : Hid (cmp3 a0 b0 c0 a0 b0 c0 = 0) := h1
      clear h4
      have h4 := h4'
      rcases S2.out with ⟨d2, rfl⟩ | ⟨d2, rfl⟩ | ⟨d2, rfl⟩
      · have g3 : r3 ≤ 0 := by have := S3.out; omega
        clear d2
        go_wp2_with (first
          | (go_at_call 14; refine (awake_any _ (HV.out _ hW1)).mono ?_; rintro e W2 ⟨rfl, hb2⟩; have hW2 : Below (w0O w a0 b0 c0 a0 b0 c0 a2 b2 c2).heap.size (w0O w a0 b0 c0 a0 b0 c0 a2 b2 c2) W2 := nx hW1 hb2; clear i0 i1 i2 j0 j1 j2; obtain ⟨_, ⟨i0, i1, i2⟩, ⟨j0, j1, j2⟩, _⟩ := keepO hW2)
          | (go_at_call 19; (with_reducible refine (compareProc_is _ _ _ _ _ _ _ h4).mono ?_); rintro e W3 ⟨rfl, hb3⟩; have hW3 : Below (w0O w a0 b0 c0 a0 b0 c0 a2 b2 c2).heap.size (w0O w a0 b0 c0 a0 b0 c0 a2 b2 c2) W3 := nx hW2 hb3; clear i0 i1 i2 j0 j1 j2; obtain ⟨_, ⟨i0, i1, i2⟩, ⟨j0, j1, j2⟩, _⟩ := keepO hW3))
        all_goals (go_ret; first | exact ⟨rfl, nx hb0 hW3⟩ | exact absurd D1.out (by omega))
      · have g3 : 0 ≤ r3 := by have := S3.out; omega
        clear d2
        go_wp2_with (first
          | (go_at_call 14; refine (awake_any _ (HV.out _ hW1)).mono ?_; rintro e W2 ⟨rfl, hb2⟩; have hW2 : Below (w0O w a0 b0 c0 a0 b0 c0 a2 b2 c2).heap.size (w0O w a0 b0 c0 a0 b0 c0 a2 b2 c2) W2 := nx hW1 hb2; clear i0 i1 i2 j0 j1 j2; obtain ⟨_, ⟨i0, i1, i2⟩, ⟨j0, j1, j2⟩, _⟩ := keepO hW2)
          | (go_at_call 19; (with_reducible refine (compareProc_is _ _ _ _ _ _ _ h4).mono ?_); rintro e W3 ⟨rfl, hb3⟩; have hW3 : Below (w0O w a0 b0 c0 a0 b0 c0 a2 b2 c2).heap.size (w0O w a0 b0 c0 a0 b0 c0 a2 b2 c2) W3 := nx hW2 hb3; clear i0 i1 i2 j0 j1 j2; obtain ⟨_, ⟨i0, i1, i2⟩, ⟨j0, j1, j2⟩, _⟩ := keepO hW3))
        all_goals (go_ret; first | exact ⟨rfl, nx hb0 hW3⟩ | exact absurd D1.out (by omega))
      · have g3 : r3 = 0 := by have := S3.out; omega
        clear d2
        subst g3
        go_wp2_with (first
          | (go_at_call 14; refine (awake_any _ (HV.out _ hW1)).mono ?_; rintro e W2 ⟨rfl, hb2⟩; have hW2 : Below (w0O w a0 b0 c0 a0 b0 c0 a2 b2 c2).heap.size (w0O w a0 b0 c0 a0 b0 c0 a2 b2 c2) W2 := nx hW1 hb2; clear i0 i1 i2 j0 j1 j2; obtain ⟨_, ⟨i0, i1, i2⟩, ⟨j0, j1, j2⟩, _⟩ := keepO hW2)
          | (go_at_call 19; (with_reducible refine (compareProc_is _ _ _ _ _ _ _ h4).mono ?_); rintro e W3 ⟨rfl, hb3⟩; have hW3 : Below (w0O w a0 b0 c0 a0 b0 c0 a2 b2 c2).heap.size (w0O w a0 b0 c0 a0 b0 c0 a2 b2 c2) W3 := nx hW2 hb3; clear i0 i1 i2 j0 j1 j2; obtain ⟨_, ⟨i0, i1, i2⟩, ⟨j0, j1, j2⟩, _⟩ := keepO hW3))
        all_goals (go_ret; first | exact ⟨rfl, nx hb0 hW3⟩ | exact absurd D1.out (by omega))
end Go.Proofs.YtchffamnamhcdaaDoor
