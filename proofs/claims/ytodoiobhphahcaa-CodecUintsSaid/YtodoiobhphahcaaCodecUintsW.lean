/- The walk of CodecUints. -/
import Derived.Test.YtodoiobhphahcaaForm
namespace Go.Proofs.Ytodoiobhphahcaa
open Go.RowKit
set_option maxHeartbeats 400000 in
theorem CodecUints_walk (a0 : Int) (A1 : Option Addr) (n1 c1 : Nat) (x1 : List Int) (A2 : Option Addr) (n2 c2 : Nat) (x2 : List Int) (w : World) (w0 : (Lit.int .u64 a0).wf = true) (w1 : In w A1 n1 c1 x1) (w2 : In w A2 n2 c2 x2) :
    Calls Try.prog 3 #[.int .u64 a0, .slice A1 n1 c1, .slice A2 n2 c2] w fun e w' => e = .returned (.bool true) ∧ Below w.heap.size w w' := by
  obtain ⟨rfl, hr, hb, hf, hc⟩ := w1
  obtain ⟨rfl, hr2, hb2, hf2, hc2⟩ := w2
  obtain ⟨v0, v1⟩ := wf_u64 w0
  obtain ⟨k, hk⟩ : ∃ k, Hid ((vint a0).length = k) := ⟨_, rfl⟩
  have hk1 : 1 ≤ k ∧ k ≤ 10 := by rw [← hk.out]; exact vint_len a0
  have hn : Hid ((x1 ++ vint a0).length = x1.length + k) := by show _ = _; rw [List.length_append, hk.out]
  have hxb : Byt (x1 ++ vint a0) := hb.append (vint_byt v0 v1)
  have hvb : Byt (vint a0) := vint_byt v0 v1
  have hu : Hid (uintS (vint a0 ++ x2) = (a0, (k : Int), 0)) := by show _ = _; rw [uintS_put a0 x2 v0 v1, hk.out]
  have hdr : Hid ((x1 ++ vint a0).drop x1.length = vint a0) := by show _ = _; simp
  have HV := Lib.hid v1
  clear v1 w0
  go_enter Try.func3, Try.ntmps3
  go_wp2_with (first
    | (go_at_call 15; refine (put_form A1 c1 x1 a0 _ hr (by omega) v0 HV.out hf hn).mono ?_; rintro e1 W1 ⟨Ab, cb, rfl, hcb, ho1, hr1, hb1⟩; have hcne : ¬ cb = x1.length := by omega)
    | (go_at_call 16; refine (refPut_form A1 c1 x1 a0 W1 (hr.below hb1) (by omega) v0 HV.out hn).mono ?_; rintro e1 W2 ⟨Aw, cw, rfl, hcw, ho2, hr2', hb2'⟩)
    | (go_at_call 17; refine (awake_any _).mono ?_; rintro e1 W3 ⟨rfl, hb3⟩)
    | (go_at_call 18; refine (equal_is Ab Aw _ _ cb cw (x1 ++ vint a0) (x1 ++ vint a0) W3 ((hr1.below hb2').below hb3) (hr2'.below hb3) hxb hxb hn hn (eq_self _)).mono ?_; rintro e1 W4 ⟨rfl, rfl⟩)
    | (at_builtin; (refine app_bytes' rfl (.tmp 27) (.tmp 31) rfl W3.heap.size _ [] (Ab.map fun a => a.add x1.length) (vint a0) _ _ hk rfl rfl (.inl (Own.empty _ _ _ (Nat.le_refl _))) (.inl (Own.empty _ _ _ (Nat.le_refl _))) (by have h9 := (((hr1.below hb2').below hb3).below (below_new W3 (.cells #[] 5))).drop x1.length; rw [hdr.out] at h9; exact h9) (by simp; omega) (by simp) ?_); intro V5 W5 ho5 hb5 _ _)
    | (at_builtin; (refine app_bytes rfl (.tmp 32) (.tmp 33) rfl W3.heap.size _ ([] ++ vint a0) A2 x2 c2 rfl rfl (.inl ho5) (.inl ho5) ((((hr2.below hb1).below hb2').below hb3).below ((below_new W3 (.cells #[] 5)).trans hb5)) (by simp; rw [hk.out]; omega) ((below_new W3 (.cells #[] 5)).trans hb5).size ?_); intro V6 W6 ho6 hb6 _ _)
    | (go_at_call 19; refine (uint_own W3.heap.size V6 ([] ++ vint a0 ++ x2) W6 ho6 (by simpa using hvb.append hb2) (by simp [maxLen]; rw [hk.out]; omega) (by simpa using hu)).mono ?_; rintro e1 W7 ⟨rfl, rfl⟩))
  go_ret
  refine ⟨ret_true (by rw [beq_iff_eq]; omega), ?_⟩
  exact nx (nx (nx hb1 hb2') hb3) (((below_new W3 _).trans hb5).trans hb6)
end Go.Proofs.Ytodoiobhphahcaa
