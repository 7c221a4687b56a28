/- The walk of CodecFrames. -/
import Derived.Test.YtodoiobhphahcaaForm
namespace Go.Proofs.Ytodoiobhphahcaa
open Go.RowKit
set_option maxHeartbeats 400000 in
theorem CodecFrames_walk (A0 : Option Addr) (n0 c0 : Nat) (x0 : List Int) (A1 : Option Addr) (n1 c1 : Nat) (x1 : List Int) (w : World) (w0 : In w A0 n0 c0 x0) (w1 : In w A1 n1 c1 x1) :
    Calls Try.prog 9 #[.slice A0 n0 c0, .slice A1 n1 c1] w fun e w' => e = .returned (.bool true) ∧ Below w.heap.size w w' := by
  obtain ⟨rfl, hr, hb, hf, hc⟩ := w0
  obtain ⟨rfl, hr2, hb2, hf2, hc2⟩ := w1
  by_cases hl : x0.length ≤ 4096
  · obtain ⟨k, hk⟩ : ∃ k, Hid ((frameB x0).length = k) := ⟨_, rfl⟩
    have hk1 : k ≤ 4110 := by
      rw [← hk.out, frameB_length]
      have := vint_len (x0.length : Int)
      omega
    have hfb : Byt (frameB x0) := frameB_byt hb hl
    have hu : Hid (unframeS (frameB x0 ++ x1) = (x0, (k : Int), 0)) := by show _ = _; rw [unframeS_frame hb hl, hk.out]
    have tok : True := trivial
    go_enter Try.func9, Try.ntmps9
    go_wp2_with (first
      | (go_at_call 27; refine (frame_form A0 c0 x0 _ hr hb hl hk).mono ?_; rintro e1 W1 ⟨Ap, cp, rfl, ho1, hb1⟩)
      | (go_at_call 28; refine (refFrame_form A0 c0 x0 W1 (hr.below hb1) hb hl hk).mono ?_; rintro e1 W2 ⟨Aq, cq, rfl, ho2, hb2'⟩)
      | (go_at_call 17; refine (awake_any _).mono ?_; rintro e1 W3 ⟨rfl, hb3⟩)
      | (go_at_call 18; have _t := tok; refine (equal_is Ap Aq _ _ cp cq (frameB x0) (frameB x0) W3 ((ho1.rd.below hb2').below hb3) (ho2.rd.below hb3) hfb hfb hk hk (eq_self _)).mono ?_; rintro e1 W4 ⟨rfl, rfl⟩; clear tok)
      | (at_builtin; (refine app_bytes' rfl (.tmp 41) (.tmp 42) rfl W3.heap.size _ [] Ap (frameB x0) _ _ hk rfl rfl (.inl (Own.empty _ _ _ (Nat.le_refl _))) (.inl (Own.empty _ _ _ (Nat.le_refl _))) (((ho1.rd.below hb2').below hb3).below (below_new W3 (.cells #[] 5))) (by simp; omega) (by simp) ?_); intro V5 W5 ho5 hb5 _ _)
      | (at_builtin; (refine app_bytes rfl (.tmp 43) (.tmp 44) rfl W3.heap.size _ ([] ++ frameB x0) A1 x1 c1 rfl rfl (.inl ho5) (.inl ho5) ((((hr2.below hb1).below hb2').below hb3).below ((below_new W3 (.cells #[] 5)).trans hb5)) (by simp; rw [hk.out]; omega) ((below_new W3 (.cells #[] 5)).trans hb5).size ?_); intro V6 W6 ho6 hb6 _ _)
      | (go_at_call 29; refine (unframe_own W3.heap.size V6 ([] ++ frameB x0 ++ x1) W6 ho6 (by simpa using hfb.append hb2) (by simp [maxLen]; rw [hk.out]; omega) (by simpa using hu) rfl).mono ?_; rintro e1 W7 ⟨Ar, cr, rfl, hr7, hb7⟩)
      | (go_at_call 18; refine (equal_is Ar A0 _ _ cr c0 x0 x0 W7 hr7 ((((hr.below hb1).below hb2').below hb3).below ((((below_new W3 (.cells #[] 5)).trans hb5).trans hb6).trans (hb7.mono (((below_new W3 (.cells #[] 5)).trans hb5).trans hb6).size))) hb hb rfl rfl (eq_self _)).mono ?_; rintro e1 W8 ⟨rfl, rfl⟩))
    go_ret
    exact ⟨rfl, nx (nx (nx (nx hb1 hb2') hb3) (((below_new W3 (.cells #[] 5)).trans hb5).trans hb6)) hb7⟩
  · have hl1 : 4096 < x0.length := by omega
    have hl2 : (4096 : Int) < (x0.length : Int) := by omega
    go_enter Try.func9, Try.ntmps9
    go_wp2_with (first
      | (go_at_call 27; refine (frame_no A0 c0 x0 _ hl1).mono ?_; rintro e1 W1 ⟨rfl, rfl⟩)
      | (go_at_call 28; refine (refFrame_no A0 c0 x0 _ hl1).mono ?_; rintro e1 W2 ⟨rfl, rfl⟩)
      | (go_at_call 17; refine (awake_any _).mono ?_; rintro e1 W3 ⟨rfl, hb3⟩)
      | (go_at_call 18; refine (equal_is none none 0 0 0 0 [] [] W3 (Rd.nil _ _) (Rd.nil _ _) Byt.nil Byt.nil rfl rfl (eq_self _)).mono ?_; rintro e1 W4 ⟨rfl, rfl⟩))
    go_ret
    exact ⟨rfl, hb3⟩
end Go.Proofs.Ytodoiobhphahcaa
