/- The walk of CodecUnframes. -/
import Derived.Test.YtodoiobhphahcaaForm
namespace Go.Proofs.Ytodoiobhphahcaa
open Go.RowKit
set_option maxHeartbeats 400000 in
theorem CodecUnframes_walk (A0 : Option Addr) (n0 c0 : Nat) (x0 : List Int) (w : World) (w0 : In w A0 n0 c0 x0) :
    Calls Try.prog 10 #[.slice A0 n0 c0] w fun e w' => e = .returned (.bool true) ∧ Below w.heap.size w w' := by
  obtain ⟨rfl, hr, hb, hf, hc⟩ := w0
  have hm : x0.length ≤ maxLen := by simp only [maxLen]; omega
  obtain ⟨p, n, e, hu⟩ : ∃ p n e, Hid (unframeS x0 = (p, n, e)) := ⟨_, _, _, rfl⟩
  obtain ⟨m, hp⟩ : ∃ m, Hid (p.length = m) := ⟨_, rfl⟩
  have hpb : Byt p := by
    have h := hu.out
    unfold unframeS at h
    split at h
    · injection h with h; subst h; exact Byt.nil
    · split at h
      · injection h with h; subst h; exact Byt.nil
      · split at h
        · injection h with h; subst h; exact Byt.nil
        · split at h
          · injection h with h; subst h; exact (hb.drop _).take _
          · injection h with h; subst h; exact Byt.nil
  go_enter Try.func10, Try.ntmps10
  go_wp2_with (first
    | (go_at_call 29; refine (unframe_is A0 c0 x0 _ hr hb hm hf hu hp).mono ?_; rintro e1 W1 ⟨Ap, cp, rfl, hrp, hb1⟩)
    | (go_at_call 30; refine (refUnframe_is A0 c0 x0 W1 (hr.below hb1) hb hm hf hu hp).mono ?_; rintro e1 W2 ⟨Aq, cq, rfl, hrq, hb2⟩)
    | (go_at_call 18; refine (equal_is Ap Aq _ _ cp cq p p _ ((hrp.below hb2).below hb3) (hrq.below hb3) hpb hpb hp hp (eq_self _)).mono ?_; rintro e1 W4 ⟨rfl, rfl⟩)
    | (go_at_call 17; refine (awake_any _).mono ?_; rintro e1 W3 ⟨rfl, hb3⟩))
  go_outline
  go_ret
  exact ⟨rfl, nx (nx hb1 hb2) hb3⟩
end Go.Proofs.Ytodoiobhphahcaa
