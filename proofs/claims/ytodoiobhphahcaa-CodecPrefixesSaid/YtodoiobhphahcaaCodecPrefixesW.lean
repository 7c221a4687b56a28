/- The walk of CodecPrefixes. -/
import Derived.Test.YtodoiobhphahcaaForm
namespace Go.Proofs.Ytodoiobhphahcaa
open Go.RowKit
set_option maxHeartbeats 400000 in
theorem CodecPrefixes_walk (A0 : Option Addr) (n0 c0 : Nat) (x0 : List Int) (a1 : Int) (w : World) (w0 : In w A0 n0 c0 x0) (w1 : (Lit.int .i64 a1).wf = true) :
    Calls Try.prog 11 #[.slice A0 n0 c0, .int .i64 a1] w fun e w' => e = .returned (.bool true) ∧ Below w.heap.size w w' := by
  obtain ⟨rfl, hr, hb, hf, hc⟩ := w0
  obtain ⟨v0, v1⟩ := wf_i64 w1
  clear w1
  by_cases hl : x0.length ≤ 4096
  · have hl2 : (x0.length : Int) ≤ 4096 := by omega
    obtain ⟨k, hk⟩ : ∃ k, Hid ((frameB x0).length = k) := ⟨_, rfl⟩
    have hk1 : k ≤ 4110 := by
      rw [← hk.out, frameB_length]
      have := vint_len (x0.length : Int)
      omega
    have hfb : Byt (frameB x0) := frameB_byt hb hl
    by_cases h0 : a1 < 0
    · go_enter Try.func11, Try.ntmps11
      go_wp2_with (first
        | (go_at_call 27; refine (frame_form A0 c0 x0 _ hr hb hl hk).mono ?_; rintro e1 W1 ⟨Ap, cp, rfl, ho1, hb1⟩)
        | (go_at_call 17; refine (awake_any _).mono ?_; rintro e1 W3 ⟨rfl, hb3⟩))
      go_ret
      exact ⟨rfl, nx hb1 hb3⟩
    · obtain ⟨j, rfl⟩ := Int.eq_ofNat_of_zero_le (show 0 ≤ a1 by omega)
      by_cases hj : j < k
      · have hjk : ¬ (k : Int) ≤ (j : Int) := by omega
        have hu : Hid (unframeS ((frameB x0).take j) = ([], 0, 5)) := unframeS_prefix hl (by rw [hk.out]; exact hj)
        have hlen : Hid (((frameB x0).take j).length = j) := by show _ = _; rw [List.length_take, hk.out]; omega
        have hz : Hid (([] : List Int).length = 0) := rfl
        go_enter Try.func11, Try.ntmps11
        go_wp2_with (first
          | (go_at_call 27; refine (frame_form A0 c0 x0 _ hr hb hl hk).mono ?_; rintro e1 W1 ⟨Ap, cp, rfl, ho1, hb1⟩; have hjc : j ≤ cp := by have := (Own.fit ho1).2.1; omega)
          | (go_at_call 17; refine (awake_any _).mono ?_; rintro e1 W3 ⟨rfl, hb3⟩)
          | (go_at_call 29; refine (unframe_len Ap j cp ((frameB x0).take j) _ ((ho1.rd.below hb3).take j) (hfb.take j) hlen (by simp only [maxLen]; omega) hjc hu hz).mono ?_; rintro e1 W5 ⟨Ar, cr, rfl, hr5, hb5⟩))
        go_ret
        exact ⟨rfl, nx (nx hb1 hb3) hb5⟩
      · have hjk : (k : Int) ≤ (j : Int) := by omega
        go_enter Try.func11, Try.ntmps11
        go_wp2_with (first
          | (go_at_call 27; refine (frame_form A0 c0 x0 _ hr hb hl hk).mono ?_; rintro e1 W1 ⟨Ap, cp, rfl, ho1, hb1⟩)
          | (go_at_call 17; refine (awake_any _).mono ?_; rintro e1 W3 ⟨rfl, hb3⟩))
        go_ret
        exact ⟨rfl, nx hb1 hb3⟩
  · have hl1 : 4096 < x0.length := by omega
    have hl2 : ¬ (x0.length : Int) ≤ 4096 := by omega
    go_enter Try.func11, Try.ntmps11
    go_wp2_with (first
      | (go_at_call 27; refine (frame_no A0 c0 x0 _ hl1).mono ?_; rintro e1 W1 ⟨rfl, rfl⟩)
      | (go_at_call 17; refine (awake_any _).mono ?_; rintro e1 W3 ⟨rfl, hb3⟩))
    go_ret
    exact ⟨rfl, hb3⟩
end Go.Proofs.Ytodoiobhphahcaa
