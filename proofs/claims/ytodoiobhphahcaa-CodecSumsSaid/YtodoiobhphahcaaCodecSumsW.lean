/- The walk of CodecSums. -/
import Derived.Test.YtodoiobhphahcaaAwake
import Derived.Test.YtodoiobhphahcaaOpen
namespace Go.Proofs.Ytodoiobhphahcaa
open Go.RowKit
set_option maxHeartbeats 400000 in
theorem CodecSums_walk (A0 : Option Addr) (n0 c0 : Nat) (x0 : List Int) (w : World) (w0 : In w A0 n0 c0 x0) :
    Calls Try.prog 8 #[.slice A0 n0 c0] w fun e w' => e = .returned (.bool true) ∧ Below w.heap.size w w' := by
  obtain ⟨rfl, hr, hb, hf, hc⟩ := w0
  have hm : x0.length ≤ maxLen := by simp only [maxLen]; omega
  obtain ⟨s, hs⟩ : ∃ s, Hid (crc x0 = s) := ⟨_, rfl⟩
  go_enter Try.func8, Try.ntmps8
  go_wp2_with (first
    | (go_at_call 17; refine (awake_any _).mono ?_; rintro e1 w1 ⟨rfl, hbl⟩)
    | (go_at_call 25; refine (sum_is A0 c0 x0 _ (hr.below hbl) hb hm hs).mono ?_; rintro e1 w2 ⟨rfl, rfl⟩)
    | (go_at_call 26; refine (refSum_is A0 c0 x0 _ (hr.below hbl) hb hm hs).mono ?_; rintro e1 w2 ⟨rfl, rfl⟩))
  go_ret
  exact ⟨rfl, hbl⟩
end Go.Proofs.Ytodoiobhphahcaa
