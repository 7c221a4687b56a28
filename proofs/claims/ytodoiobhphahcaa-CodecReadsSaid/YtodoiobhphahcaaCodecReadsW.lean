/- The walk of CodecReads. -/
import Derived.Test.YtodoiobhphahcaaAwake
import Derived.Test.YtodoiobhphahcaaOpen
namespace Go.Proofs.Ytodoiobhphahcaa
open Go.RowKit
set_option maxHeartbeats 400000 in
theorem CodecReads_walk (A0 : Option Addr) (n0 c0 : Nat) (x0 : List Int) (w : World) (w0 : In w A0 n0 c0 x0) :
    Calls Try.prog 4 #[.slice A0 n0 c0] w fun e w' => e = .returned (.bool true) ∧ Below w.heap.size w w' := by
  obtain ⟨rfl, hr, hb, hf, hc⟩ := w0
  have hm : x0.length ≤ maxLen := by simp only [maxLen]; omega
  obtain ⟨v, n, e, hu⟩ : ∃ v n e, Hid (uintS x0 = (v, n, e)) := ⟨_, _, _, rfl⟩
  go_enter Try.func4, Try.ntmps4
  go_wp2_with (first
    | (go_at_call 19; refine (uint_is A0 c0 x0 _ hr hb hm hu).mono ?_; rintro e1 w1 ⟨rfl, rfl⟩)
    | (go_at_call 20; refine (refUint_is A0 c0 x0 _ hr hb hm hu).mono ?_; rintro e1 w1 ⟨rfl, rfl⟩)
    | (go_at_call 17; refine (awake_any _).mono ?_; rintro e1 w1 ⟨rfl, hbl⟩))
  go_ret
  exact ⟨rfl, hbl⟩
end Go.Proofs.Ytodoiobhphahcaa
