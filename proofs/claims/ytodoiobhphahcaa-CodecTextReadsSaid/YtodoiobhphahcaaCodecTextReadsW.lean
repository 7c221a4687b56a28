/- The walk of CodecTextReads. -/
import Derived.Test.YtodoiobhphahcaaAwake
import Derived.Test.YtodoiobhphahcaaOpen
namespace Go.Proofs.Ytodoiobhphahcaa
open Go.RowKit
set_option maxHeartbeats 400000 in
theorem CodecTextReads_walk (A0 : Option Addr) (n0 c0 : Nat) (x0 : List Int) (w : World) (w0 : In w A0 n0 c0 x0) :
    Calls Try.prog 7 #[.slice A0 n0 c0] w fun e w' => e = .returned (.bool true) ∧ Below w.heap.size w w' := by
  obtain ⟨rfl, hr, hb, hf, hc⟩ := w0
  have hm : x0.length ≤ maxLen := by simp only [maxLen]; omega
  have h1 := Lib.hid (text_any A0 c0 x0 w hr hb hm hf)
  have h2 := Lib.hid (refText_any A0 c0 x0 w hr hb hm hf)
  generalize textS x0 = r at *
  obtain ⟨t, n, e⟩ := r
  go_enter Try.func7, Try.ntmps7
  go_wp2_with (first
    | (go_at_call 23; refine h1.out.mono ?_; rintro e1 w1 ⟨rfl, rfl⟩)
    | (go_at_call 24; refine h2.out.mono ?_; rintro e1 w1 ⟨rfl, rfl⟩)
    | (go_at_call 17; refine (awake_any _).mono ?_; rintro e1 w1 ⟨rfl, hbl⟩))
  go_ret
  exact ⟨rfl, hbl⟩
end Go.Proofs.Ytodoiobhphahcaa
