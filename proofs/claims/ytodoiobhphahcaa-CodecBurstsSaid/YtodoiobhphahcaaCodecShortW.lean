/- The walk of CodecShort. -/
import Derived.Test.YtodoiobhphahcaaForm
import Derived.Deep.RegionHeld3
namespace Go.Proofs.Ytodoiobhphahcaa
open Go.RowKit
theorem putNil_form (v : Int) (w : World) (hv0 : 0 ≤ v) (hv1 : Hid (v < 18446744073709551616)) {n : Nat} (hn : Hid ((vint v).length = n)) :
    Calls Try.prog 15 #[.slice none 0 0, .int .u64 v] w (GivesF w (vint v) n) := (put_nil v w hv0 hv1.out).mono fun _ _ => Gives.form hn

set_option maxHeartbeats 1000000 in
theorem CodecShort_walk (A0 : Option Addr) (n0 c0 : Nat) (x0 : List Int) (w : World) (w0 : In w A0 n0 c0 x0) :
    Calls Try.prog 5 #[.slice A0 n0 c0] w fun e w' => e = .returned (.bool true) ∧ Below w.heap.size w w' := by
  obtain ⟨rfl, hr, hb, hf, hc⟩ := w0
  have hm : x0.length ≤ maxLen := by simp only [maxLen]; omega
  rcases uintS_err x0 with h0 | h5 | h6
  · obtain ⟨v, n, e, hu⟩ : ∃ v n e, uintS x0 = (v, n, e) := ⟨_, _, _, rfl⟩
    rw [hu] at h0
    obtain rfl : e = 0 := h0
    obtain ⟨v0, v1, hn0, hn1, hn2, he⟩ := uintS_short hb hu
    obtain ⟨k, rfl⟩ := Int.eq_ofNat_of_zero_le (show 0 ≤ n by omega)
    rw [Int.toNat_natCast] at he
    have hk : Hid ((vint v).length = k) := by show _ = _; rw [he, List.length_take]; omega
    have hkt : Hid ((x0.take k).length = k) := by show _ = _; rw [List.length_take]; omega
    have HE : Hid (decide (vint v = x0.take k) = true) := decide_eq_true he
    have HU := Lib.hid hu
    have HV := Lib.hid v1
    have hvb := vint_byt v0 v1
    have htb := hb.take k
    have hk0 : 0 < k := by omega
    have hkl : k ≤ x0.length := by omega
    have hkc : k ≤ c0 := by omega
    have d0 : decide (0 < k) = true := decide_eq_true hk0
    have d1 : decide (k ≤ x0.length) = true := decide_eq_true hkl
    clear hu v1 he
    go_enter Try.func5, Try.ntmps5
    go_wp2_with (go_at_call 19; refine (uint_is A0 c0 x0 _ hr hb hm HU).mono ?_; rintro e1 W1 ⟨rfl, rfl⟩)
    go_region_held3 (fun _ => True) (trivial) (first
      | (go_at_call 17; refine (awake_any _).mono ?_; rintro e1 W1 ⟨rfl, hb1⟩)
      | (go_at_call 15; refine (putNil_form v _ v0 HV hk).mono ?_; rintro e1 W2 ⟨Ab, cb, rfl, hcb, ho2, hr2, hb2⟩)
      | (go_at_call 18; refine (equal_is Ab A0 k k cb c0 (vint v) (x0.take k) _ (by exact hr2) (by exact (Rd.below (Rd.below (show Rd w.drew A0 x0 from hr) hb1) hb2).take k) hvb htb hk hkt HE).mono ?_; rintro e1 W3 ⟨rfl, rfl⟩))
    go_wp2
    go_ret
    exact ⟨rfl, nx (nx ((Below.refl _ _).drew) hb1) hb2⟩
  all_goals
    have hm' : x0.length ≤ maxLen := hm
    first | have HU := Lib.hid h5 | have HU := Lib.hid h6
    first | clear h5 | clear h6
    go_enter Try.func5, Try.ntmps5
    go_wp2_with (first
      | (go_at_call 19; refine (uint_is A0 c0 x0 _ hr hb hm' HU).mono ?_; rintro e1 W1 ⟨rfl, rfl⟩)
      | (go_at_call 17; refine (awake_any _).mono ?_; rintro e1 W2 ⟨rfl, hb2⟩))
    go_ret
    exact ⟨rfl, hb2⟩
end Go.Proofs.Ytodoiobhphahcaa
