/- FormulaClass walked. -/
import Derived.Test.YtecipjjnbikheaaFlw
namespace Go.Proofs.Ytecipjjnbikheaa
open Go.RowKit
set_option linter.unusedVariables false
set_option linter.unusedSimpArgs false
set_option maxHeartbeats 4000000 in
set_option maxRecDepth 20000 in
theorem FormulaClass_walk (k0 : Int) (s0 : ByteArray) (m0 u0 : Int) (A0 : Option Addr) (n0 c0 : Nat) (e0 : Ex) (w : World) (T0 : TIn (Lo w.heap.size) w ⟨k0, s0, m0, u0, A0, n0, c0⟩ e0) :
    Calls Try.prog 9 #[xe k0 s0 m0 u0 A0 n0 c0] w fun x w' => x = .returned (.bool true) ∧ Below w.heap.size w w' := by
  have hS : Hid (∀ W, Below (BE w k0 s0 m0 u0 A0 n0 c0).heap.size (BE w k0 s0 m0 u0 A0 n0 c0) W → S5 W w.heap.size k0 s0 m0 u0 A0 n0 c0 ∧ TIn (Lo W.heap.size) W ⟨k0, s0, m0, u0, A0, n0, c0⟩ e0) := fun W hW => be_all T0 hW
  clear T0
  by_cases hv : Vex e0
  · obtain ⟨L, hL0⟩ := VL.ex hv
    have hL := Lib.hid hL0
    obtain ⟨r, hr⟩ : ∃ r, Hid (cls e0 L = r) := ⟨_, rfl⟩
    clear hv hL0
    go_enter Try.func9, Try.ntmps9
    go_wp2
    go_region_held3 (fun W => Below (BE w k0 s0 m0 u0 A0 n0 c0).heap.size (BE w k0 s0 m0 u0 A0 n0 c0) W ∧ S5 W w.heap.size k0 s0 m0 u0 A0 n0 c0)
      (first
        | exact ⟨Below.refl _ _, (hS.out _ (Below.refl _ _)).1⟩
        | exact ⟨bdD (Below.refl _ _), (hS.out _ (bdD (Below.refl _ _))).1⟩
        | (go_split_ands; exact ⟨nx (by assumption) hb1, (hS.out _ (nx (by assumption) hb1)).1⟩))
      (first
        | (go_at_call 15; (with_reducible refine (awake8_any _).mono ?_); rintro x W1 ⟨rfl, hb1⟩)
        | (go_at_call 27; go_split_ands; (with_reducible refine (class8_yes k0 s0 m0 u0 A0 n0 c0 _ (hS.out _ ?_).2 hL hr).mono ?_); (· assumption); rintro x W1 ⟨rfl, hb1⟩)
        | (go_at_call 28; go_split_ands; (with_reducible refine (refClass_yes k0 s0 m0 u0 A0 n0 c0 _ (hS.out _ ?_).2 hL hr).mono ?_); (· assumption); rintro x W1 ⟨rfl, hb1⟩))
    all_goals (go_wp2; go_ret; go_split_ands; exact ⟨by simp, dn1 (by assumption)⟩)
  · have hn := Lib.hid hv
    clear hv
    go_enter Try.func9, Try.ntmps9
    go_wp2
    go_region_held3 (fun W => Below (BE w k0 s0 m0 u0 A0 n0 c0).heap.size (BE w k0 s0 m0 u0 A0 n0 c0) W ∧ S5 W w.heap.size k0 s0 m0 u0 A0 n0 c0)
      (first
        | exact ⟨Below.refl _ _, (hS.out _ (Below.refl _ _)).1⟩
        | exact ⟨bdD (Below.refl _ _), (hS.out _ (bdD (Below.refl _ _))).1⟩
        | (go_split_ands; exact ⟨nx (by assumption) hb1, (hS.out _ (nx (by assumption) hb1)).1⟩))
      (first
        | (go_at_call 15; (with_reducible refine (awake8_any _).mono ?_); rintro x W1 ⟨rfl, hb1⟩)
        | (go_at_call 27; go_split_ands; (with_reducible refine (class8_no k0 s0 m0 u0 A0 n0 c0 _ (hS.out _ ?_).2 hn).mono ?_); (· assumption); rintro x W1 ⟨rfl, hb1⟩)
        | (go_at_call 28; go_split_ands; (with_reducible refine (refClass_no k0 s0 m0 u0 A0 n0 c0 _ (hS.out _ ?_).2 hn).mono ?_); (· assumption); rintro x W1 ⟨rfl, hb1⟩))
    all_goals (go_wp2; go_ret; go_split_ands; exact ⟨by simp, dn1 (by assumption)⟩)
end Go.Proofs.Ytecipjjnbikheaa
