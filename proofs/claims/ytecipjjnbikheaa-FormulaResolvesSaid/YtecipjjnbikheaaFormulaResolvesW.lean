/- FormulaResolves walked. -/
import Derived.Test.YtecipjjnbikheaaFlw
namespace Go.Proofs.Ytecipjjnbikheaa
open Go.RowKit
set_option linter.unusedVariables false
set_option linter.unusedSimpArgs false
set_option maxHeartbeats 4000000 in
set_option maxRecDepth 20000 in
theorem FormulaResolves_walk (A0 : Option Addr) (n0 c0 : Nat) (x0 : List P4) (k1 : Int) (s1 : ByteArray) (m1 u1 : Int) (A1 : Option Addr) (n1 c1 : Nat) (e1 : Ex) (w : World) (w0 : InR w A0 n0 c0 x0) (T1 : TIn (Lo w.heap.size) w ⟨k1, s1, m1, u1, A1, n1, c1⟩ e1) :
    Calls Try.prog 11 #[.slice A0 n0 c0, xe k1 s1 m1 u1 A1 n1 c1] w fun x w' => x = .returned (.bool true) ∧ Below w.heap.size w w' := by
  have hS : Hid (∀ W, Below (BE w k1 s1 m1 u1 A1 n1 c1).heap.size (BE w k1 s1 m1 u1 A1 n1 c1) W → S5 W w.heap.size k1 s1 m1 u1 A1 n1 c1 ∧ TIn (Lo W.heap.size) W ⟨k1, s1, m1, u1, A1, n1, c1⟩ e1 ∧ InR W A0 n0 c0 x0) := fun W hW => ⟨(be_all T1 hW).1, (be_all T1 hW).2, w0.below (dn1 hW)⟩
  clear T1 w0
  by_cases hv : Vex e1
  · obtain ⟨L, hL0⟩ := VL.ex hv
    have hL := Lib.hid hL0
    obtain ⟨r, hr⟩ : ∃ r, Hid (firE x0 L = r) := ⟨_, rfl⟩
    clear hv hL0
    go_enter Try.func11, Try.ntmps11
    go_wp2
    go_region_held3 (fun W => Below (BE w k1 s1 m1 u1 A1 n1 c1).heap.size (BE w k1 s1 m1 u1 A1 n1 c1) W ∧ S5 W w.heap.size k1 s1 m1 u1 A1 n1 c1)
      (first
        | exact ⟨Below.refl _ _, (hS.out _ (Below.refl _ _)).1⟩
        | exact ⟨bdD (Below.refl _ _), (hS.out _ (bdD (Below.refl _ _))).1⟩
        | (go_split_ands; exact ⟨nx (by assumption) hb1, (hS.out _ (nx (by assumption) hb1)).1⟩))
      (first
        | (go_at_call 15; (with_reducible refine (awake8_any _).mono ?_); rintro x W1 ⟨rfl, hb1⟩)
        | (go_at_call 30; go_split_ands; (with_reducible refine (resolve8_yes x0 A0 n0 c0 k1 s1 m1 u1 A1 n1 c1 _ (hS.out _ ?_).2.2 (hS.out _ ?_).2.1 hL hr).mono ?_); (· assumption); (· assumption); rintro x W1 ⟨rfl, hb1⟩)
        | (go_at_call 31; go_split_ands; (with_reducible refine (refResolve8_yes x0 A0 n0 c0 k1 s1 m1 u1 A1 n1 c1 _ (hS.out _ ?_).2.2 (hS.out _ ?_).2.1 hL hr).mono ?_); (· assumption); (· assumption); rintro x W1 ⟨rfl, hb1⟩))
    all_goals (go_wp2; go_ret; go_split_ands; exact ⟨by simp, dn1 (by assumption)⟩)
  · have hn := Lib.hid hv
    clear hv
    go_enter Try.func11, Try.ntmps11
    go_wp2
    go_region_held3 (fun W => Below (BE w k1 s1 m1 u1 A1 n1 c1).heap.size (BE w k1 s1 m1 u1 A1 n1 c1) W ∧ S5 W w.heap.size k1 s1 m1 u1 A1 n1 c1)
      (first
        | exact ⟨Below.refl _ _, (hS.out _ (Below.refl _ _)).1⟩
        | exact ⟨bdD (Below.refl _ _), (hS.out _ (bdD (Below.refl _ _))).1⟩
        | (go_split_ands; exact ⟨nx (by assumption) hb1, (hS.out _ (nx (by assumption) hb1)).1⟩))
      (first
        | (go_at_call 15; (with_reducible refine (awake8_any _).mono ?_); rintro x W1 ⟨rfl, hb1⟩)
        | (go_at_call 30; go_split_ands; (with_reducible refine (resolve8_no x0 A0 n0 c0 k1 s1 m1 u1 A1 n1 c1 _ (hS.out _ ?_).2.2 (hS.out _ ?_).2.1 hn).mono ?_); (· assumption); (· assumption); rintro x W1 ⟨rfl, hb1⟩)
        | (go_at_call 31; go_split_ands; (with_reducible refine (refResolve8_no A0 n0 c0 k1 s1 m1 u1 A1 n1 c1 _ (hS.out _ ?_).2.1 hn).mono ?_); (· assumption); rintro x W1 ⟨rfl, hb1⟩))
    all_goals (go_wp2; go_ret; go_split_ands; exact ⟨by simp, dn1 (by assumption)⟩)
end Go.Proofs.Ytecipjjnbikheaa
