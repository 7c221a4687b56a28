/- FormulaPrunes walked. -/
import Derived.Test.YtecipjjnbikheaaFlw
namespace Go.Proofs.Ytecipjjnbikheaa
open Go.RowKit
set_option linter.unusedVariables false
set_option linter.unusedSimpArgs false
theorem refPrune_at {e : Ex} {L : List A3} {S X : List Bool} (k : Int) (s : ByteArray) (m u : Int) (A : Option Addr) (n c : Nat) (B : Option Addr) (q cq : Nat) (w : World) (hT : TIn (Lo w.heap.size) w ⟨k, s, m, u, A, n, c⟩ e) (hS : SI w S B q) (hL : Hid (VL e L)) (hX : Hid (prn e L S = X)) :
    Calls Try.prog 26 #[xe k s m u A n c, .slice B q cq] w (PrQ X w) := by
  rw [← hX.out]; exact refPrune_yes k s m u A n c B q cq w hT hS hL
set_option maxHeartbeats 4000000 in
set_option maxRecDepth 20000 in
theorem FormulaPrunes_walk (k0 : Int) (s0 : ByteArray) (m0 u0 : Int) (A0 : Option Addr) (n0 c0 : Nat) (e0 : Ex) (A1 : Option Addr) (n1 c1 : Nat) (x1 : List Bool) (w : World) (T0 : TIn (Lo w.heap.size) w ⟨k0, s0, m0, u0, A0, n0, c0⟩ e0) (w1 : InB w A1 n1 c1 x1) :
    Calls Try.prog 7 #[xe k0 s0 m0 u0 A0 n0 c0, .slice A1 n1 c1] w fun x w' => x = .returned (.bool true) ∧ Below w.heap.size w w' := by
  have hS : Hid (∀ W, Below (BE w k0 s0 m0 u0 A0 n0 c0).heap.size (BE w k0 s0 m0 u0 A0 n0 c0) W → S5 W w.heap.size k0 s0 m0 u0 A0 n0 c0 ∧ TIn (Lo W.heap.size) W ⟨k0, s0, m0, u0, A0, n0, c0⟩ e0 ∧ SI W x1 A1 n1) := fun W hW => ⟨(be_all T0 hW).1, (be_all T0 hW).2, w1.si.below (dn1 hW)⟩
  clear T0 w1
  by_cases hv : Vex e0
  · obtain ⟨L, hL0⟩ := VL.ex hv
    have hL := Lib.hid hL0
    obtain ⟨X, hX⟩ : ∃ X, Hid (prn e0 L x1 = X) := ⟨_, rfl⟩
    have hXl : X.length ≤ 1000000 := by rw [← hX.out, prn_len]; have := hL0.n8; omega
    obtain ⟨N, hN⟩ : ∃ N, Hid (X.length = N) := ⟨_, rfl⟩
    have hN8 : N ≤ 1000000 := by have := hN.out; omega
    clear hv hL0 hXl
    go_enter Try.func7, Try.ntmps7
    go_wp2
    go_region_held3 (fun W => Below (BE w k0 s0 m0 u0 A0 n0 c0).heap.size (BE w k0 s0 m0 u0 A0 n0 c0) W ∧ S5 W w.heap.size k0 s0 m0 u0 A0 n0 c0)
      (first
        | exact ⟨Below.refl _ _, (hS.out _ (Below.refl _ _)).1⟩
        | exact ⟨bdD (Below.refl _ _), (hS.out _ (bdD (Below.refl _ _))).1⟩
        | (go_split_ands; exact ⟨nx (by assumption) hb1, (hS.out _ (nx (by assumption) hb1)).1⟩))
      (first
        | (go_at_call 15; (with_reducible refine (awake8_any _).mono ?_); rintro x W1 ⟨rfl, hb1⟩)
        | (go_at_call 25; go_split_ands; (with_reducible refine (prune8_yes k0 s0 m0 u0 A0 n0 c0 A1 n1 c1 _ (hS.out _ ?_).2.1 (hS.out _ ?_).2.2 hL hX).mono ?_); (· assumption); (· assumption); rintro x W1 ⟨⟨A2, c2, rfl, hbr, hc⟩, hb1⟩; rw [hN.out]; have HR1 := Lib.hid hbr; clear hbr hc)
        | (go_at_call 26; go_split_ands; (with_reducible refine (refPrune_at k0 s0 m0 u0 A0 n0 c0 A1 n1 c1 _ (hS.out _ ?_).2.1 (hS.out _ ?_).2.2 hL hX).mono ?_); (· assumption); (· assumption); rintro x W1 ⟨⟨g2, c3, rfl, hbk⟩, hb1⟩; rw [hN.out]; have HR2 := Lib.hid hbk.br; have HR3 := Lib.hid (HR1.out.below hb1); clear hbk)
        | (go_at_call 24; (with_reducible refine (sameBools_is X _ N _ _ _ _ HR3.out HR2.out hN hN8).mono ?_); rintro x W1 ⟨rfl, hb1⟩))
    all_goals (go_wp2; go_ret; go_split_ands; exact ⟨by simp, dn1 (by assumption)⟩)
  · have hn := Lib.hid hv
    have hz : Hid (([] : List Bool).length = 0) := rfl
    clear hv
    go_enter Try.func7, Try.ntmps7
    go_wp2
    go_region_held3 (fun W => Below (BE w k0 s0 m0 u0 A0 n0 c0).heap.size (BE w k0 s0 m0 u0 A0 n0 c0) W ∧ S5 W w.heap.size k0 s0 m0 u0 A0 n0 c0)
      (first
        | exact ⟨Below.refl _ _, (hS.out _ (Below.refl _ _)).1⟩
        | exact ⟨bdD (Below.refl _ _), (hS.out _ (bdD (Below.refl _ _))).1⟩
        | (go_split_ands; exact ⟨nx (by assumption) hb1, (hS.out _ (nx (by assumption) hb1)).1⟩))
      (first
        | (go_at_call 15; (with_reducible refine (awake8_any _).mono ?_); rintro x W1 ⟨rfl, hb1⟩)
        | (go_at_call 25; go_split_ands; (with_reducible refine (prune8_no k0 s0 m0 u0 A0 n0 c0 A1 n1 c1 _ (hS.out _ ?_).2.1 (hS.out _ ?_).2.2 hn).mono ?_); (· assumption); (· assumption); rintro x W1 ⟨⟨A2, c2, rfl⟩, hb1⟩)
        | (go_at_call 26; go_split_ands; (with_reducible refine (refPrune_no k0 s0 m0 u0 A0 n0 c0 A1 n1 c1 _ (hS.out _ ?_).2.1 hn).mono ?_); (· assumption); rintro x W1 ⟨⟨g2, c3, rfl, hbk⟩, hb1⟩; rw [hz.out]; clear hbk)
        | (go_at_call 24; (with_reducible refine (sameBools_is [] _ 0 _ _ _ _ (BR.nil _ _) (BR.nil _ _) hz (by omega)).mono ?_); rintro x W1 ⟨rfl, hb1⟩))
    all_goals (go_wp2; go_ret; go_split_ands; exact ⟨by simp, dn1 (by assumption)⟩)
end Go.Proofs.Ytecipjjnbikheaa
