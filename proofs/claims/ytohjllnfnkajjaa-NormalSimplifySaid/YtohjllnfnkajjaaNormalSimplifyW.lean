/- NormalSimplify walked. -/
import Derived.Test.YtohjllnfnkajjaaQ11
namespace Go.Proofs.Ytohjllnfnkajjaa
open Go.RowKit
set_option linter.unusedVariables false
set_option linter.unusedSimpArgs false
set_option maxHeartbeats 4000000 in
set_option maxRecDepth 20000 in
theorem NormalSimplify_walk (k0 : Int) (s0 : ByteArray) (m0 u0 : Int) (A0 : Option Addr) (n0 c0 : Nat) (e0 : Ex) (w : World) (T0 : TIn (Lo w.heap.size) w ⟨k0, s0, m0, u0, A0, n0, c0⟩ e0) :
    Calls Try.prog 8 #[xe k0 s0 m0 u0 A0 n0 c0] w fun x w' => x = .returned (.bool true) ∧ Below w.heap.size w w' := by
  have hS : Hid (∀ W, Below (BE w k0 s0 m0 u0 A0 n0 c0).heap.size (BE w k0 s0 m0 u0 A0 n0 c0) W → S5 W w.heap.size k0 s0 m0 u0 A0 n0 c0 ∧ TIn (Lo W.heap.size) W ⟨k0, s0, m0, u0, A0, n0, c0⟩ e0) := fun W hW => be_all T0 hW
  have hs1 : Hid (sameB (smp9 e0) (smp9 e0) = true) := Lib.hid (sameB_iff.2 rfl)
  clear T0
  go_enter Try.func8, Try.ntmps8
  go_wp2
  go_region_held3 (fun W => Below (BE w k0 s0 m0 u0 A0 n0 c0).heap.size (BE w k0 s0 m0 u0 A0 n0 c0) W ∧ S5 W w.heap.size k0 s0 m0 u0 A0 n0 c0)
  (first
    | exact ⟨Below.refl _ _, (hS.out _ (Below.refl _ _)).1⟩
    | exact ⟨bdD (Below.refl _ _), (hS.out _ (bdD (Below.refl _ _))).1⟩
    | (go_split_ands; exact ⟨nx (by assumption) hb1, (hS.out _ (nx (by assumption) hb1)).1⟩))
  (first
    | (go_at_call 10; (with_reducible refine (awake9_any _).mono ?_); rintro x W1 ⟨rfl, hb1⟩)
    | (go_at_call 28; go_split_ands; (with_reducible refine (psimp_is k0 s0 m0 u0 A0 n0 c0 _ (hS.out _ ?_).2).mono ?_); (· assumption); rintro x W1 ⟨⟨k1, s1, m1, u1, A1, n1, c1, rfl, ht⟩, hb1⟩; have HT1 := Lib.hid ht; clear ht)
    | (go_at_call 29; go_split_ands; (with_reducible refine (rsimp_is k0 s0 m0 u0 A0 n0 c0 _ (hS.out _ ?_).2).mono ?_); (· assumption); rintro x W1 ⟨⟨k2, s2, m2, u2, A2, n2, c2, rfl, ht⟩, hb1⟩; have HT2 := Lib.hid ht; have HT3 := Lib.hid (HT1.out.up hb1); clear ht)
    | (go_at_call 19; (refine (sx_all (smp9 e0) (smp9 e0) k1 s1 m1 u1 A1 n1 c1 k2 s2 m2 u2 A2 n2 c2 _ true HT3 HT2 hs1).mono ?_); rintro x W1 ⟨rfl, hb1⟩))
  all_goals (go_wp2; go_ret; go_split_ands; exact ⟨by simp, dn1 (by assumption)⟩)
end Go.Proofs.Ytohjllnfnkajjaa
