/- NormalBlocking walked. -/
import Derived.Test.YtohjllnfnkajjaaGreatQ11
namespace Go.Proofs.YtohjllnfnkajjaaGreat
open Go.RowKit
set_option linter.unusedVariables false
set_option linter.unusedSimpArgs false
set_option maxHeartbeats 4000000 in
set_option maxRecDepth 20000 in
theorem NormalBlocking_walk (k0 : Int) (s0 : ByteArray) (m0 u0 : Int) (A0 : Option Addr) (n0 c0 : Nat) (e0 : Ex) (w : World) (T0 : TIn (Lo w.heap.size) w ⟨k0, s0, m0, u0, A0, n0, c0⟩ e0) :
    Calls Tryz.prog 3 #[xe k0 s0 m0 u0 A0 n0 c0] w fun x w' => x = .returned (.bool true) ∧ Below w.heap.size w w' := by
  have hS : Hid (∀ W, Below (BE w k0 s0 m0 u0 A0 n0 c0).heap.size (BE w k0 s0 m0 u0 A0 n0 c0) W → S5 W w.heap.size k0 s0 m0 u0 A0 n0 c0 ∧ TIn (Lo W.heap.size) W ⟨k0, s0, m0, u0, A0, n0, c0⟩ e0) := fun W hW => be_all T0 hW
  clear T0
  go_enter Tryz.func3, Tryz.ntmps3
  go_wp2
  go_region_held3 (fun W => Below (BE w k0 s0 m0 u0 A0 n0 c0).heap.size (BE w k0 s0 m0 u0 A0 n0 c0) W ∧ S5 W w.heap.size k0 s0 m0 u0 A0 n0 c0)
  (first
    | exact ⟨Below.refl _ _, (hS.out _ (Below.refl _ _)).1⟩
    | exact ⟨bdD (Below.refl _ _), (hS.out _ (bdD (Below.refl _ _))).1⟩
    | (go_split_ands; exact ⟨nx (by assumption) hb1, (hS.out _ (nx (by assumption) hb1)).1⟩))
  (first
    | (go_at_call 7; (with_reducible refine (awake9_any _).mono ?_); rintro x W1 ⟨rfl, hb1⟩)
    | (go_at_call 9; go_split_ands; (with_reducible refine (pblk_is k0 s0 m0 u0 A0 n0 c0 _ (hS.out _ ?_).2).mono ?_); (· assumption); rintro x W1 ⟨⟨X, A2, c2, rfl, hP, hR, hc⟩, hb1⟩; have HR1 := Lib.hid hR; have HP1 := Lib.hid hP; obtain ⟨N, hN⟩ : ∃ N, Hid (X.length = N) := ⟨_, Lib.hid rfl⟩; rw [hN.out]; clear hP hR hc)
    | (go_at_call 10; go_split_ands; (with_reducible refine (rblk_is k0 s0 m0 u0 A0 n0 c0 _ (hS.out _ ?_).2).mono ?_); (· assumption); rintro x W1 ⟨⟨Y, A3, c3, rfl, hP, hR, hc⟩, hb1⟩; have hXY := hP.uniq HP1.out; subst hXY; rw [hN.out]; have HR2 := Lib.hid hR; have HR3 := Lib.hid (HR1.out.below hb1); have hN1 : Hid ((ofN Y).length = N) := Lib.hid (by rw [List.length_map, hN.out]); have hNk : N ≤ 1000 := (by have h1 := HP1.out.few.1; rw [hN.out] at h1; exact h1); have hfew := Lib.hid (ofN_few HP1.out.few.2); clear hP hR hc)
    | (go_at_call 8; (refine (sameSets_is (ofN Y) (ofN Y) A2 N c2 A3 N c3 _ true HR3.out HR2.out hN1 hN1 hfew hNk (Lib.hid (decide_eq_true rfl))).mono ?_); rintro x W1 ⟨rfl, hb1⟩))
  all_goals (go_wp2; go_ret; go_split_ands; exact ⟨by simp, dn1 (by assumption)⟩)
end Go.Proofs.YtohjllnfnkajjaaGreat
