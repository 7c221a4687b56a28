/- FormulaAtoms walked. -/
import Derived.Test.YtecipjjnbikheaaFlw
namespace Go.Proofs.Ytecipjjnbikheaa
open Go.RowKit
set_option linter.unusedVariables false
set_option linter.unusedSimpArgs false
set_option maxHeartbeats 4000000 in
set_option maxRecDepth 20000 in
theorem FormulaAtoms_walk (k0 : Int) (s0 : ByteArray) (m0 u0 : Int) (A0 : Option Addr) (n0 c0 : Nat) (e0 : Ex) (w : World) (T0 : TIn (Lo w.heap.size) w ⟨k0, s0, m0, u0, A0, n0, c0⟩ e0) :
    Calls Try.prog 3 #[xe k0 s0 m0 u0 A0 n0 c0] w fun x w' => x = .returned (.bool true) ∧ Below w.heap.size w w' := by
  have hS : Hid (∀ W, Below (BE w k0 s0 m0 u0 A0 n0 c0).heap.size (BE w k0 s0 m0 u0 A0 n0 c0) W → S5 W w.heap.size k0 s0 m0 u0 A0 n0 c0 ∧ TIn (Lo W.heap.size) W ⟨k0, s0, m0, u0, A0, n0, c0⟩ e0) := fun W hW => be_all T0 hW
  clear T0
  by_cases hv : Vex e0
  · obtain ⟨L, hL0⟩ := VL.ex hv
    have hL := Lib.hid hL0
    obtain ⟨N, hN⟩ : ∃ N, Hid (L.length = N) := ⟨_, rfl⟩
    have hN8 : N ≤ 8 := by have h1 := hL0.n8; have h2 := hN.out; omega
    clear hv hL0
    go_enter Try.func3, Try.ntmps3
    go_wp2
    go_region_held3 (fun W => Below (BE w k0 s0 m0 u0 A0 n0 c0).heap.size (BE w k0 s0 m0 u0 A0 n0 c0) W ∧ S5 W w.heap.size k0 s0 m0 u0 A0 n0 c0)
      (first
        | exact ⟨Below.refl _ _, (hS.out _ (Below.refl _ _)).1⟩
        | exact ⟨bdD (Below.refl _ _), (hS.out _ (bdD (Below.refl _ _))).1⟩
        | (go_split_ands; exact ⟨nx (by assumption) hb1, (hS.out _ (nx (by assumption) hb1)).1⟩))
      (first
        | (go_at_call 13; go_split_ands; (with_reducible refine (atoms8_yes k0 s0 m0 u0 A0 n0 c0 _ (hS.out _ ?_).2 hL).mono ?_); (· assumption); rintro x W1 ⟨⟨A2, n2, c2, rfl, hn2, hq2⟩, hb1⟩; have hnn : n2 = N := hn2.symm.trans hN.out; subst hnn; have HR1 := Lib.hid hq2; clear hq2 hn2)
        | (go_at_call 14; go_split_ands; (with_reducible refine (refAtoms_yes k0 s0 m0 u0 A0 n0 c0 _ (hS.out _ ?_).2 hL).mono ?_); (· assumption); rintro x W1 ⟨⟨A4, n3, c3, rfl, hn3, hq3⟩, hb1⟩; have hnn : n3 = n2 := hn3.symm.trans hN.out; subst hnn; have HR2 := Lib.hid hq3; have HR3 := Lib.hid (HR1.out.below hb1); clear hq3 hn3))
    all_goals (
      go_split_ands
      have hbw : Below (BE w k0 s0 m0 u0 A0 n0 c0).heap.size (BE w k0 s0 m0 u0 A0 n0 c0) W1 := by assumption
      have HBW := Lib.hid (dn1 hbw)
      go_wp2_with (go_at_call 15; (with_reducible refine (awake8_any _).mono ?_); rintro x W2 ⟨rfl, hb2⟩; have HB2 := Lib.hid hb2; clear hb2)
      go_loopw [5] (fun i wr => ∃ (j : Nat), j ≤ n3 ∧ i = .int .i64 j ∧ Hid (Below W1.heap.size W1 wr)) (fun i _ => n3 - (intOf i).toNat)
      case atStart => exact ⟨0, by omega, rfl, HB2.out⟩
      case round =>
        obtain ⟨j, hj, rfl, hB⟩ := hrel
        by_cases hlt : (j : Int) < (n3 : Int)
        · have e5 : IntKind.i64.wrap ((j : Int) + 1) = (j : Int) + 1 := by rw [IntKind.wrap_i64]; omega
          obtain ⟨g, o, s1, m1, u1, hA2, hg, hx, x1, x2, x3⟩ := (HR3.out.below hB.out).at_ (i := j) (by have := hN.out; omega)
          obtain ⟨g', o', s2, m2, u2, hA4, hg', hx', y1, y2, y3⟩ := (HR2.out.below hB.out).at_ (i := j) (by have := hN.out; omega)
          subst hA2 hA4
          have he := hx.out.symm.trans hx'.out
          simp only [Prod.mk.injEq] at he
          obtain ⟨rfl, rfl, rfl⟩ := he
          have hne : ∀ W : World, (binOp .neq 25 (av s1 m1 u1) (av s1 m1 u1)).run Try.prog W = .ok (.bool false) W := fun W => by rw [neAtom, eqS_iff.2 rfl]; simp
          go_wp2
          go_quiet (fail)
          go_wp2
          exact ⟨⟨j + 1, by omega, by go_num, bdN hB.out _⟩, by simp [intOf]; omega⟩
        · go_wp2
          go_ret
          exact ⟨rfl, HBW.out.trans (hB.out.mono HBW.out.size)⟩)
  · have hn := Lib.hid hv
    clear hv
    go_enter Try.func3, Try.ntmps3
    go_wp2
    go_region_held3 (fun W => Below (BE w k0 s0 m0 u0 A0 n0 c0).heap.size (BE w k0 s0 m0 u0 A0 n0 c0) W ∧ S5 W w.heap.size k0 s0 m0 u0 A0 n0 c0)
      (first
        | exact ⟨Below.refl _ _, (hS.out _ (Below.refl _ _)).1⟩
        | exact ⟨bdD (Below.refl _ _), (hS.out _ (bdD (Below.refl _ _))).1⟩
        | (go_split_ands; exact ⟨nx (by assumption) hb1, (hS.out _ (nx (by assumption) hb1)).1⟩))
      (first
        | (go_at_call 13; go_split_ands; (with_reducible refine (atoms8_no k0 s0 m0 u0 A0 n0 c0 _ (hS.out _ ?_).2 hn).mono ?_); (· assumption); rintro x W1 ⟨⟨A2, c2, rfl⟩, hb1⟩)
        | (go_at_call 14; go_split_ands; (with_reducible refine (refAtoms_no k0 s0 m0 u0 A0 n0 c0 _ (hS.out _ ?_).2 hn).mono ?_); (· assumption); rintro x W1 ⟨rfl, hb1⟩))
    all_goals (
      go_split_ands
      have hbw : Below (BE w k0 s0 m0 u0 A0 n0 c0).heap.size (BE w k0 s0 m0 u0 A0 n0 c0) W1 := by assumption
      have HBW := Lib.hid (dn1 hbw)
      go_wp2_with (go_at_call 15; (with_reducible refine (awake8_any _).mono ?_); rintro x W2 ⟨rfl, hb2⟩; have HB2 := Lib.hid hb2; clear hb2)
      go_loopw [5] (fun i wr => i = .int .i64 0 ∧ Hid (Below W1.heap.size W1 wr)) (fun _ _ => 0)
      case atStart => exact ⟨rfl, HB2.out⟩
      case round =>
        obtain ⟨rfl, hB⟩ := hrel
        go_wp2
        go_ret
        exact ⟨rfl, HBW.out.trans (hB.out.mono HBW.out.size)⟩)
end Go.Proofs.Ytecipjjnbikheaa
