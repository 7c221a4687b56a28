/- ModeConflicts walked. -/
import Derived.Test.YtamagcffcepaeaaDoorMawake
import Derived.BigQuiet
namespace Go.Proofs.YtamagcffcepaeaaDoor
set_option linter.unusedVariables false
open Go.RowKit
theorem cfl_mem (m n : Int) : (n ∈ cfl m) ↔ (vmd m = true ∧ vmd n = true ∧ cpt m n = false) := by
  unfold cfl
  by_cases h : vmd m = true
  · rw [if_pos h]
    unfold cfp
    rw [List.mem_filter]
    simp only [Bool.and_eq_true, decide_eq_true_eq, Bool.not_eq_true', h, true_and]
    constructor
    · rintro ⟨h1, h2, h3⟩
      refine ⟨?_, h3⟩
      simp at h1
      unfold vmd
      simp
      omega
    · rintro ⟨h1, h2⟩
      refine ⟨?_, ?_, h2⟩
      · rcases md_cases (vmd_true h1) with rfl | rfl | rfl | rfl | rfl <;> simp
      · have := vmd_true h1; omega
  · rw [if_neg h]
    simp [h]
theorem cfl_asc (m : Int) : (cfl m).Pairwise (· < ·) := by
  unfold cfl cfp
  split
  · exact List.Pairwise.filter _ (by decide)
  · exact List.Pairwise.nil
theorem cfl_len (m : Int) : (cfl m).length ≤ 5 := by
  unfold cfl
  split
  · exact cfp_len _ _
  · simp
theorem asc_at {l : List Int} (h : l.Pairwise (· < ·)) {k : Nat} (hk : k + 1 < l.length) : l.getD k 0 < l.getD (k + 1) 0 := by
  have := List.pairwise_iff_getElem.1 h k (k + 1) (by omega) hk (by omega)
  rw [List.getD_eq_getElem?_getD, List.getD_eq_getElem?_getD, List.getElem?_eq_getElem hk, List.getElem?_eq_getElem (show k < l.length by omega)]
  exact this
theorem refCpt_is (a b : Int) (w : World) {r : Bool} (h : Hid (cpt a b = r)) : Calls Tryd.prog 14 #[.int .i64 a, .int .i64 b] w fun e w' => e = .returned (.bool r) ∧ w = w' := by
  rw [← h.out]
  exact refCpt_any a b w
set_option maxHeartbeats 1000000 in
set_option maxRecDepth 8000 in
theorem ModeConflicts_walk (a0 : Int) (a1 : Int) (w : World) (hV : Vars w) (w0 : (Lit.int .i64 a0).wf = true) (w1 : (Lit.int .i64 a1).wf = true) :
    Calls Tryd.prog 8 #[.int .i64 a0, .int .i64 a1] w fun e w' => e = .returned (.bool true) ∧ Below w.heap.size w w' := by
  have HV := Lib.hid hV
  clear hV w0 w1
  obtain ⟨xs, hxs⟩ : ∃ xs, Hid (cfl a0 = xs) := ⟨_, rfl⟩
  obtain ⟨n, hn⟩ : ∃ n, Hid (xs.length = n) := ⟨_, rfl⟩
  have hn5 : Hid (n ≤ 5) := by show _ ≤ _; rw [← hn.out, ← hxs.out]; exact cfl_len _
  have hasc : Hid (xs.Pairwise (· < ·)) := by show List.Pairwise _ _; rw [← hxs.out]; exact cfl_asc _
  have hmem : Hid (∀ y, y ∈ xs ↔ (vmd a0 = true ∧ vmd y = true ∧ cpt a0 y = false)) := fun y => by rw [← hxs.out]; exact cfl_mem _ _
  go_enter Tryd.func8, Tryd.ntmps8
  go_wp2_with (first
    | (go_at_call 21; refine (conflicts_is _ _ HV.out hxs hn).mono ?_; rintro e W1 ⟨A, c, rfl, hAc, hA, hb1⟩; have HR := Lib.hid hA; clear hA))
  go_loopw [6, 7] (fun s i wr => ∃ (k : Nat) (b : Bool), k ≤ n ∧ i = .int .i64 (k : Int) ∧ s = .bool b ∧ Hid (decide (a1 ∈ xs.take k) = b) ∧ Hid (Below W1.heap.size W1 wr)) (fun _ i _ => n - (intOf i).toNat)
  case atStart => exact ⟨0, false, by omega, rfl, rfl, by show _ = _; simp, Below.refl _ _⟩
  case round =>
    obtain ⟨k, b, hk, rfl, rfl, hb, hw⟩ := hrel
    by_cases hlt : (k : Int) < (n : Int)
    · obtain ⟨gg, o, rfl, hgg, hc⟩ := (HR.out.below hw.out).at_ (i := k) (by have := hn.out; omega)
      obtain ⟨x, hx⟩ : ∃ x, Hid (xs.getD k 0 = x) := ⟨_, rfl⟩
      rw [hx.out] at hc
      have hv : Hid (vmd x = true) := by
        show _ = _
        rw [← hx.out]
        exact ((hmem.out _).1 (getD_mem (by have := hn.out; omega))).2.1
      have e5 : IntKind.i64.wrap ((k : Int) + 1) = (k : Int) + 1 := by have := hn5.out; rw [IntKind.wrap_i64]; omega
      have hstep : Hid (decide (a1 ∈ xs.take (k + 1)) = (b || (x == a1))) := by
        show _ = _
        rw [take_snoc (by have := hn.out; omega), hx.out, ← hb.out, Bool.eq_iff_iff]
        simp [eq_comm (a := a1) (b := x)]
      cases k with
      | zero =>
        rw [Nat.add_zero] at hc
        obtain rfl : b = false := by rw [← hb.out]; simp
        go_wp2
        go_big_quiet ((go_at_call 11; exact Calls.quiet_of_same ((valid_is _ _ hv).mono fun _ _ h => ⟨h.1, h.2.symm⟩)))
        go_wp2
        go_roundw
        case rel => exact ⟨1, _, by omega, by go_num, rfl, hstep, bdN hw.out nq⟩
        case measure => simp [intOf]; omega
      | succ j =>
        obtain ⟨gg', o', hge, _, hcj⟩ := (HR.out.below hw.out).at_ (i := j) (by have := hn.out; omega)
        cases hge
        obtain ⟨y, hy⟩ : ∃ y, Hid (xs.getD j 0 = y) := ⟨_, rfl⟩
        rw [hy.out] at hcj
        have hyx : y < x := by rw [← hy.out, ← hx.out]; exact asc_at hasc.out (by have := hn.out; omega)
        have hyx' : decide (x ≤ y) = false := by simp; omega
        have e6 : IntKind.i64.wrap (j : Int) = (j : Int) := by have := hn5.out; rw [IntKind.wrap_i64]; omega
        have e5' : IntKind.i64.wrap ((j : Int) + 1 + 1) = (j : Int) + 1 + 1 := by have := hn5.out; rw [IntKind.wrap_i64]; omega
        have hj5 : (j : Int) ≤ 5 := by have := hn5.out; omega
        have e7 : (j : Int) < (n : Int) := by omega
        have e8 : 0 < (j : Int) + 1 := by omega
        have e9 : (j : Int) + 1 < (n : Int) := by omega
        cases b with
        | true =>
          go_wp2
          go_big_quiet ((go_at_call 11; exact Calls.quiet_of_same ((valid_is _ _ hv).mono fun _ _ h => ⟨h.1, h.2.symm⟩)))
          go_wp2
          go_roundw
          case rel => exact ⟨j + 1 + 1, _, by omega, by go_num, rfl, hstep, bdN hw.out nq⟩
          case measure => simp [intOf]; omega
        | false =>
          go_wp2
          go_big_quiet ((go_at_call 11; exact Calls.quiet_of_same ((valid_is _ _ hv).mono fun _ _ h => ⟨h.1, h.2.symm⟩)))
          go_wp2
          go_roundw
          case rel => exact ⟨j + 1 + 1, _, by omega, by go_num, rfl, hstep, bdN hw.out nq⟩
          case measure => simp [intOf]; omega
    · have hfin : Hid (decide (a1 ∈ xs) = b) := by
        show _ = _
        rw [← hb.out, List.take_of_length_le (by have := hn.out; omega)]
      obtain ⟨v, hv⟩ : ∃ v, Hid (vmd a0 = v) := ⟨_, rfl⟩
      obtain ⟨v', hv'⟩ : ∃ v, Hid (vmd a1 = v) := ⟨_, rfl⟩
      obtain ⟨p, hp⟩ : ∃ p, Hid (cpt a0 a1 = p) := ⟨_, rfl⟩
      have hlast : Hid (b = (v && (v' && !p))) := by
        show _ = _
        rw [← hfin.out, ← hv.out, ← hv'.out, ← hp.out, Bool.eq_iff_iff]
        simp [hmem.out a1]
      have tok : True := trivial
      go_wp2_with (first
        | (go_at_call 10; refine (awake_any _ (HV.out.below (nx hb1 hw.out))).mono ?_; rintro e W2 ⟨rfl, hb2⟩)
        | (have _t := tok; go_at_call 12; refine (refValid_is _ _ hv).mono ?_; rintro e W3 ⟨rfl, rfl⟩; clear tok)
        | (go_at_call 12; refine (refValid_is _ _ hv').mono ?_; rintro e W3 ⟨rfl, rfl⟩)
        | (go_at_call 14; refine (refCpt_is _ _ _ hp).mono ?_; rintro e W3 ⟨rfl, rfl⟩))
      all_goals (go_ret; refine ⟨ret_bool ?_, nx (nx hb1 hw.out) hb2⟩; rw [hlast.out]; simp [*])
end Go.Proofs.YtamagcffcepaeaaDoor
