/- Contracts: the modes that one is not compatible with. -/
import Derived.Test.YtamagcffcepaeaaDoorMprs
import Derived.BigRegion
namespace Go.Proofs.YtamagcffcepaeaaDoor
set_option linter.unusedVariables false
open Go.RowKit

/-- The modes below k that m is not compatible with. -/
def cfp (m k : Int) : List Int := ([1, 2, 3, 4, 5] : List Int).filter fun n => decide (n < k) && !cpt m n
def cfl (m : Int) : List Int := if vmd m then cfp m 6 else []
theorem cfp_one (m : Int) : cfp m 1 = [] := by simp [cfp]
theorem cfp_yes {m k : Int} (hk : 1 ≤ k ∧ k ≤ 5) (h : cpt m k = true) : cfp m (k + 1) = cfp m k := by
  rcases md_cases hk with rfl | rfl | rfl | rfl | rfl <;> simp [cfp, List.filter, h]
theorem cfp_no {m k : Int} (hk : 1 ≤ k ∧ k ≤ 5) (h : cpt m k = false) : cfp m (k + 1) = cfp m k ++ [k] := by
  rcases md_cases hk with rfl | rfl | rfl | rfl | rfl <;> cases h1 : cpt m 1 <;> cases h2 : cpt m 2 <;> cases h3 : cpt m 3 <;> cases h4 : cpt m 4 <;> simp_all [cfp, List.filter]
theorem cfp_len (m k : Int) : (cfp m k).length ≤ 5 := Nat.le_trans (List.length_filter_le _ _) (by simp)

theorem cpt_is (a b : Int) (w : World) (hV : Vars w) {r : Bool} (h : Hid (cpt a b = r)) : Calls Tryd.prog 13 #[.int .i64 a, .int .i64 b] w fun e w' => e = .returned (.bool r) ∧ w = w' := by
  rw [← h.out]
  exact cpt_any a b w hV
theorem valid_is (a : Int) (w : World) {r : Bool} (h : Hid (vmd a = r)) : Calls Tryd.prog 11 #[.int .i64 a] w fun e w' => e = .returned (.bool r) ∧ w = w' := by
  rw [← h.out]
  exact valid_any a w
/-- What a call gives that makes a new row of integers. -/
def GivesI (w : World) (xs : List Int) (e : Ending) (w' : World) : Prop := ∃ V, e = .returned V ∧ OwnI w' w.heap.size V xs ∧ Below w.heap.size w w'
set_option maxHeartbeats 2000000 in
theorem conflicts_any (m : Int) (w : World) (hV : Vars w) : Calls Tryd.prog 21 #[.int .i64 m] w (GivesI w (cfl m)) := by
  have HV := Lib.hid hV
  clear hV
  obtain ⟨v, hv⟩ : ∃ v, Hid (vmd m = v) := ⟨_, rfl⟩
  cases v with
  | false =>
    have hc : cfl m = [] := by unfold cfl; rw [hv.out]; rfl
    rw [hc]
    clear hc
    go_enter Tryd.func21, Tryd.ntmps21
    go_wp2_with (first | (go_at_call 11; refine (valid_is _ _ hv).mono ?_; rintro e W1 ⟨rfl, rfl⟩))
    go_ret
    exact ⟨_, rfl, OwnI.nil _ _, Below.refl _ _⟩
  | true =>
    obtain ⟨ys, hys⟩ : ∃ ys, Hid (cfl m = ys) := ⟨_, rfl⟩
    have hfin : Hid (cfp m 6 = ys) := by show _ = _; rw [← hys.out]; unfold cfl; rw [hv.out]; rfl
    rw [hys.out]
    go_enter Tryd.func21, Tryd.ntmps21
    go_wp2_with (first | (go_at_call 11; refine (valid_is _ _ hv).mono ?_; rintro e W1 ⟨rfl, rfl⟩))
    go_loopw [3, 4] (fun s i wr => ∃ (k : Int), 1 ≤ k ∧ k ≤ 6 ∧ i = .int .i64 k ∧ Hid (OwnI wr w.heap.size s (cfp m k)) ∧ Hid (Below w.heap.size w wr)) (fun _ i _ => (6 - intOf i).toNat)
    case atStart => exact ⟨1, by omega, by omega, rfl, by show OwnI _ _ _ _; rw [cfp_one]; exact OwnI.nil _ _, Below.refl _ _⟩
    case round =>
      obtain ⟨k, hk, hk6, rfl, ho, hbl⟩ := hrel
      by_cases hlt : k ≤ 5
      · have e5 : IntKind.i64.wrap (k + 1) = k + 1 := by rw [IntKind.wrap_i64]; omega
        obtain ⟨c, hc⟩ : ∃ c, Hid (cpt m k = c) := ⟨_, rfl⟩
        cases c with
        | true =>
          have hstep : Hid (cfp m (k + 1) = cfp m k) := cfp_yes ⟨hk, hlt⟩ hc.out
          go_wp2_with (first | (go_at_call 13; refine (cpt_is _ _ _ (HV.out.below hbl.out) hc).mono ?_; rintro e W1 ⟨rfl, rfl⟩))
          go_roundw
          case rel => exact ⟨k + 1, by omega, by omega, rfl, by show OwnI _ _ _ _; rw [hstep.out]; exact ho.out, hbl⟩
          case measure => simp [intOf]; omega
        | false =>
          have hstep : Hid (cfp m (k + 1) = cfp m k ++ [k]) := cfp_no ⟨hk, hlt⟩ hc.out
          go_wp2_with (first
            | (go_at_call 13; refine (cpt_is _ _ _ (HV.out.below hbl.out) hc).mono ?_; rintro e W1 ⟨rfl, rfl⟩)
            | (at_builtin; (refine app_int rfl (.tmp 16) (.tmp 18) rfl w.heap.size _ (cfp m k) _ k rfl rfl (ho.out.below (newB _ _)) (by simp) (by show _ ≤ _; have := cfp_len m k; omega) (nxA hbl.out _).size ?_); intro V' W' ho' hb'))
          go_roundw
          case rel => exact ⟨k + 1, by omega, by omega, rfl, by show OwnI _ _ _ _; rw [hstep.out]; exact ho', (nxA hbl.out _).trans hb'⟩
          case measure => simp [intOf]; omega
      · have hk' : Hid (k = 6) := by show _ = _; omega
        go_wp2
        go_ret
        refine ⟨_, rfl, ?_, hbl.out⟩
        rw [← hfin.out, ← hk'.out]
        exact ho.out
end Go.Proofs.YtamagcffcepaeaaDoor
