/- Contracts: the weakest mode that covers two. -/
import Derived.Test.YtbddgdicnonadaaDoorMcmp
namespace Go.Proofs.YtbddgdicnonadaaDoor
set_option linter.unusedVariables false
open Go.RowKit

theorem covers_is (a b : Int) (w : World) {r : Bool} (h : Hid (cov a b = r)) : Calls Tryd.prog 33 #[.int .i64 a, .int .i64 b] w fun e w' => e = .returned (.bool r) ∧ w = w' := by
  rw [← h.out]
  exact covers_any a b w
theorem refCovers_is (a b : Int) (w : World) {r : Bool} (h : Hid (cov a b = r)) : Calls Tryd.prog 35 #[.int .i64 a, .int .i64 b] w fun e w' => e = .returned (.bool r) ∧ w = w' := by
  rw [← h.out]
  exact refCovers_any a b w

set_option maxHeartbeats 1000000 in
theorem sup_any (a b : Int) (w : World) : Calls Tryd.prog 36 #[.int .i64 a, .int .i64 b] w fun e w' => e = .returned (.int .i64 (sup a b)) ∧ w = w' := by
  obtain ⟨r, hr⟩ : ∃ r, Hid (sup a b = r) := ⟨_, rfl⟩
  rw [hr.out]
  go_enter Tryd.func36, Tryd.ntmps36
  go_wp2
  go_loopw [5] (fun i wr => ∃ (k : Int), 1 ≤ k ∧ k ≤ 6 ∧ i = .int .i64 k ∧ Hid (w = wr) ∧ Hid (∀ j, 1 ≤ j → j < k → ¬ (cov j a = true ∧ cov j b = true))) (fun i _ => (6 - intOf i).toNat)
  case atStart => exact ⟨1, by omega, by omega, rfl, rfl, fun j h1 h2 => by omega⟩
  case round =>
    obtain ⟨k, hk, hk6, rfl, hw, hno⟩ := hrel
    have hw' := hw.out
    subst hw'
    by_cases hlt : k ≤ 5
    · have e5 : IntKind.i64.wrap (k + 1) = k + 1 := by rw [IntKind.wrap_i64]; omega
      obtain ⟨p, hp⟩ : ∃ p, Hid (cov k a = p) := ⟨_, rfl⟩
      obtain ⟨q, hq⟩ : ∃ q, Hid (cov k b = q) := ⟨_, rfl⟩
      cases p with
      | false =>
        have hno2 : Hid (∀ j, 1 ≤ j → j < k + 1 → ¬ (cov j a = true ∧ cov j b = true)) := fun j h1 h2 e => by
          by_cases hjk : j = k
          · subst hjk
            rw [hp.out] at e
            cases e.1
          · exact hno.out j h1 (by omega) e
        go_wp2_with (first | (go_at_call 33; refine (covers_is _ _ _ hp).mono ?_; rintro e W1 ⟨rfl, rfl⟩))
        go_roundw
        case rel => exact ⟨k + 1, by omega, by omega, rfl, trivial, hno2⟩
        case measure => simp [intOf]; omega
      | true =>
        cases q with
        | false =>
          have hno2 : Hid (∀ j, 1 ≤ j → j < k + 1 → ¬ (cov j a = true ∧ cov j b = true)) := fun j h1 h2 e => by
            by_cases hjk : j = k
            · subst hjk
              rw [hq.out] at e
              cases e.2
            · exact hno.out j h1 (by omega) e
          have tok : True := trivial
          go_wp2_with (first
            | (have _t := tok; go_at_call 33; refine (covers_is _ _ _ hp).mono ?_; rintro e W1 ⟨rfl, rfl⟩; clear tok)
            | (go_at_call 33; refine (covers_is _ _ _ hq).mono ?_; rintro e W1 ⟨rfl, rfl⟩))
          go_roundw
          case rel => exact ⟨k + 1, by omega, by omega, rfl, trivial, hno2⟩
          case measure => simp [intOf]; omega
        | true =>
          have hsup := sup_hit hp.out hq.out hno.out
          have hend : Hid (r = k) := by show _ = _; rw [← hr.out]; exact hsup
          clear hsup
          have tok : True := trivial
          go_wp2_with (first
            | (have _t := tok; go_at_call 33; refine (covers_is _ _ _ hp).mono ?_; rintro e W1 ⟨rfl, rfl⟩; clear tok)
            | (go_at_call 33; refine (covers_is _ _ _ hq).mono ?_; rintro e W1 ⟨rfl, rfl⟩))
          go_ret
          exact ⟨ret_i64 hend.out.symm, rfl⟩
    · have hend : Hid (r = 0) := by show _ = _; rw [← hr.out]; exact sup_miss (fun j h1 h2 => hno.out j h1 (by omega))
      go_wp2
      go_ret
      exact ⟨ret_i64 hend.out.symm, rfl⟩

set_option maxHeartbeats 1000000 in
theorem refSup_any (a b : Int) (w : World) : Calls Tryd.prog 37 #[.int .i64 a, .int .i64 b] w fun e w' => e = .returned (.int .i64 (sup a b)) ∧ w = w' := by
  obtain ⟨r, hr⟩ : ∃ r, Hid (sup a b = r) := ⟨_, rfl⟩
  rw [hr.out]
  go_enter Tryd.func37, Tryd.ntmps37
  go_wp2
  go_loopw [5] (fun i wr => ∃ (k : Int), 1 ≤ k ∧ k ≤ 6 ∧ i = .int .i64 k ∧ Hid (w = wr) ∧ Hid (∀ j, 1 ≤ j → j < k → ¬ (cov j a = true ∧ cov j b = true))) (fun i _ => (6 - intOf i).toNat)
  case atStart => exact ⟨1, by omega, by omega, rfl, rfl, fun j h1 h2 => by omega⟩
  case round =>
    obtain ⟨k, hk, hk6, rfl, hw, hno⟩ := hrel
    have hw' := hw.out
    subst hw'
    by_cases hlt : k ≤ 5
    · have e5 : IntKind.i64.wrap (k + 1) = k + 1 := by rw [IntKind.wrap_i64]; omega
      obtain ⟨p, hp⟩ : ∃ p, Hid (cov k a = p) := ⟨_, rfl⟩
      obtain ⟨q, hq⟩ : ∃ q, Hid (cov k b = q) := ⟨_, rfl⟩
      cases p with
      | false =>
        have hno2 : Hid (∀ j, 1 ≤ j → j < k + 1 → ¬ (cov j a = true ∧ cov j b = true)) := fun j h1 h2 e => by
          by_cases hjk : j = k
          · subst hjk
            rw [hp.out] at e
            cases e.1
          · exact hno.out j h1 (by omega) e
        go_wp2_with (first | (go_at_call 35; refine (refCovers_is _ _ _ hp).mono ?_; rintro e W1 ⟨rfl, rfl⟩))
        go_roundw
        case rel => exact ⟨k + 1, by omega, by omega, rfl, trivial, hno2⟩
        case measure => simp [intOf]; omega
      | true =>
        cases q with
        | false =>
          have hno2 : Hid (∀ j, 1 ≤ j → j < k + 1 → ¬ (cov j a = true ∧ cov j b = true)) := fun j h1 h2 e => by
            by_cases hjk : j = k
            · subst hjk
              rw [hq.out] at e
              cases e.2
            · exact hno.out j h1 (by omega) e
          have tok : True := trivial
          go_wp2_with (first
            | (have _t := tok; go_at_call 35; refine (refCovers_is _ _ _ hp).mono ?_; rintro e W1 ⟨rfl, rfl⟩; clear tok)
            | (go_at_call 35; refine (refCovers_is _ _ _ hq).mono ?_; rintro e W1 ⟨rfl, rfl⟩))
          go_roundw
          case rel => exact ⟨k + 1, by omega, by omega, rfl, trivial, hno2⟩
          case measure => simp [intOf]; omega
        | true =>
          have hsup := sup_hit hp.out hq.out hno.out
          have hend : Hid (r = k) := by show _ = _; rw [← hr.out]; exact hsup
          clear hsup
          have tok : True := trivial
          go_wp2_with (first
            | (have _t := tok; go_at_call 35; refine (refCovers_is _ _ _ hp).mono ?_; rintro e W1 ⟨rfl, rfl⟩; clear tok)
            | (go_at_call 35; refine (refCovers_is _ _ _ hq).mono ?_; rintro e W1 ⟨rfl, rfl⟩))
          go_ret
          exact ⟨ret_i64 hend.out.symm, rfl⟩
    · have hend : Hid (r = 0) := by show _ = _; rw [← hr.out]; exact sup_miss (fun j h1 h2 => hno.out j h1 (by omega))
      go_wp2
      go_ret
      exact ⟨ret_i64 hend.out.symm, rfl⟩
end Go.Proofs.YtbddgdicnonadaaDoor
