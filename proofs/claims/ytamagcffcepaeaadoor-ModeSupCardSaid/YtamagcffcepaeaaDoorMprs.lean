/- Contracts: the reference's reading of names; append of one number. -/
import Derived.Test.YtamagcffcepaeaaDoorMtxt
namespace Go.Proofs.YtamagcffcepaeaaDoor
set_option linter.unusedVariables false
open Go.RowKit

theorem refFormat_is (a : Int) (w : World) {r : ByteArray} (h : Hid (nmB a = r)) : Calls Tryd.prog 25 #[.int .i64 a] w fun e w' => e = .returned (.string r) ∧ w = w' := by
  rw [← h.out]
  exact refFormat_any a w
theorem nm_prs {k : Int} (h : 1 ≤ k ∧ k ≤ 5) : prs (nmB k) = k := by
  rcases md_cases h with rfl | rfl | rfl | rfl | rfl <;> decide
set_option maxHeartbeats 1000000 in
theorem refParse_any (s : ByteArray) (w : World) : Calls Tryd.prog 24 #[.string s] w fun e w' => e = .returned (.tuple #[.int .i64 (prs s), .bool (decide (1 ≤ prs s))]) ∧ w = w' := by
  obtain ⟨r, hr⟩ : ∃ r, Hid (prs s = r) := ⟨_, rfl⟩
  rw [hr.out]
  go_enter Tryd.func24, Tryd.ntmps24
  go_wp2
  go_loopw [4] (fun i wr => ∃ (k : Int), 1 ≤ k ∧ k ≤ 6 ∧ i = .int .i64 k ∧ Hid (w = wr) ∧ Hid (∀ j, 1 ≤ j → j < k → ¬ nmB j = s)) (fun i _ => (6 - intOf i).toNat)
  case atStart => exact ⟨1, by omega, by omega, rfl, rfl, fun j h1 h2 => by omega⟩
  case round =>
    obtain ⟨k, hk, hk6, rfl, hw, hno⟩ := hrel
    have hw' := hw.out
    subst hw'
    by_cases hlt : k ≤ 5
    · have e5 : IntKind.i64.wrap (k + 1) = k + 1 := by rw [IntKind.wrap_i64]; omega
      obtain ⟨nm, hnm⟩ : ∃ nm, Hid (nmB k = nm) := ⟨_, rfl⟩
      by_cases he : nm = s
      · have hend : Hid (r = k) := by
          show _ = _
          rw [← hr.out, ← he, ← hnm.out]
          exact nm_prs ⟨hk, hlt⟩
        subst he
        have hk1 := Lib.hid hk
        go_wp2_with (first | (go_at_call 25; refine (refFormat_is _ _ hnm).mono ?_; rintro e W1 ⟨rfl, rfl⟩))
        go_ret2
        exact ⟨by rw [hend.out, decide_eq_true hk1.out]; rfl, rfl⟩
      · have hno2 : Hid (∀ j, 1 ≤ j → j < k + 1 → ¬ nmB j = s) := fun j h1 h2 => by
          by_cases hj : j = k
          · subst hj
            rw [hnm.out]
            exact he
          · exact hno.out j h1 (by omega)
        have he' : (nm.toList == s.toList) = false := by rw [ByteArray.toList_eq nm]; exact str_ne he
        clear he
        go_wp2_with (first | (go_at_call 25; refine (refFormat_is _ _ hnm).mono ?_; rintro e W1 ⟨rfl, rfl⟩))
        go_roundw
        case rel => exact ⟨k + 1, by omega, by omega, rfl, trivial, hno2⟩
        case measure => simp [intOf]; omega
    · have hend : Hid (r = 0) := by
        show _ = _
        rw [← hr.out]
        unfold prs
        rw [if_neg (fun e => hno.out 1 (by omega) (by omega) e.symm), if_neg (fun e => hno.out 2 (by omega) (by omega) e.symm), if_neg (fun e => hno.out 3 (by omega) (by omega) e.symm), if_neg (fun e => hno.out 4 (by omega) (by omega) e.symm), if_neg (fun e => hno.out 5 (by omega) (by omega) e.symm)]
      go_wp2
      go_ret2
      exact ⟨by rw [hend.out]; rfl, rfl⟩
end Go.Proofs.YtamagcffcepaeaaDoor
