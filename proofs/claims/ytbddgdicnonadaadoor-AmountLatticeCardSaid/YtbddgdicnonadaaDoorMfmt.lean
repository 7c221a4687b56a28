/- Contracts: the names of the modes. -/
import Derived.Test.YtbddgdicnonadaaDoorMsup
namespace Go.Proofs.YtbddgdicnonadaaDoor
set_option linter.unusedVariables false
open Go.RowKit

theorem str_ne {x s : ByteArray} (h : ¬ x = s) : (x.data.toList == s.toList) = false := by
  rw [ByteArray.toList_eq, beq_eq_false_iff_ne]
  exact fun e => h (ByteArray.ext (Array.toList_inj.mp e))
theorem str_eq {x s : ByteArray} (h : x = s) : (x.data.toList == s.toList) = true := by
  subst h
  rw [ByteArray.toList_eq, beq_iff_eq]
def nmB (a : Int) : ByteArray := if a = 1 then ⟨#[73, 83]⟩ else if a = 2 then ⟨#[73, 88]⟩ else if a = 3 then ⟨#[83]⟩ else if a = 4 then ⟨#[83, 73, 88]⟩ else if a = 5 then ⟨#[88]⟩ else ⟨#[]⟩
theorem nmB_no {a : Int} (h : ¬ (1 ≤ a ∧ a ≤ 5)) : nmB a = ⟨#[]⟩ := by
  unfold nmB
  rw [if_neg (by omega), if_neg (by omega), if_neg (by omega), if_neg (by omega), if_neg (by omega)]
theorem refFormat_any (a : Int) (w : World) : Calls Tryd.prog 45 #[.int .i64 a] w fun e w' => e = .returned (.string (nmB a)) ∧ w = w' := by
  by_cases h : 1 ≤ a ∧ a ≤ 5
  · rcases md_cases h with rfl | rfl | rfl | rfl | rfl
    all_goals (
      clear h
      go_enter Tryd.func45, Tryd.ntmps45
      go_wp2
      go_ret
      exact ⟨rfl, rfl⟩)
  · rw [nmB_no h]
    go_enter Tryd.func45, Tryd.ntmps45
    go_wp2
    go_ret
    exact ⟨rfl, rfl⟩
theorem format_any (a : Int) (w : World) (hV : Vars w) : Calls Tryd.prog 43 #[.int .i64 a] w fun e w' => e = .returned (.string (nmB a)) ∧ w = w' := by
  by_cases h : 1 ≤ a ∧ a ≤ 5
  · have e0 : w.cell? ⟨0, 0, none⟩ = some (.string ⟨#[73, 83]⟩) := hV.names 0 (by omega)
    have e1 : w.cell? ⟨0, 1, none⟩ = some (.string ⟨#[73, 88]⟩) := hV.names 1 (by omega)
    have e2 : w.cell? ⟨0, 2, none⟩ = some (.string ⟨#[83]⟩) := hV.names 2 (by omega)
    have e3 : w.cell? ⟨0, 3, none⟩ = some (.string ⟨#[83, 73, 88]⟩) := hV.names 3 (by omega)
    have e4 : w.cell? ⟨0, 4, none⟩ = some (.string ⟨#[88]⟩) := hV.names 4 (by omega)
    clear hV
    rcases md_cases h with rfl | rfl | rfl | rfl | rfl
    all_goals (
      clear h
      go_enter Tryd.func43, Tryd.ntmps43
      go_wp2_with (first | (go_at_call 30; refine (valid_any _ _).mono ?_; rintro e W1 ⟨rfl, rfl⟩))
      go_ret
      exact ⟨rfl, rfl⟩)
  · rw [nmB_no h]
    have ha : vmd a = false := by unfold vmd; simp; omega
    clear h
    go_enter Tryd.func43, Tryd.ntmps43
    go_wp2_with (first | (go_at_call 30; refine (valid_any _ _).mono ?_; rintro e W1 ⟨rfl, rfl⟩))
    go_ret
    exact ⟨rfl, rfl⟩
end Go.Proofs.YtbddgdicnonadaaDoor
