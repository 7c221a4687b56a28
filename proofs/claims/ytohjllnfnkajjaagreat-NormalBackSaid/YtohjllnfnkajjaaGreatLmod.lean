/- Contracts: names of modes, of both sides. -/
import Derived.Test.YtohjllnfnkajjaaGreatLval
import Derived.Test.YtohjllnfnkajjaaGreatMd
namespace Go.Proofs.YtohjllnfnkajjaaGreat
set_option linter.unusedVariables false
open Go.RowKit

theorem str_ne {x s : ByteArray} (h : ¬ x = s) : (x.data.toList == s.toList) = false := by
  rw [ByteArray.toList_eq, beq_eq_false_iff_ne]
  exact fun e => h (ByteArray.ext (Array.toList_inj.mp e))
theorem str_eq {x s : ByteArray} (h : x = s) : (x.data.toList == s.toList) = true := by
  subst h
  rw [ByteArray.toList_eq, beq_iff_eq]
def nmB (a : Int) : ByteArray := if a = 1 then ⟨#[73, 83]⟩ else if a = 2 then ⟨#[73, 88]⟩ else if a = 3 then ⟨#[83]⟩ else if a = 4 then ⟨#[83, 73, 88]⟩ else if a = 5 then ⟨#[88]⟩ else ⟨#[]⟩
theorem nmB_no {a : Int} (h : ¬ (1 ≤ a ∧ a ≤ 5)) : nmB a = ⟨#[]⟩ := by
  unfold nmB
  rw [if_neg (by omega), if_neg (by omega), if_neg (by omega), if_neg (by omega), if_neg (by omega)]
def prs (s : ByteArray) : Int := if s = ⟨#[73, 83]⟩ then 1 else if s = ⟨#[73, 88]⟩ then 2 else if s = ⟨#[83]⟩ then 3 else if s = ⟨#[83, 73, 88]⟩ then 4 else if s = ⟨#[88]⟩ then 5 else 0
theorem nm_prs {k : Int} (h : 1 ≤ k ∧ k ≤ 5) : prs (nmB k) = k := by
  rcases md_cases h with rfl | rfl | rfl | rfl | rfl <;> decide
theorem mkB_inj {a b : List UInt8} : mkB a = mkB b ↔ a = b := ⟨fun h => by rw [← mkB_data a, h, mkB_data], fun h => by rw [h]⟩
theorem prs_mdL (l : List UInt8) : prs (mkB l) = mdL l := by
  have e : ∀ x : List UInt8, (mkB l = (⟨x.toArray⟩ : ByteArray)) ↔ l = x := fun x => mkB_inj (b := x)
  unfold prs mdL
  have e1 := e [73, 83]
  have e2 := e [73, 88]
  have e3 := e [83]
  have e4 := e [83, 73, 88]
  have e5 := e [88]
  simp only [e1, e2, e3, e4, e5]
theorem mdL_nn (l : List UInt8) : 0 ≤ mdL l := by unfold mdL; repeat (first | split | omega)
end Go.Proofs.YtohjllnfnkajjaaGreat
