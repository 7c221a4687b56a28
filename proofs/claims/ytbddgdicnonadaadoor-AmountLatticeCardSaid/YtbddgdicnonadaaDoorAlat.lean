/- The laws of the least amount above two, and of covering. Nothing here speaks of a program. -/
import Derived.Test.YtbddgdicnonadaaDoorAd
namespace Go.Proofs.YtbddgdicnonadaaDoor
open Go.RowKit
set_option linter.unusedVariables false

def sup0 (m p : Int) : Int := if (m = 2 ∧ p = 3) ∨ (m = 3 ∧ p = 2) then 4 else max m p
theorem mem05 {x : Int} (h : 0 ≤ x ∧ x ≤ 5) : x ∈ ([0, 1, 2, 3, 4, 5] : List Int) := by
  have : x = 0 ∨ x = 1 ∨ x = 2 ∨ x = 3 ∨ x = 4 ∨ x = 5 := by omega
  rcases this with rfl | rfl | rfl | rfl | rfl | rfl <;> decide
theorem sup0_comm (m p : Int) : sup0 m p = sup0 p m := by unfold sup0; split <;> split <;> omega
theorem sup0_self (m : Int) : sup0 m m = m := by unfold sup0; split <;> omega
theorem sup0_in {m p : Int} (hm : 0 ≤ m ∧ m ≤ 5) (hp : 0 ≤ p ∧ p ≤ 5) : 0 ≤ sup0 m p ∧ sup0 m p ≤ 5 := by unfold sup0; split <;> omega
theorem sup0_assoc {a b c : Int} (ha : 0 ≤ a ∧ a ≤ 5) (hb : 0 ≤ b ∧ b ≤ 5) (hc : 0 ≤ c ∧ c ≤ 5) : sup0 (sup0 a b) c = sup0 a (sup0 b c) := by
  have h : ∀ a ∈ ([0, 1, 2, 3, 4, 5] : List Int), ∀ b ∈ ([0, 1, 2, 3, 4, 5] : List Int), ∀ c ∈ ([0, 1, 2, 3, 4, 5] : List Int), sup0 (sup0 a b) c = sup0 a (sup0 b c) := by decide
  exact h a (mem05 ha) b (mem05 hb) c (mem05 hc)
theorem jmu {k u m n p q : Int} (h1 : per k u m n = true) (h2 : per k u p q = true) : jm k u m n p q = sup0 m p ∧ ju k u m n p q = max n q := by
  unfold jm ju sup0
  have hh : per k u m n = true ∧ per k u p q = true := ⟨h1, h2⟩
  rw [if_pos hh, if_pos hh]
  exact ⟨rfl, rfl⟩
theorem jper {k u m n p q : Int} (h1 : per k u m n = true) (h2 : per k u p q = true) : per k u (jm k u m n p q) (ju k u m n p q) = true := by
  obtain ⟨e1, e2⟩ := jmu h1 h2
  rw [e1, e2]
  have g1 := per_is h1
  have g2 := per_is h2
  refine decide_eq_true ?_
  rcases g1 with g1 | g1 <;> rcases g2 with g2 | g2
  · have := sup0_in (m := m) (p := p) (by omega) (by omega)
    exact .inl (by omega)
  · omega
  · omega
  · have hm : m = 0 := by omega
    have hp : p = 0 := by omega
    subst hm hp
    rw [sup0_self]
    exact .inr (by omega)
theorem j_comm {k u m n p q : Int} (h1 : per k u m n = true) (h2 : per k u p q = true) : jm k u m n p q = jm k u p q m n ∧ ju k u m n p q = ju k u p q m n := by
  obtain ⟨e1, e2⟩ := jmu h1 h2
  obtain ⟨e3, e4⟩ := jmu h2 h1
  rw [e1, e2, e3, e4, sup0_comm]
  exact ⟨rfl, Int.max_comm ..⟩
theorem j_self {k u m n : Int} (h1 : per k u m n = true) : jm k u m n m n = m ∧ ju k u m n m n = n := by
  obtain ⟨e1, e2⟩ := jmu h1 h1
  rw [e1, e2, sup0_self]
  exact ⟨rfl, by omega⟩
theorem per_mode {k u m n : Int} (h : per k u m n = true) : 0 ≤ m ∧ m ≤ 5 := by have := per_is h; omega
theorem j_assoc {k u m n p q y z : Int} (h1 : per k u m n = true) (h2 : per k u p q = true) (h3 : per k u y z = true) :
    jm k u (jm k u m n p q) (ju k u m n p q) y z = jm k u m n (jm k u p q y z) (ju k u p q y z) ∧ ju k u (jm k u m n p q) (ju k u m n p q) y z = ju k u m n (jm k u p q y z) (ju k u p q y z) := by
  obtain ⟨a1, a2⟩ := jmu (jper h1 h2) h3
  obtain ⟨b1, b2⟩ := jmu h1 (jper h2 h3)
  rw [a1, a2, b1, b2, (jmu h1 h2).1, (jmu h1 h2).2, (jmu h2 h3).1, (jmu h2 h3).2, sup0_assoc (per_mode h1) (per_mode h2) (per_mode h3)]
  exact ⟨rfl, by omega⟩
/-! ### Covering is an order -/
theorem cvr_self (k u m n : Int) : cvr k u m n m n = per k u m n := by unfold cvr per; rw [decide_eq_decide]; omega
theorem cvr_anti {k u m n p q : Int} (h1 : cvr k u m n p q = true) (h2 : cvr k u p q m n = true) : m = p ∧ n = q := by
  have := cvr_is h1
  have := cvr_is h2
  omega
theorem cvr_trans {k u m n p q y z : Int} (h1 : cvr k u m n p q = true) (h2 : cvr k u p q y z = true) : cvr k u m n y z = true := by
  have := cvr_is h1
  have := cvr_is h2
  exact decide_eq_true (by omega)
theorem cvr_join {k u m n p q : Int} (h1 : per k u m n = true) (h2 : per k u p q = true) : cvr k u (jm k u m n p q) (ju k u m n p q) m n = true := by
  obtain ⟨e1, e2⟩ := jmu h1 h2
  rw [e1, e2]
  have g1 := per_is h1
  have g2 := per_is h2
  unfold sup0
  split <;> exact decide_eq_true (by omega)
theorem cvr_least {k u m n p q y z : Int} (h1 : cvr k u y z m n = true) (h2 : cvr k u y z p q = true) : cvr k u y z (jm k u m n p q) (ju k u m n p q) = true := by
  obtain ⟨e1, e2⟩ := jmu (cvr_per h1).2 (cvr_per h2).2
  rw [e1, e2]
  have g1 := cvr_is h1
  have g2 := cvr_is h2
  unfold sup0
  split <;> exact decide_eq_true (by omega)
end Go.Proofs.YtbddgdicnonadaaDoor
