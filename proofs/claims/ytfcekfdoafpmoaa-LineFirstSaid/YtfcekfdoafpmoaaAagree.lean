/- Contracts: whether the modes of a list agree. -/
import Derived.Test.YtfcekfdoafpmoaaAall
import Derived.WalkMore
import Derived.Deep.LoopGhost
namespace Go.Proofs.Ytfcekfdoafpmoaa
open Go.RowKit
set_option linter.unusedVariables false
set_option linter.unusedSimpArgs false

/-- Whether the mode i was met in a list. -/
def metB (l : List P2) (i : Int) : Bool := decide (¬ i = 0) && l.any (fun a => decide (a.1 = i))
theorem metB_iff {l : List P2} {i : Int} : metB l i = true ↔ ¬ i = 0 ∧ ∃ a ∈ l, a.1 = i := by
  unfold metB
  simp [List.any_eq_true]
theorem metB_nil (i : Int) : metB [] i = false := by simp [metB]
theorem metB_snoc (l : List P2) (x y i : Int) : metB (l ++ [(x, y)]) i = (metB l i || (decide (¬ i = 0) && decide (x = i))) := by
  rw [Bool.eq_iff_iff]
  simp only [metB_iff, Bool.or_eq_true, Bool.and_eq_true, decide_eq_true_eq, List.mem_append, List.mem_singleton]
  constructor
  · rintro ⟨h, a, ha | rfl, e⟩
    · exact .inl ⟨h, a, ha, e⟩
    · exact .inr ⟨h, e⟩
  · rintro (⟨h, a, ha, e⟩ | ⟨h, e⟩)
    · exact ⟨h, a, .inl ha, e⟩
    · exact ⟨h, (x, y), .inr rfl, e⟩
/-- The block that says which modes were met. -/
def Met (W : World) (b : Nat) (l : List P2) : Prop := b < W.heap.size ∧ ∀ i : Nat, i < 6 → W.cell? ⟨b, i, none⟩ = some (.bool (metB l i)) ∧ W.frozen? ⟨b, i, none⟩ = false
theorem Met.below {W W' : World} {b : Nat} {l : List P2} (h : Met W b l) (hb : Below W.heap.size W W') : Met W' b l := by
  have := hb.size
  refine ⟨by have := h.1; omega, fun i hi => ?_⟩
  obtain ⟨h1, h2⟩ := h.2 i hi
  exact ⟨(hb.cell (p := ⟨b, i, none⟩) h.1).trans h1, (hb.frozen (p := ⟨b, i, none⟩) h.1).trans h2⟩
theorem Met.new (W : World) (T : TypeId) : Met (W.alloc (.cells #[.bool false, .bool false, .bool false, .bool false, .bool false, .bool false] T)) W.heap.size [] := by
  refine ⟨by simp, fun i hi => ?_⟩
  have hc : i = 0 ∨ i = 1 ∨ i = 2 ∨ i = 3 ∨ i = 4 ∨ i = 5 := by omega
  rcases hc with rfl | rfl | rfl | rfl | rfl | rfl <;> simp [metB_nil]
theorem Met.store {W : World} {b : Nat} {l : List P2} (h : Met W b l) {x : Nat} (hx0 : ¬ x = 0) (hx6 : x < 6) (y : Int) : Met (W.setCell ⟨b, x, none⟩ (.bool true)) b (l ++ [((x : Int), y)]) := by
  refine ⟨by simpa using h.1, fun i hi => ?_⟩
  obtain ⟨h1, h2⟩ := h.2 i hi
  refine ⟨?_, by simpa using h2⟩
  rw [metB_snoc]
  by_cases e : x = i
  · subst e
    rw [World.cell?_setCell_same W _ _ h1, show (decide (¬ (x : Int) = 0) && decide ((x : Int) = x)) = true by simp; omega, Bool.or_true]
  · rw [World.cell?_setCell_other W _ _ _ (fun e2 => e (congrArg Addr.off e2)), h1, show (decide (¬ (i : Int) = 0) && decide ((x : Int) = i)) = false by simp; omega, Bool.or_false]
theorem fr_bad {a b : P2} (ha : ¬ a.1 = 0) (hb : ¬ b.1 = 0) (h : cpt a.1 b.1 = false) : fr a b = false := by
  unfold fr
  simp [ha, hb, h]
/-- A new amount agrees with those in front exactly if its mode does with the modes that were met. -/
theorem fr_met {l : List P2} {x y : Int} (hx : ¬ x = 0) : (∀ a ∈ l, fr a (x, y) = true) ↔ ∀ i, metB l i = true → cpt i x = true := by
  constructor
  · intro h i hi
    obtain ⟨h0, a, ha, rfl⟩ := metB_iff.1 hi
    have := h a ha
    unfold fr at this
    simp only [decide_eq_true_eq] at this
    rcases this with h1 | h1 | h1
    · exact absurd h1 h0
    · exact absurd h1 hx
    · exact h1
  · intro h a ha
    unfold fr
    simp only [decide_eq_true_eq]
    by_cases h0 : a.1 = 0
    · exact .inl h0
    · exact .inr (.inr (h _ (metB_iff.2 ⟨h0, a, ha, rfl⟩)))
theorem fr_zero {l : List P2} (y : Int) : ∀ a ∈ l, fr a (0, y) = true := fun a _ => by simp [fr]

end Go.Proofs.Ytfcekfdoafpmoaa
