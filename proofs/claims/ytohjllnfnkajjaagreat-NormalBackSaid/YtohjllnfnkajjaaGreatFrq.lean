/- Contracts of the reference: Prune. -/
import Derived.Test.YtohjllnfnkajjaaGreatFrp
namespace Go.Proofs.YtohjllnfnkajjaaGreat
open Go.RowKit
set_option linter.unusedVariables false
set_option linter.unusedSimpArgs false

/-- A new set is the answer. -/
def PrQ (X : List Bool) (w : World) (x : Ending) (w' : World) : Prop :=
  (∃ g c, x = .returned (.slice (some ⟨g, 0, none⟩) X.length c) ∧ Blk w' g (bvs X)) ∧ Below w.heap.size w w'
theorem set_back {o : List Bool} {i : Nat} (h : o.getD i false = true) (v : Bool) : (o.set i v).set i true = o := by
  refine List.ext_getElem (by simp) fun j h1 h2 => ?_
  rw [List.getElem_set]
  by_cases e : i = j
  · subst e
    rw [if_pos rfl]
    have hl : i < o.length := h2
    rw [List.getD_eq_getElem?_getD, List.getElem?_eq_getElem hl] at h
    exact h.symm
  · rw [if_neg e, List.getElem_set, if_neg e]
theorem cutS_fill (n : Nat) (S : List Bool) : fillS n n (fun i => S.getD i false) = cutS n S := by rw [fillS_all]; rfl
end Go.Proofs.YtohjllnfnkajjaaGreat
