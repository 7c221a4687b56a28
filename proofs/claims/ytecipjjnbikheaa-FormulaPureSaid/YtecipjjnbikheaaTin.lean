/- A slice of integers that came in. -/
import Derived.Test.YtecipjjnbikheaaLrows
namespace Go.Proofs.Ytecipjjnbikheaa
set_option linter.unusedVariables false
open Go.RowKit

/-- The slice at A reads as the integers xs. -/
def IRd (w : World) (A : Option Addr) (xs : List Int) : Prop :=
  xs ≠ [] → ∃ b o, A = some ⟨b, o, none⟩ ∧ b < w.heap.size ∧ ∀ i, i < xs.length → w.cell? ⟨b, o + i, none⟩ = some (.int .i64 (xs.getD i 0))
theorem IRd.nil (w : World) (A : Option Addr) : IRd w A [] := fun h => absurd rfl h
theorem IRd.at_ {w : World} {A : Option Addr} {xs : List Int} (h : IRd w A xs) {i : Nat} (hi : i < xs.length) :
    ∃ b o, A = some ⟨b, o, none⟩ ∧ b < w.heap.size ∧ w.cell? ⟨b, o + i, none⟩ = some (.int .i64 (xs.getD i 0)) := by
  obtain ⟨b, o, hA, hb, hc⟩ := h (by rintro rfl; simp at hi)
  exact ⟨b, o, hA, hb, hc i hi⟩
theorem IRd.below {w w' : World} {A : Option Addr} {xs : List Int} (h : IRd w A xs) (hb : Below w.heap.size w w') : IRd w' A xs := fun hx => by
  obtain ⟨b, o, hA, hlt, hc⟩ := h hx
  exact ⟨b, o, hA, Nat.lt_of_lt_of_le hlt hb.size, fun i hi => (hb.cell (p := ⟨b, o + i, none⟩) hlt).trans (hc i hi)⟩
/-- A slice of integers that came in. -/
structure InI (w : World) (A : Option Addr) (n c : Nat) (xs : List Int) : Prop where
  len : xs.length = n
  rd : IRd w A xs
  fit : n ≤ c
  small : n ≤ 140737488351232
  wf : ∀ x ∈ xs, (Lit.int .i64 x).wf = true

end Go.Proofs.Ytecipjjnbikheaa
