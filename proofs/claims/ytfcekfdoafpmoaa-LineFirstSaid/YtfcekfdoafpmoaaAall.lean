/- Contracts: whether all amounts of a list are permitted. -/
import Derived.Test.YtfcekfdoafpmoaaArows
namespace Go.Proofs.Ytfcekfdoafpmoaa
open Go.RowKit
set_option linter.unusedVariables false
set_option linter.unusedSimpArgs false

/-- Blocks of four cells, of two, carried from world to world. -/
def Q4 (W : World) (k : Nat) (a b c d : Value) : Prop := k < W.heap.size ∧ W.cell? ⟨k, 0, none⟩ = some a ∧ W.cell? ⟨k, 1, none⟩ = some b ∧ W.cell? ⟨k, 2, none⟩ = some c ∧ W.cell? ⟨k, 3, none⟩ = some d
def Q2 (W : World) (k : Nat) (a b : Value) : Prop := k < W.heap.size ∧ W.cell? ⟨k, 0, none⟩ = some a ∧ W.cell? ⟨k, 1, none⟩ = some b
theorem Q4.new (W : World) (T : TypeId) (a b c d : Value) : Q4 (W.alloc (.cells #[a, b, c, d] T)) W.heap.size a b c d := ⟨by simp, by simp, by simp, by simp, by simp⟩
theorem Q2.new (W : World) (T : TypeId) (a b : Value) : Q2 (W.alloc (.cells #[a, b] T)) W.heap.size a b := ⟨by simp, by simp, by simp⟩
theorem Q4.below {W W' : World} {k : Nat} {a b c d : Value} (h : Q4 W k a b c d) (hb : Below W.heap.size W W') : Q4 W' k a b c d := by
  obtain ⟨h0, h1, h2, h3, h4⟩ := h
  have := hb.size
  exact ⟨by omega, (hb.cell (p := ⟨k, 0, none⟩) h0).trans h1, (hb.cell (p := ⟨k, 1, none⟩) h0).trans h2, (hb.cell (p := ⟨k, 2, none⟩) h0).trans h3, (hb.cell (p := ⟨k, 3, none⟩) h0).trans h4⟩
theorem Q2.below {W W' : World} {k : Nat} {a b : Value} (h : Q2 W k a b) (hb : Below W.heap.size W W') : Q2 W' k a b := by
  obtain ⟨h0, h1, h2⟩ := h
  have := hb.size
  exact ⟨by omega, (hb.cell (p := ⟨k, 0, none⟩) h0).trans h1, (hb.cell (p := ⟨k, 1, none⟩) h0).trans h2⟩
abbrev R4 (W : World) (g : Nat) (s : ByteArray) (k u h : Int) : Prop := Q4 W g (.string s) (.int .i64 k) (.int .i64 u) (.int .i64 h)

def allP (k u : Int) (l : List P2) : Bool := shp k u && l.all (fun a => per k u a.1 a.2)
theorem allP_iff {k u : Int} {l : List P2} : allP k u l = true ↔ shp k u = true ∧ pers k u l := by
  unfold allP pers
  rw [Bool.and_eq_true, List.all_eq_true]
theorem allP_no {k u : Int} {l : List P2} {i : Nat} {x y : Int} (hi : i < l.length) (hx : l.getD i default = (x, y)) (h : per k u x y = false) : allP k u l = false := by
  cases e : allP k u l with
  | false => rfl
  | true =>
    have := (allP_iff.1 e).2 _ (getD_mem2 hi)
    rw [hx] at this
    rw [h] at this
    cases this
theorem allP_end {k u : Int} {l : List P2} {n : Nat} (hn : l.length = n) (h : ∀ j, j < n → per k u (l.getD j default).1 (l.getD j default).2 = true) : allP k u l = shp k u := by
  have hp : pers k u l := fun a ha => by
    obtain ⟨i, hi, e⟩ := mem_getD2 ha
    rw [← e]
    exact h i (by omega)
  rw [Bool.eq_iff_iff, allP_iff]
  exact ⟨fun h => h.1, fun h => ⟨h, hp⟩⟩

theorem pers_at {k u : Int} {l : List P2} (h : pers k u l) {j : Nat} (hj : j < l.length) {x y : Int} (hx : l.getD j default = (x, y)) : per k u x y = true := by
  have := h _ (getD_mem2 hj)
  rwa [hx] at this
theorem usum_step {l : List P2} {j : Nat} (hj : j < l.length) {x y : Int} (hx : l.getD j default = (x, y)) : usum (l.take (j + 1)) = usum (l.take j) + y := by rw [take_snoc2 hj, usum_snoc, hx]
end Go.Proofs.Ytfcekfdoafpmoaa
