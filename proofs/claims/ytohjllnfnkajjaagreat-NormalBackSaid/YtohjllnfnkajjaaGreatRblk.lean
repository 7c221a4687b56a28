/- A block that is known whole. -/
import Derived.Test.YtohjllnfnkajjaaGreatRrows
namespace Go.Proofs.YtohjllnfnkajjaaGreat
open Go.RowKit
set_option linter.unusedVariables false

/-- Block g holds these cells, and none of them is frozen. -/
def Blk (w : World) (g : Nat) (cs : List Value) : Prop := ∃ T, w.heap[g]? = some (.cells cs.toArray T (0, 0))
theorem Blk.cell {w : World} {g : Nat} {cs : List Value} (h : Blk w g cs) (o : Nat) {v : Value} (hv : cs[o]? = some v) : w.cell? ⟨g, o, none⟩ = some v := by
  obtain ⟨T, h⟩ := h
  rw [cell_of_row w g o cs.toArray T (0, 0) h]
  simpa using hv
theorem Blk.fz {w : World} {g : Nat} {cs : List Value} (h : Blk w g cs) (o : Nat) : w.frozen? ⟨g, o, none⟩ = false := by
  obtain ⟨T, h⟩ := h
  simp [World.frozen?, h]
theorem Blk.lt {w : World} {g : Nat} {cs : List Value} (h : Blk w g cs) : g < w.heap.size := by
  obtain ⟨T, h⟩ := h
  exact (Array.getElem?_eq_some_iff.1 h).1
theorem Blk.new (w : World) (cs : List Value) (T : TypeId) {g : Nat} (hg : w.heap.size = g) : Blk (w.alloc (.cells cs.toArray T)) g cs := by
  subst hg
  exact ⟨T, heap_alloc_new w _⟩
theorem Blk.of {w w' : World} {g : Nat} {cs : List Value} (h : Blk w g cs) (hb : w'.heap[g]? = w.heap[g]?) : Blk w' g cs := by
  obtain ⟨T, h⟩ := h
  exact ⟨T, hb.trans h⟩
theorem Blk.up {w w' : World} {g : Nat} {cs : List Value} (h : Blk w g cs) {B : Nat} (hb : Below B w w') (hB : g < B) : Blk w' g cs := h.of (hb.block g hB)
theorem Blk.grow {w : World} {g : Nat} {cs : List Value} (h : Blk w g cs) (o : Obj) : Blk (w.alloc o) g cs := h.up (newB w o) h.lt
theorem Blk.set {w : World} {g : Nat} {cs : List Value} (h : Blk w g cs) (o : Nat) (v : Value) : Blk (w.setCell ⟨g, o, none⟩ v) g (cs.set o v) := by
  obtain ⟨T, h⟩ := h
  refine ⟨T, ?_⟩
  simp [World.setCell, Array.getElem?_modify, h]
end Go.Proofs.YtohjllnfnkajjaaGreat
