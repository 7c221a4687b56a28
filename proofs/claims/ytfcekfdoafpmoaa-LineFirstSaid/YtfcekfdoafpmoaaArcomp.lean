/- Contracts: whether the amounts of a list may be held together, by the reference. -/
import Derived.Test.YtfcekfdoafpmoaaAcomp
import Derived.Deep.RegionHeld3
import Derived.Shelf.SlSortCmp.QuietGrown
import Derived.BigQuiet
namespace Go.Proofs.Ytfcekfdoafpmoaa
open Go.RowKit
open Go.Sort (grow)
set_option linter.unusedVariables false
set_option linter.unusedSimpArgs false

theorem bdD {B : Nat} {a w : World} (h : Below B a w) : Below B a w.drew := ⟨h.os, h.tape, h.output, h.size, h.block⟩
abbrev S4 (W : World) (g : Nat) (s : ByteArray) (k u h : Int) : Prop := W.cell? ⟨g, 0, none⟩ = some (.string s) ∧ W.cell? ⟨g, 1, none⟩ = some (.int .i64 k) ∧ W.cell? ⟨g, 2, none⟩ = some (.int .i64 u) ∧ W.cell? ⟨g, 3, none⟩ = some (.int .i64 h)
abbrev S2 (W : World) (g o : Nat) (x y : Int) : Prop := W.cell? ⟨g, o, none⟩ = some (.int .i64 x) ∧ W.cell? ⟨g, o + 1, none⟩ = some (.int .i64 y)
theorem S4.of {w W : World} {g : Nat} {s : ByteArray} {k u h : Int} (hb : Below w.heap.size w W) (hg : g < w.heap.size) (hc : S4 w g s k u h) : S4 W g s k u h :=
  ⟨(hb.cell (p := ⟨g, 0, none⟩) hg).trans hc.1, (hb.cell (p := ⟨g, 1, none⟩) hg).trans hc.2.1, (hb.cell (p := ⟨g, 2, none⟩) hg).trans hc.2.2.1, (hb.cell (p := ⟨g, 3, none⟩) hg).trans hc.2.2.2⟩
theorem S2.of {w W : World} {g o : Nat} {x y : Int} (hb : Below w.heap.size w W) (hg : g < w.heap.size) (hc : S2 w g o x y) : S2 W g o x y :=
  ⟨(hb.cell (p := ⟨g, o, none⟩) hg).trans hc.1, (hb.cell (p := ⟨g, o + 1, none⟩) hg).trans hc.2⟩

theorem Cmp.upto {k u : Int} {l : List P2} (h : Cmp k u l) (j : Nat) : Cmp k u (l.take j) := by
  rw [← List.take_append_drop j l] at h
  exact h.head

theorem below_grow (w : World) (os : Array Obj) : Below w.heap.size w (grow w os) := ⟨rfl, rfl, rfl, by simp, fun _ hk => Go.Sort.heap_grow_old w os hk⟩
theorem fr_is {x y x2 y2 : Int} (hy : y = 0) (hy2 : y2 = 0) : fr (x2, y2) (x, y) = (zer x y || zer x2 y2 || cpt x x2) := by
  unfold fr zer
  subst hy hy2
  rw [Bool.eq_iff_iff, cpt_comm x x2]
  simp
  constructor
  · rintro (h | h | h) <;> simp [h]
  · rintro ((h | h) | h) <;> simp [h]
end Go.Proofs.Ytfcekfdoafpmoaa
