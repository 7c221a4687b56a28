/- Contracts: the cursor: ended, run, one. -/
import Derived.Test.YtohjllnfnkajjaaGreatLrows
import Derived.Shelf.Abstract
namespace Go.Proofs.YtohjllnfnkajjaaGreat
open Go.RowKit
open Go.Sort (grow)
set_option linter.unusedVariables false
set_option linter.unusedSimpArgs false

/-- The scanner's box b: the text, the place, the start, the tokens. -/
structure Scn (w : World) (b : Nat) (s : ByteArray) (i st : Nat) (V : Value) : Prop where
  lt : b < w.heap.size
  c0 : w.cell? ⟨b, 0, none⟩ = some (.string s)
  c1 : w.cell? ⟨b, 1, none⟩ = some (.int .i64 i)
  c2 : w.cell? ⟨b, 2, none⟩ = some (.int .i64 st)
  c3 : w.cell? ⟨b, 3, none⟩ = some V
  fz : ∀ o, w.frozen? ⟨b, o, none⟩ = false
/-- All blocks but b are as they were. -/
abbrev Frm (b : Nat) (w w' : World) : Prop := w.grownBy w' (some b)
theorem Frm.refl (b : Nat) (w : World) : Frm b w w := ⟨rfl, rfl, rfl, Nat.le_refl _, fun _ _ _ => rfl⟩
theorem Frm.trans {b : Nat} {a w c : World} (h : Frm b a w) (k : Frm b w c) : Frm b a c :=
  ⟨k.os.trans h.os, k.tape.trans h.tape, k.output.trans h.output, Nat.le_trans h.size k.size, fun q hq hn => (k.block q (Nat.lt_of_lt_of_le hq h.size) hn).trans (h.block q hq hn)⟩
theorem Frm.drewN {b : Nat} {a w : World} (h : Frm b a w) (n : Nat) : Frm b a (w.drewN n) := h.trans ⟨rfl, rfl, rfl, Nat.le_refl _, fun _ _ _ => rfl⟩
theorem Frm.set {b : Nat} {a w : World} (h : Frm b a w) (o : Nat) (u : Value) : Frm b a (w.setCell ⟨b, o, none⟩ u) :=
  h.trans ⟨rfl, rfl, rfl, by simp [World.setCell], fun q hq hn => Below.heap_setCell _ _ _ _ (fun e => hn (by rw [e]))⟩
theorem Frm.below {b : Nat} {w w' : World} (h : Frm b w w') (hb : b ≤ w.heap.size) : Below b w w' :=
  ⟨h.os, h.tape, h.output, h.size, fun k hk => h.block k (by omega) (fun e => by injection e with e; omega)⟩
theorem Scn.drewN {w : World} {b : Nat} {s : ByteArray} {i st : Nat} {V : Value} (h : Scn w b s i st V) (n : Nat) : Scn (w.drewN n) b s i st V := ⟨h.lt, h.c0, h.c1, h.c2, h.c3, h.fz⟩
theorem Scn.at_ {w : World} {b : Nat} {s : ByteArray} {i st : Nat} {V : Value} (h : Scn w b s i st V) {j : Nat} {v : Int} (hj : v = j) : Scn (w.setCell ⟨b, 1, none⟩ (.int .i64 v)) b s j st V := by
  obtain ⟨h0, h1, h2, h3, h4, h5⟩ := h
  subst hj
  refine ⟨by simpa using h0, ?_, ?_, ?_, ?_, fun o => ?_⟩ <;> simp [go_sem, h1, h2, h3, h4, h5]
/-- The text from i to j. -/
def cutB (s : ByteArray) (i j : Nat) : ByteArray := mkB ((s.data.toList.drop i).take (j - i))
theorem cutB_ex {s : ByteArray} {i j : Nat} (h : i ≤ j) (hj : j ≤ s.size) : s.extract i j = cutB s i j := by
  apply ByteArray.ext
  apply Array.toList_inj.1
  simp [cutB, mkB, List.extract, List.drop_take]
end Go.Proofs.YtohjllnfnkajjaaGreat
