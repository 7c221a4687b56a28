/- Contracts: the scanner's add; its state as one word. -/
import Derived.Test.YtohjllnfnkajjaaGreatLcur
import Derived.Deep.RegionLaw
namespace Go.Proofs.YtohjllnfnkajjaaGreat
open Go.RowKit
open Go.Sort (grow)
set_option linter.unusedVariables false
set_option linter.unusedSimpArgs false

theorem Scn.below {w w' : World} {b : Nat} {s : ByteArray} {i st : Nat} {V : Value} (h : Scn w b s i st V) {B : Nat} (hb : Below B w w') (hB : b < B) : Scn w' b s i st V := by
  obtain ⟨h0, h1, h2, h3, h4, h5⟩ := h
  exact ⟨Nat.lt_of_lt_of_le h0 hb.size, (hb.cell (p := ⟨b, 0, none⟩) hB).trans h1, (hb.cell (p := ⟨b, 1, none⟩) hB).trans h2, (hb.cell (p := ⟨b, 2, none⟩) hB).trans h3, (hb.cell (p := ⟨b, 3, none⟩) hB).trans h4, fun o => (hb.frozen (p := ⟨b, o, none⟩) hB).trans (h5 o)⟩
theorem Scn.toks {w : World} {b : Nat} {s : ByteArray} {i st : Nat} {V : Value} (h : Scn w b s i st V) (V' : Value) : Scn (w.setCell ⟨b, 3, none⟩ V') b s i st V' := by
  obtain ⟨h0, h1, h2, h3, h4, h5⟩ := h
  refine ⟨by simpa using h0, ?_, ?_, ?_, ?_, fun o => ?_⟩ <;> simp [go_sem, h1, h2, h3, h4, h5]
theorem TRd.one (w : World) (T : TypeId) (k : Int) (t : ByteArray) (n a : Int) : TRd (w.alloc (.cells #[.int .i64 k, .string t, .int .i64 n, .int .i64 a] T)) (some ⟨w.heap.size, 0, none⟩) [(k, t, n, a)] := fun _ =>
  ⟨_, 0, rfl, by simp, fun i hi => by
    obtain rfl : i = 0 := by simpa using hi
    exact ⟨by simp, by simp, by simp, by simp⟩⟩
end Go.Proofs.YtohjllnfnkajjaaGreat
