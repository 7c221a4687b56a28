/- A region that draws its order, whose operations only read and whose callees may do whatever they like in blocks of their own: walked once, over the class of the worlds that are as they were below. Nothing here speaks of a program. -/
import Derived.Deep.QuietTactic
import Derived.BigQuiet
import Derived.Shelf.SlSortCmp.QuietGrown
import Derived.Test.YtfcekfdoafpmoaaHml
namespace Go.Proofs.Ytfcekfdoafpmoaa
open Go.RowKit
set_option linter.unusedVariables false

/-- A world that is as w was, below w's end. -/
structure NxW (w : World) where
  W : World
  hb : Below w.heap.size w W
instance (w : World) : Inhabited (NxW w) := ⟨⟨w, Below.refl _ _⟩⟩
theorem wp_region_below {P : Program} {id : Nat} {Q : Exit → Act → World → Prop} {a : Act} {w : World} {l : List Oper} (hm : P.follows .mixedOrders = true) (hB : Region.lexB .any l.toArray = true)
    (h : wpQuiet P l.toArray (fun w' => ∃ p : NxW w, w' = p.W) (fun a' => ∀ w', (∃ p : NxW w, w' = p.W) → Q .normal a' w') l a) : (Code.region id l.toArray true).wp P Q a w :=
  wp_region_quiet (C := fun w' => ∃ p : NxW w, w' = p.W) hm hB ⟨⟨w.drew, bdD (Below.refl _ _)⟩, rfl⟩ (by simpa using h)
theorem NxW.cell {w : World} {b o : Nat} {v : Value} (h : w.cell? ⟨b, o, none⟩ = some v) (p : NxW w) : p.W.cell? ⟨b, o, none⟩ = some v :=
  (p.hb.cell (p := ⟨b, o, none⟩) (World.block_lt_of_cell? w _ h)).trans h
theorem Calls.nx_of {P : Program} {f : FuncId} {args : Array Value} {w : World} {v : Value} (p : NxW w) (h : Calls P f args p.W fun e w' => e = .returned v ∧ Below p.W.heap.size p.W w') :
    Calls P f args p.W fun e w' => e = .returned v ∧ ∃ q : NxW w, w' = q.W :=
  h.mono fun _ w' k => ⟨k.1, ⟨w', nx p.hb k.2⟩, rfl⟩
end Go.Proofs.Ytfcekfdoafpmoaa
