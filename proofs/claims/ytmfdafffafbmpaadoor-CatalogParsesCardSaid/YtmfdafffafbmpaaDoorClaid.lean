/- From the variables that a row lists to what the walks ask of the world (nothing, for the rows that list three tables of integers); a world in which they lie so. -/
import Derived.Test.YtmfdafffafbmpaaDoorCards
import Derived.MakeChecks
import Derived.Lay
import Derived.LaidOnce
import Derived.WalkKit
namespace Go.Proofs.YtmfdafffafbmpaaDoor
open Go.RowKit
set_option linter.unusedVariables false

abbrev laidL : List (String × DataW Unit) := Rows.catalogNamesRow.laid
/-- What the walks ask of the variables: nothing. -/
def Vars (w : World) : Prop := True
theorem laid_plain (w : World) : laidMetH Tryd.prog laidL w = laidMet Tryd.prog laidL w := MakeChecks.laidMetH_plain _ _ _ (by kernel_rfl)
theorem laid_met (os : Os) (args : Array Value) : laidMetH Tryd.prog laidL ((World.laidAll Tryd.prog os laidL).forCall (fun _ _ => 0) ⟨#[], args, []⟩).memory := by
  rw [laid_plain]
  exact laidMet_laidAll _ (by kernel_rfl) (by kernel_rfl)
theorem vars_of {W : World} (h : laidMetH Tryd.prog laidL W) : Vars W := trivial
end Go.Proofs.YtmfdafffafbmpaaDoor
