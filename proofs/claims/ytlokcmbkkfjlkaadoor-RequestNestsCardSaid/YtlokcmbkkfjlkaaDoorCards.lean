/-
  DERIVED. GIVEN WITH THE SEED: THE CARDS: each row of YtlokcmbkkfjlkaaDoorRows.lean that lists a variable, with what it lists TIED to the program's text (the seventh form; the later family's looks); each row that meets fmt, with fmt's text TOLD by the authors' own Lean function (tested against real Go, not proved from fmt's source: count such statements apart). THE CARD IS WHAT COUNTS. Prove the row's statement (the work); the ties are given (YtlokcmbkkfjlkaaDoorTie.lean); close each card by the builder's one call (the guide's Derived/Test/ToyasCard.lean, 'card_holds'). Laid BY PROGRAM, IN A SANDBOX (cutbox-door.mjs). By AI agents, Wed Nov 11 2026. No macro, syntax, notation, axiom, sorry.
-/
import Derived.Test.YtlokcmbkkfjlkaaDoorRows
import GoSem.ClaimSeven
namespace Go.Proofs.YtlokcmbkkfjlkaaDoor
namespace Rows

/-- THE TIED CARD OF 'clusterlockslaw07.RequestNests'. -/
def requestNestsCard : Claim7 := { stood := { row := requestNestsRow, standIns := [], harness := (true, "988ef83c837b9eb0bcf3ce87a9877867280abe2abc91a982c267e20b6900e3ca"), looks := true }, kinds := [], alts := [], laidByText := true, laidKinds := [.data, .data, .data, .data, .sentinel, .sentinel], laidTests := true, laidLooks := .later }
def RequestNestsCardSaid : Prop := Claim7.holds Tryd.pinned (.plain (OpenSpec.ofChange requestNestsSpec)) requestNestsCard

/-- THE TIED CARD OF 'clusterlockslaw07.RequestConflicts'. -/
def requestConflictsCard : Claim7 := { stood := { row := requestConflictsRow, standIns := [], harness := (true, "988ef83c837b9eb0bcf3ce87a9877867280abe2abc91a982c267e20b6900e3ca"), looks := true }, kinds := [], alts := [], laidByText := true, laidKinds := [.data, .data, .data, .data, .sentinel, .sentinel], laidTests := true, laidLooks := .later }
def RequestConflictsCardSaid : Prop := Claim7.holds Tryd.pinned (.plain (OpenSpec.ofChange requestConflictsSpec)) requestConflictsCard

/-- THE SECOND FORM's CARD OF 'clusterlockslaw07.RequestNests'. -/
def requestNestsUptoCard : Claim7 := { stood := { row := requestNestsUptoRow, standIns := [], harness := (true, "988ef83c837b9eb0bcf3ce87a9877867280abe2abc91a982c267e20b6900e3ca"), looks := true }, kinds := [], alts := [], laidByText := true, laidKinds := [.data, .data, .data, .data, .sentinel, .sentinel], laidTests := true, laidLooks := .later }
def RequestNestsUptoCardSaid : Prop := Claim7.holds Tryd.pinned (.plain (OpenSpec.upto requestNestsSpec)) requestNestsUptoCard

/-- THE SECOND FORM's CARD OF 'clusterlockslaw07.RequestConflicts'. -/
def requestConflictsUptoCard : Claim7 := { stood := { row := requestConflictsUptoRow, standIns := [], harness := (true, "988ef83c837b9eb0bcf3ce87a9877867280abe2abc91a982c267e20b6900e3ca"), looks := true }, kinds := [], alts := [], laidByText := true, laidKinds := [.data, .data, .data, .data, .sentinel, .sentinel], laidTests := true, laidLooks := .later }
def RequestConflictsUptoCardSaid : Prop := Claim7.holds Tryd.pinned (.plain (OpenSpec.upto requestConflictsSpec)) requestConflictsUptoCard
end Rows
end Go.Proofs.YtlokcmbkkfjlkaaDoor
