/- As XMcmp, where the translation holds the table of compatibility alone (ALT="Mcmp:Mcmq"). -/
import Derived.Test.YtfcekfdoafpmoaaMval
import Derived.ChangeBears2
import Derived.Deep.RegionHeld3
import Derived.BigQuiet
import Derived.Deep.QuietTactic
namespace Go.Proofs.Ytfcekfdoafpmoaa
open Go.RowKit

def tabV : List Value := ([true, true, true, true, false, true, true, false, false, false, true, false, true, false, false, true, false, false, false, false, false, false, false, false, false] : List Bool).map .bool
theorem cell_size {w : World} {p : Addr} {v : Value} (h : w.cell? p = some v) : p.block < w.heap.size := World.block_lt_of_cell? w _ h
set_option linter.unusedSimpArgs false
end Go.Proofs.Ytfcekfdoafpmoaa
