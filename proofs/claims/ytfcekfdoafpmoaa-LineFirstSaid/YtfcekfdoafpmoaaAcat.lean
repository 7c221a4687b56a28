/- Contracts: slices.Concat of two slices of amounts. -/
import Derived.Test.YtfcekfdoafpmoaaArows
import Derived.Lib.AppendZeros
namespace Go.Proofs.Ytfcekfdoafpmoaa
open Go.RowKit
set_option linter.unusedVariables false

def lenAt (n m k : Nat) : Nat := if k = 0 then 0 else if k = 1 then n else n + m
def catAt (l r : List P2) (k : Nat) : List P2 := if k = 0 then [] else if k = 1 then l else l ++ r
end Go.Proofs.Ytfcekfdoafpmoaa
