/-
  NARROWER THAN 'FOR EVERY INPUT', by the rows' own cells (each row's printed sentence says how): NormalBlocking: loops.
  DERIVED. THE GIVEN ROWS OF THIS SEAT. 4 by the template 'for every input the law returns true; each argument reads behind the call as it read before'; 0 by the template 'total and deterministic' (their statements: YtohjllnfnkajjaaGreatTotals.lean).
  GIVEN WITH THE SEED: the statements are not yours to turn. If you find one false, say at which input.
  Laid BY PROGRAM, IN A SANDBOX (cutbox-rows.mjs): the forced cells as the released guide's own fill.sh prints them over the translation 43977ad7b35aa04e… (all of the seat's roots in one cut). By AI agents, Wed Nov 11 2026. No macro, syntax, notation, axiom, sorry.
-/
import Derived.Test.YtohjllnfnkajjaaGreatChecked
import GoSem.Claim
import GoSem.ClaimJoined
import GoSem.ClaimMapViews
import Derived.JoinedTies
import Derived.KernelRfl
namespace Go.Proofs.YtohjllnfnkajjaaGreat
/- THE CELL 'sum', in the pinned program and in every row, IS THE sha256 OF THE DUMP (.gsa) THAT YtohjllnfnkajjaaGreatProg.lean LOADS. Nothing in Lean hashes anything: it is a label: what it is worth is what the hold of that sum in a sandbox is worth. -/
noncomputable def Tryz.pinned : Pinned := { name := "ytohjllnfnkajjaagreat", sum := "43977ad7b35aa04e33aff0f5becabc1ab35894c9465563bf7fdb65cab4da597b", checked := Tryz.checked }
namespace Rows
def none {H : Type} : Left H := { results := [], args := [] }

/-- 'clusterlockslaw09.NormalBlocking': WHATEVER THE INPUT: true; the input reads as it did. -/
def normalBlockingSpec : ChangeSpec := { name := "normalBlocking", fn := fun _ => fun
  | [d] => { results := [.lit (.bool true)], args := [d] }
  | _ => none }
def normalBlockingRow : OpenClaim := { program := "ytohjllnfnkajjaagreat", sum := "43977ad7b35aa04e33aff0f5becabc1ab35894c9465563bf7fdb65cab4da597b", func := "clusterlocks/clusterlockslaw09.NormalBlocking", spec := "normalBlocking", unfollowed := true, recurses := true, loops := true, apart := false }
def NormalBlockingSaid : Prop := normalBlockingRow.holds Tryz.pinned (OpenSpec.ofChange normalBlockingSpec)

/-- ITS FALSE NEIGHBOUR: 'it returns false'. Refute it at one input. -/
def normalBlockingWrong : ChangeSpec := { name := "normalBlocking", fn := fun _ => fun
  | [d] => { results := [.lit (.bool false)], args := [d] }
  | _ => none }
def NormalBlockingWrongFalsely : Prop := normalBlockingRow.holds Tryz.pinned (OpenSpec.ofChange normalBlockingWrong)

/-- 'clusterlockslaw09.NormalCovers': WHATEVER THE INPUT: true; the input reads as it did. -/
def normalCoversSpec : ChangeSpec := { name := "normalCovers", fn := fun _ => fun
  | [d1, d2] => { results := [.lit (.bool true)], args := [d1, d2] }
  | _ => none }
def normalCoversRow : OpenClaim := { program := "ytohjllnfnkajjaagreat", sum := "43977ad7b35aa04e33aff0f5becabc1ab35894c9465563bf7fdb65cab4da597b", func := "clusterlocks/clusterlockslaw09.NormalCovers", spec := "normalCovers", unfollowed := true, recurses := true, apart := false }
def NormalCoversSaid : Prop := normalCoversRow.holds Tryz.pinned (OpenSpec.ofChange normalCoversSpec)

/-- ITS FALSE NEIGHBOUR: 'it returns false'. Refute it at one input. -/
def normalCoversWrong : ChangeSpec := { name := "normalCovers", fn := fun _ => fun
  | [d1, d2] => { results := [.lit (.bool false)], args := [d1, d2] }
  | _ => none }
def NormalCoversWrongFalsely : Prop := normalCoversRow.holds Tryz.pinned (OpenSpec.ofChange normalCoversWrong)

/-- 'clusterlockslaw09.NormalSimpler': WHATEVER THE INPUT: true; the input reads as it did. -/
def normalSimplerSpec : ChangeSpec := { name := "normalSimpler", fn := fun _ => fun
  | [d] => { results := [.lit (.bool true)], args := [d] }
  | _ => none }
def normalSimplerRow : OpenClaim := { program := "ytohjllnfnkajjaagreat", sum := "43977ad7b35aa04e33aff0f5becabc1ab35894c9465563bf7fdb65cab4da597b", func := "clusterlocks/clusterlockslaw09.NormalSimpler", spec := "normalSimpler", unfollowed := true, recurses := true, apart := false }
def NormalSimplerSaid : Prop := normalSimplerRow.holds Tryz.pinned (OpenSpec.ofChange normalSimplerSpec)

/-- ITS FALSE NEIGHBOUR: 'it returns false'. Refute it at one input. -/
def normalSimplerWrong : ChangeSpec := { name := "normalSimpler", fn := fun _ => fun
  | [d] => { results := [.lit (.bool false)], args := [d] }
  | _ => none }
def NormalSimplerWrongFalsely : Prop := normalSimplerRow.holds Tryz.pinned (OpenSpec.ofChange normalSimplerWrong)

/-- 'clusterlockslaw09.NormalBack': WHATEVER THE INPUT: true; the input reads as it did. -/
def normalBackSpec : ChangeSpec := { name := "normalBack", fn := fun _ => fun
  | [d] => { results := [.lit (.bool true)], args := [d] }
  | _ => none }
def normalBackRow : OpenClaim := { program := "ytohjllnfnkajjaagreat", sum := "43977ad7b35aa04e33aff0f5becabc1ab35894c9465563bf7fdb65cab4da597b", func := "clusterlocks/clusterlockslaw09.NormalBack", spec := "normalBack", unfollowed := true, recurses := true, apart := false }
def NormalBackSaid : Prop := normalBackRow.holds Tryz.pinned (OpenSpec.ofChange normalBackSpec)

/-- ITS FALSE NEIGHBOUR: 'it returns false'. Refute it at one input. -/
def normalBackWrong : ChangeSpec := { name := "normalBack", fn := fun _ => fun
  | [d] => { results := [.lit (.bool false)], args := [d] }
  | _ => none }
def NormalBackWrongFalsely : Prop := normalBackRow.holds Tryz.pinned (OpenSpec.ofChange normalBackWrong)

/- THE SECOND FORM. 'bulk': how many values and letters a reading holds, each counted each time it is reached (what is shared counts as often as it is met; a slice's spare places count too). A statement '..UptoSaid' is the law's where the arguments, and the package variables that the reading takes, are together of bulk at most 1048576: NARROWER than '..Said'. Prove '..Said' where nothing that the law and all that it calls make is longer than what came in: it says more and counts as full. Else prove '..UptoSaid'. A law counts once. -/
mutual
def uptoBulk {H : Type} : DataW H → Nat
  | .lit (.string bytes) => bytes.length + 1
  | .lit _ => 1
  | .nil => 1
  | .ptr d => uptoBulk d + 1
  | .slice elems spare => uptoBulkAll elems + uptoBulkAll spare + 1
  | .agg parts => uptoBulkAll parts + 1
  | .iface _ d => uptoBulk d + 1
  | .map entries => uptoBulkEntries entries + 1
  | .held _ => 1
def uptoBulkAll {H : Type} : List (DataW H) → Nat
  | [] => 0
  | d :: r => uptoBulk d + uptoBulkAll r
def uptoBulkEntries {H : Type} : List (Lit × DataW H) → Nat
  | [] => 0
  | x :: r => uptoBulkEntry x + uptoBulkEntries r
def uptoBulkEntry {H : Type} : Lit × DataW H → Nat
  | (.string bytes, d) => bytes.length + uptoBulk d + 1
  | (_, d) => uptoBulk d + 1
 end
def uptoSmall : (H : Type) → List (DataW H) → Bool := fun _ ds => decide (uptoBulkAll ds ≤ 1048576)
def OpenSpec.upto (s : _root_.Go.ChangeSpec) : _root_.Go.OpenSpec := { _root_.Go.OpenSpec.ofChange s with cond := some uptoSmall }

/-- 'clusterlockslaw09.NormalBlocking', WHERE WHAT IT READS IS OF BULK AT MOST 1048576: true; the input reads as it did. -/
def normalBlockingUptoRow : OpenClaim := { program := "ytohjllnfnkajjaagreat", sum := "43977ad7b35aa04e33aff0f5becabc1ab35894c9465563bf7fdb65cab4da597b", func := "clusterlocks/clusterlockslaw09.NormalBlocking", spec := "normalBlocking", unfollowed := true, recurses := true, loops := true, apart := false, narrowed := true }
def NormalBlockingUptoSaid : Prop := normalBlockingUptoRow.holds Tryz.pinned (OpenSpec.upto normalBlockingSpec)

/-- 'clusterlockslaw09.NormalCovers', WHERE WHAT IT READS IS OF BULK AT MOST 1048576: true; the input reads as it did. -/
def normalCoversUptoRow : OpenClaim := { program := "ytohjllnfnkajjaagreat", sum := "43977ad7b35aa04e33aff0f5becabc1ab35894c9465563bf7fdb65cab4da597b", func := "clusterlocks/clusterlockslaw09.NormalCovers", spec := "normalCovers", unfollowed := true, recurses := true, apart := false, narrowed := true }
def NormalCoversUptoSaid : Prop := normalCoversUptoRow.holds Tryz.pinned (OpenSpec.upto normalCoversSpec)

/-- 'clusterlockslaw09.NormalSimpler', WHERE WHAT IT READS IS OF BULK AT MOST 1048576: true; the input reads as it did. -/
def normalSimplerUptoRow : OpenClaim := { program := "ytohjllnfnkajjaagreat", sum := "43977ad7b35aa04e33aff0f5becabc1ab35894c9465563bf7fdb65cab4da597b", func := "clusterlocks/clusterlockslaw09.NormalSimpler", spec := "normalSimpler", unfollowed := true, recurses := true, apart := false, narrowed := true }
def NormalSimplerUptoSaid : Prop := normalSimplerUptoRow.holds Tryz.pinned (OpenSpec.upto normalSimplerSpec)

/-- 'clusterlockslaw09.NormalBack', WHERE WHAT IT READS IS OF BULK AT MOST 1048576: true; the input reads as it did. -/
def normalBackUptoRow : OpenClaim := { program := "ytohjllnfnkajjaagreat", sum := "43977ad7b35aa04e33aff0f5becabc1ab35894c9465563bf7fdb65cab4da597b", func := "clusterlocks/clusterlockslaw09.NormalBack", spec := "normalBack", unfollowed := true, recurses := true, apart := false, narrowed := true }
def NormalBackUptoSaid : Prop := normalBackUptoRow.holds Tryz.pinned (OpenSpec.upto normalBackSpec)

end Rows
end Go.Proofs.YtohjllnfnkajjaaGreat
