/- From the variables that a row lists to what the walks ask of the world; a world in which they lie so. -/
import Derived.Test.YtchffamnamhcdaaDoorCards
import Derived.Test.YtchffamnamhcdaaDoorIawake
import Derived.Stop.LaidErr
import Derived.MakeChecks
import Derived.Lay
import Derived.Lib.LaidTab
namespace Go.Proofs.YtchffamnamhcdaaDoor
open Go.RowKit

abbrev laidL : List (String × DataW Unit) := Rows.identNextRow.laid
theorem gPow : Tryd.prog.globalNamed "internal/strconv.uint64pow10" = some 2 := by kernel_rfl
theorem gPowType : (Tryd.prog.globals[2]?).map (·.type) = some 123 := by kernel_rfl
theorem cellsPow : Tryd.prog.cellsOf 123 = 20 := by kernel_rfl
theorem cellsU64 : Tryd.prog.cellsOf 73 = 1 := by kernel_rfl
theorem gRange : Tryd.prog.globalNamed "strconv.ErrRange" = some 1 := by kernel_rfl
theorem gRangeType : (Tryd.prog.globals[1]?).map (·.type) = some 63 := by kernel_rfl
theorem gSyntax : Tryd.prog.globalNamed "strconv.ErrSyntax" = some 0 := by kernel_rfl
theorem gSyntaxType : (Tryd.prog.globals[0]?).map (·.type) = some 63 := by kernel_rfl
theorem cellsErr : Tryd.prog.cellsOf 129 = 1 := by kernel_rfl
theorem cellsStr : Tryd.prog.cellsOf 9 = 1 := by kernel_rfl
theorem laid_plain (w : World) : laidMetH Tryd.prog laidL w = laidMet Tryd.prog laidL w := MakeChecks.laidMetH_plain _ _ _ (by kernel_rfl)
theorem laid_met (os : Os) (args : Array Value) : laidMetH Tryd.prog laidL ((World.laidAll Tryd.prog os laidL).forCall (fun _ _ => 0) ⟨#[], args, []⟩).memory := by
  rw [laid_plain]
  exact laidMet_laidAll _ (by kernel_rfl) (by kernel_rfl)
theorem powData : (Rows.laid_internal_strconv_uint64pow10 : DataW Unit) = Lib.tabData .u64 Lib.pow10Tab := by kernel_rfl
theorem star : "*" ++ "errors.errorString" = "*errors.errorString" := by decide
theorem rowErr (u : TypeId) (h : Tryd.prog.typeName? 3 u = some "*errors.errorString") : u = 127 :=
  typeName_ptr_named (nm := "errors.errorString") (by rw [star]; kernel_rfl) (by kernel_rfl) (by decide) u (by rw [star]; exact h)
/-- What the row's list gives. -/
theorem vars_of {W : World} (h : laidMetH Tryd.prog laidL W) : Vars W := by
  rw [laid_plain] at h
  have h3 : laidMet Tryd.prog (("internal/strconv.uint64pow10", Rows.laid_internal_strconv_uint64pow10) :: laidL.drop 3) W := h.tail.tail
  have h5 : laidMet Tryd.prog (("strconv.ErrRange", Rows.laid_strconv_ErrRange) :: laidL.drop 5) W := h3.tail.tail
  have h6 : laidMet Tryd.prog (("strconv.ErrSyntax", Rows.laid_strconv_ErrSyntax) :: laidL.drop 6) W := h5.tail
  rw [powData] at h3
  obtain ⟨a, _, ha, _⟩ := laid_sentinel h5 gRange gRangeType Tryd.underlying63 rowErr Tryd.underlying127 Tryd.underlying129 rfl rfl Tryd.underlying9 cellsErr cellsStr
  obtain ⟨b, _, hb, _⟩ := laid_sentinel h6 gSyntax gSyntaxType Tryd.underlying63 rowErr Tryd.underlying127 Tryd.underlying129 rfl rfl Tryd.underlying9 cellsErr cellsStr
  exact ⟨Lib.tabIs_of_head gPow gPowType Tryd.underlying123 Tryd.underlying73 cellsU64 cellsPow h3, ⟨_, _, hb⟩, _, _, ha⟩
end Go.Proofs.YtchffamnamhcdaaDoor
