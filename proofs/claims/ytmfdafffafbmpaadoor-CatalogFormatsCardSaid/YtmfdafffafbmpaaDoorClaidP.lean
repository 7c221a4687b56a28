/- From the seven variables that the rows of CatalogFormats and CatalogParses list to what the walks ask of the world; a world in which they lie so. -/
import Derived.Test.YtmfdafffafbmpaaDoorCards
import Derived.Test.YtmfdafffafbmpaaDoorCpl
import Derived.Test.YtmfdafffafbmpaaDoorClaid
import Derived.Stop.LaidErr
import Derived.MakeChecks
import Derived.Lay
import Derived.LaidOnce
import Derived.Lib.LaidTab
import Derived.Lib.LaidU8
namespace Go.Proofs.YtmfdafffafbmpaaDoor
open Go.RowKit Go.Shelf
set_option linter.unusedVariables false

theorem gSpace : Tryd.prog.globalNamed "strings.asciiSpace" = some 0 := by kernel_rfl
theorem gSpaceType : (Tryd.prog.globals[0]?).map (·.type) = some 84 := by kernel_rfl
theorem cellsSpace : Tryd.prog.cellsOf 84 = 256 := by kernel_rfl
theorem cellsU8 : Tryd.prog.cellsOf 5 = 1 := by kernel_rfl
theorem gRange : Tryd.prog.globalNamed "strconv.ErrRange" = some 5 := by kernel_rfl
theorem gRangeType : (Tryd.prog.globals[5]?).map (·.type) = some 59 := by kernel_rfl
theorem gSyntax : Tryd.prog.globalNamed "strconv.ErrSyntax" = some 4 := by kernel_rfl
theorem gSyntaxType : (Tryd.prog.globals[4]?).map (·.type) = some 59 := by kernel_rfl
theorem cellsErr : Tryd.prog.cellsOf 136 = 1 := by kernel_rfl
theorem cellsStr : Tryd.prog.cellsOf 9 = 1 := by kernel_rfl
theorem spaceData : (Rows.laid_strings_asciiSpace : DataW Unit) = Lib.tabData .u8 Lib.asciiSpaceTab := by kernel_rfl
theorem whiteDat : (Rows.laid_unicode_White_Space : DataW Unit) = Lib.whiteData := by kernel_rfl
theorem white_of {w : World} (h : Lib.VarReads Tryd.prog w "unicode.White_Space" Lib.whiteData) : Lib.WhiteTab 1 w :=
  whiteTab_of_reads (ρ := Tryd.lays157_ren) { Tryd.lays157 with } ⟨by kernel_rfl, by kernel_rfl, by kernel_rfl, by kernel_rfl, by kernel_rfl, by kernel_rfl, by kernel_rfl, by kernel_rfl⟩ h
theorem star : "*" ++ "errors.errorString" = "*errors.errorString" := by decide
theorem rowErr (u : TypeId) (h : Tryd.prog.typeName? 3 u = some "*errors.errorString") : u = 134 :=
  typeName_ptr_named (nm := "errors.errorString") (by rw [star]; kernel_rfl) (by kernel_rfl) (by decide) u (by rw [star]; exact h)
end Go.Proofs.YtmfdafffafbmpaaDoor
namespace Go.Proofs.YtmfdafffafbmpaaDoor.catalogFormats
open Go.RowKit
set_option linter.unusedVariables false
abbrev laidL : List (String × DataW Unit) := Rows.catalogFormatsRow.laid
abbrev Vars (w : World) : Prop := VP w
theorem laid_plain (w : World) : laidMetH Tryd.prog laidL w = laidMet Tryd.prog laidL w := MakeChecks.laidMetH_plain _ _ _ (by kernel_rfl)
theorem laid_met (os : Os) (args : Array Value) : laidMetH Tryd.prog laidL ((World.laidAll Tryd.prog os laidL).forCall (fun _ _ => 0) ⟨#[], args, []⟩).memory := by
  rw [laid_plain]
  exact laidMet_laidAll _ (by kernel_rfl) (by kernel_rfl)
theorem vars_of {W : World} (h : laidMetH Tryd.prog laidL W) : Vars W := by
  rw [laid_plain] at h
  have h4 : laidMet Tryd.prog (("strconv.ErrRange", Rows.laid_strconv_ErrRange) :: laidL.drop 4) W := h.tail.tail.tail
  have h5 : laidMet Tryd.prog (("strconv.ErrSyntax", Rows.laid_strconv_ErrSyntax) :: laidL.drop 5) W := h4.tail
  have h6 : laidMet Tryd.prog (("unicode.White_Space", Rows.laid_unicode_White_Space) :: laidL.drop 6) W := h5.tail
  have h7 : laidMet Tryd.prog (("strings.asciiSpace", Rows.laid_strings_asciiSpace) :: laidL.drop 7) W := h6.tail
  rw [spaceData] at h7
  rw [whiteDat] at h6
  obtain ⟨a, _, ha, _⟩ := laid_sentinel h4 gRange gRangeType Tryd.underlying59 rowErr Tryd.underlying134 Tryd.underlying136 rfl rfl Tryd.underlying9 cellsErr cellsStr
  obtain ⟨b, _, hb, _⟩ := laid_sentinel h5 gSyntax gSyntaxType Tryd.underlying59 rowErr Tryd.underlying134 Tryd.underlying136 rfl rfl Tryd.underlying9 cellsErr cellsStr
  exact ⟨Lib.tabIs_of_head gSpace gSpaceType Tryd.underlying84 Tryd.underlying5 cellsU8 cellsSpace h7, white_of (Lib.laidMet.reads h6 (.head _)), ⟨_, _, hb⟩, _, _, ha⟩
end Go.Proofs.YtmfdafffafbmpaaDoor.catalogFormats
namespace Go.Proofs.YtmfdafffafbmpaaDoor.catalogParses
open Go.RowKit
set_option linter.unusedVariables false
abbrev laidL : List (String × DataW Unit) := Rows.catalogParsesRow.laid
abbrev Vars (w : World) : Prop := VP w
theorem laid_plain (w : World) : laidMetH Tryd.prog laidL w = laidMet Tryd.prog laidL w := MakeChecks.laidMetH_plain _ _ _ (by kernel_rfl)
theorem laid_met (os : Os) (args : Array Value) : laidMetH Tryd.prog laidL ((World.laidAll Tryd.prog os laidL).forCall (fun _ _ => 0) ⟨#[], args, []⟩).memory := by
  rw [laid_plain]
  exact laidMet_laidAll _ (by kernel_rfl) (by kernel_rfl)
theorem vars_of {W : World} (h : laidMetH Tryd.prog laidL W) : Vars W := by
  rw [laid_plain] at h
  have h4 : laidMet Tryd.prog (("strconv.ErrRange", Rows.laid_strconv_ErrRange) :: laidL.drop 4) W := h.tail.tail.tail
  have h5 : laidMet Tryd.prog (("strconv.ErrSyntax", Rows.laid_strconv_ErrSyntax) :: laidL.drop 5) W := h4.tail
  have h6 : laidMet Tryd.prog (("unicode.White_Space", Rows.laid_unicode_White_Space) :: laidL.drop 6) W := h5.tail
  have h7 : laidMet Tryd.prog (("strings.asciiSpace", Rows.laid_strings_asciiSpace) :: laidL.drop 7) W := h6.tail
  rw [spaceData] at h7
  rw [whiteDat] at h6
  obtain ⟨a, _, ha, _⟩ := laid_sentinel h4 gRange gRangeType Tryd.underlying59 rowErr Tryd.underlying134 Tryd.underlying136 rfl rfl Tryd.underlying9 cellsErr cellsStr
  obtain ⟨b, _, hb, _⟩ := laid_sentinel h5 gSyntax gSyntaxType Tryd.underlying59 rowErr Tryd.underlying134 Tryd.underlying136 rfl rfl Tryd.underlying9 cellsErr cellsStr
  exact ⟨Lib.tabIs_of_head gSpace gSpaceType Tryd.underlying84 Tryd.underlying5 cellsU8 cellsSpace h7, white_of (Lib.laidMet.reads h6 (.head _)), ⟨_, _, hb⟩, _, _, ha⟩
end Go.Proofs.YtmfdafffafbmpaaDoor.catalogParses
