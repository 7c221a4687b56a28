/- From the six variables that the rows of this package list to what the walks ask of the world; a world in which they lie so. -/
import Derived.Test.YtlokcmbkkfjlkaaGreatDoorCards
import Derived.Test.YtlokcmbkkfjlkaaGreatDoorRtxt
import Derived.Stop.LaidErr
import Derived.MakeChecks
import Derived.Lay
import Derived.LaidOnce
import Derived.Lib.LaidTab
import Derived.Test.YtlokcmbkkfjlkaaGreatDoorRows
import Derived.WalkKit
import Derived.ProofKit
import Derived.OpenShut
import Derived.ShutString
import Derived.ChangeOld
import Derived.Below
import Derived.Deep.CondSized
import Derived.Lib.SmallJoins
import Derived.Deep.Slices
import Derived.Deep.Strs
namespace Go.Proofs.YtlokcmbkkfjlkaaGreatDoor
open Go.ChangeShapes Go.WideShapes Go.ChangeAt Go.RowKit Go.Joins
set_option linter.unusedVariables false

abbrev laidL : List (String × DataW Unit) := Rows.requestCanonicalRow.laid
abbrev Vars (w : World) : Prop := VR w
theorem gNames : Tryz.prog.globalNamed "clusterlocks/mode.names" = some 0 := by kernel_rfl
theorem gNamesType : (Tryz.prog.globals[0]?).map (·.type) = some 136 := by kernel_rfl
theorem gRange : Tryz.prog.globalNamed "strconv.ErrRange" = some 4 := by kernel_rfl
theorem gRangeType : (Tryz.prog.globals[4]?).map (·.type) = some 124 := by kernel_rfl
theorem gSyntax : Tryz.prog.globalNamed "strconv.ErrSyntax" = some 3 := by kernel_rfl
theorem gSyntaxType : (Tryz.prog.globals[3]?).map (·.type) = some 124 := by kernel_rfl
theorem cellsErr : Tryz.prog.cellsOf 170 = 1 := by kernel_rfl
theorem cellsStr : Tryz.prog.cellsOf 9 = 1 := by kernel_rfl
theorem star : "*" ++ "errors.errorString" = "*errors.errorString" := by decide
theorem rowErr (u : TypeId) (h : Tryz.prog.typeName? 3 u = some "*errors.errorString") : u = 168 :=
  typeName_ptr_named (nm := "errors.errorString") (by rw [star]; kernel_rfl) (by kernel_rfl) (by decide) u (by rw [star]; exact h)
theorem laid_plain (w : World) : laidMetH Tryz.prog laidL w = laidMet Tryz.prog laidL w := MakeChecks.laidMetH_plain _ _ _ (by kernel_rfl)
theorem laid_met (os : Os) (args : Array Value) : laidMetH Tryz.prog laidL ((World.laidAll Tryz.prog os laidL).forCall (fun _ _ => 0) ⟨#[], args, []⟩).memory := by
  rw [laid_plain]
  exact laidMet_laidAll _ (by kernel_rfl) (by kernel_rfl)
/-- An array whose cells read one literal each. -/
theorem cells_of_lits {H : Type} {enc : TypeId × Value → H} {P : Program} {w : World} {base : Nat} {sp : Nat → Bool} {held : Bool} {fuel : Nat} {t e : TypeId} {n : Nat} {cs : List Value} {ds : List (DataW H)} {p : List MemPlace}
    (ht : P.underlying t = some (.array n e)) (hct : P.cellsOf t = n * P.cellsOf e)
    (h : DataW.trod enc P w base sp held fuel t cs = some (.agg ds, p)) :
    cs.length = n * P.cellsOf e ∧ ds.length = n ∧ ∀ i d, ds[i]? = some d → ∃ f q, DataW.trod enc P w base sp held f e ((cs.drop (i * P.cellsOf e)).take (P.cellsOf e)) = some (d, q) := by
  cases fuel with
  | zero => simp [DataW.trod] at h
  | succ fuel =>
    simp only [DataW.trod, ht, hct] at h
    split at h
    · rename_i hl
      obtain ⟨xs, hm, hx⟩ := Option.map_eq_some_iff.1 h
      have hxs : xs.map (·.1) = ds := by
        have := congrArg Prod.fst hx
        simpa using this
      have hxl : xs.length = n := by simpa using Lib.mapM_length hm
      refine ⟨by simpa using hl, by rw [← hxs]; simpa using hxl, fun i d hd => ?_⟩
      have hi : i < n := by
        have := (List.getElem?_eq_some_iff.1 hd).1
        rw [← hxs] at this
        simpa [hxl] using this
      obtain ⟨b, hb, hf⟩ := Lib.mapM_at hm i i (by simp [hi])
      rw [← hxs] at hd
      simp only [List.getElem?_map, hb, Option.map_some, Option.some.injEq] at hd
      subst hd
      exact ⟨fuel, b.2, hf⟩
    · cases h
theorem one_at {cs : List Value} {j : Nat} {v : Value} (h : (cs.drop (j * 1)).take 1 = [v]) : cs[j]? = some v := by
  have h0 : ((cs.drop (j * 1)).take 1)[0]? = some v := by rw [h]; rfl
  rw [List.getElem?_take, if_pos (by omega), List.getElem?_drop, Nat.mul_one, Nat.add_zero] at h0
  exact h0
set_option maxRecDepth 20000 in
theorem names_of {W : World} (h : laidMet Tryz.prog laidL W) : VN W := by
  obtain ⟨ps, ⟨g, t, cs, fuel, p, q, hg, ht, hvar, hd, _⟩, _⟩ := h
  obtain rfl := Option.some.inj (gNames.symm.trans hg)
  obtain rfl := Option.some.inj (gNamesType.symm.trans ht)
  have hB := (cells_of_lits Tryz.underlying136 (by kernel_rfl) hd).2.2
  have stepS : ∀ (i : Nat) (s : List UInt8), (match (Rows.laid_clusterlocks_mode_names : DataW Unit) with | .agg ds => ds[i]? | _ => none) = some (.lit (.string s)) → cs[i]? = some (.string ⟨s.toArray⟩) := fun i s h1 => by
    obtain ⟨f1, q1, k1⟩ := hB i _ h1
    obtain ⟨s', k3, k4, _⟩ := DataW.trod_string Tryz.underlying9 k1
    rw [cellsStr] at k3
    have e : s = s'.data.toList := by simpa using congrArg Prod.fst k4
    subst e
    have := one_at k3
    simpa using this
  refine ⟨fun i hi => ?_⟩
  rw [World.var?_cell hg hvar]
  have hc : i = 0 ∨ i = 1 ∨ i = 2 ∨ i = 3 ∨ i = 4 := by omega
  rcases hc with rfl | rfl | rfl | rfl | rfl
  · exact stepS 0 _ rfl
  · exact stepS 1 _ rfl
  · exact stepS 2 _ rfl
  · exact stepS 3 _ rfl
  · exact stepS 4 _ rfl
theorem gPow : Tryz.prog.globalNamed "internal/strconv.uint64pow10" = some 2 := by kernel_rfl
theorem gPowType : (Tryz.prog.globals[2]?).map (·.type) = some 148 := by kernel_rfl
theorem cellsPow : Tryz.prog.cellsOf 148 = 20 := by kernel_rfl
theorem cellsU64 : Tryz.prog.cellsOf 141 = 1 := by kernel_rfl
theorem powData : (Rows.laid_internal_strconv_uint64pow10 : DataW Unit) = Lib.tabData .u64 Lib.pow10Tab := by kernel_rfl
/-- What the row's list gives. -/
theorem vars_of {W : World} (h : laidMetH Tryz.prog laidL W) : Vars W := by
  rw [laid_plain] at h
  have h3 : laidMet Tryz.prog (("internal/strconv.uint64pow10", Rows.laid_internal_strconv_uint64pow10) :: laidL.drop 4) W := h.tail.tail.tail
  rw [powData] at h3
  have h4 : laidMet Tryz.prog (("strconv.ErrRange", Rows.laid_strconv_ErrRange) :: laidL.drop 5) W := h.tail.tail.tail.tail
  have h5 : laidMet Tryz.prog (("strconv.ErrSyntax", Rows.laid_strconv_ErrSyntax) :: laidL.drop 6) W := h4.tail
  obtain ⟨a, _, ha, _⟩ := laid_sentinel h4 gRange gRangeType Tryz.underlying124 rowErr Tryz.underlying168 Tryz.underlying170 rfl rfl Tryz.underlying9 cellsErr cellsStr
  obtain ⟨b, _, hb, _⟩ := laid_sentinel h5 gSyntax gSyntaxType Tryz.underlying124 rowErr Tryz.underlying168 Tryz.underlying170 rfl rfl Tryz.underlying9 cellsErr cellsStr
  exact ⟨⟨names_of h, ⟨_, _, hb⟩, _, _, ha⟩, Lib.tabIs_of_head gPow gPowType Tryz.underlying148 Tryz.underlying141 cellsU64 cellsPow h3⟩
theorem own : ownKnob Tryz.prog.godebug = none := by kernel_rfl
theorem laidOut : laidOutB Tryz.prog = true := by kernel_rfl
end Go.Proofs.YtlokcmbkkfjlkaaGreatDoor
