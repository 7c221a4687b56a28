/- From the variable that a row lists to what the walks ask of the world; a world in which it lies so. -/
import Derived.Test.YthclgccgkdijbaaDoorCards
import Derived.Test.YthclgccgkdijbaaDoorMcmp
import Derived.MakeChecks
import Derived.Lay
import Derived.Lib.LaidTab
namespace Go.Proofs.YthclgccgkdijbaaDoor
open Go.RowKit

abbrev laidL : List (String × DataW Unit) := Rows.holdersValidRow.laid
theorem gTabType : (Tryd.prog.globals[0]?).map (·.type) = some 94 := by kernel_rfl
theorem laid_plain (w : World) : laidMetH Tryd.prog laidL w = laidMet Tryd.prog laidL w := MakeChecks.laidMetH_plain _ _ _ (by kernel_rfl)
theorem laid_met (os : Os) (args : Array Value) : laidMetH Tryd.prog laidL ((World.laidAll Tryd.prog os laidL).forCall (fun _ _ => 0) ⟨#[], args, []⟩).memory := by
  rw [laid_plain]
  exact laidMet_laidAll _ (by kernel_rfl) (by kernel_rfl)
/-- An array whose cells read one literal each. -/
theorem cells_of_lits {H : Type} {enc : TypeId × Value → H} {P : Program} {w : World} {base : Nat} {sp : Nat → Bool} {held : Bool} {fuel : Nat} {t e : TypeId} {n : Nat} {cs : List Value} {ds : List (DataW H)} {p : List MemPlace}
    (ht : P.underlying t = some (.array n e)) (hct : P.cellsOf t = n * P.cellsOf e)
    (h : DataW.trod enc P w base sp held fuel t cs = some (.agg ds, p)) :
    cs.length = n * P.cellsOf e ∧ ds.length = n ∧ ∀ i d, ds[i]? = some d → ∃ f q, DataW.trod enc P w base sp held f e ((cs.drop (i * P.cellsOf e)).take (P.cellsOf e)) = some (d, q) := by
  cases fuel with
  | zero => simp [DataW.trod] at h
  | succ fuel =>
    simp only [DataW.trod, ht, hct] at h
    split at h
    · rename_i hl
      obtain ⟨xs, hm, hx⟩ := Option.map_eq_some_iff.1 h
      have hxs : xs.map (·.1) = ds := by
        have := congrArg Prod.fst hx
        simpa using this
      have hxl : xs.length = n := by simpa using Lib.mapM_length hm
      refine ⟨by simpa using hl, by rw [← hxs]; simpa using hxl, fun i d hd => ?_⟩
      have hi : i < n := by
        have := (List.getElem?_eq_some_iff.1 hd).1
        rw [← hxs] at this
        simpa [hxl] using this
      obtain ⟨b, hb, hf⟩ := Lib.mapM_at hm i i (by simp [hi])
      rw [← hxs] at hd
      simp only [List.getElem?_map, hb, Option.map_some, Option.some.injEq] at hd
      subst hd
      exact ⟨fuel, b.2, hf⟩
    · cases h
theorem part_at {cs : List Value} {i c j : Nat} {v : Value} (h : (((cs.drop (i * c)).take c).drop (j * 1)).take 1 = [v]) : cs[i * c + j]? = some v := by
  have h0 : ((((cs.drop (i * c)).take c).drop (j * 1)).take 1)[0]? = some v := by rw [h]; rfl
  rw [List.getElem?_take, if_pos (by omega), List.getElem?_drop, List.getElem?_take, Nat.mul_one, Nat.add_zero] at h0
  split at h0
  · rw [List.getElem?_drop] at h0
    exact h0
  · cases h0
theorem cells_bool : Tryd.prog.cellsOf 4 = 1 := by kernel_rfl
theorem cells_row : Tryd.prog.cellsOf 93 = 5 := by kernel_rfl
set_option maxRecDepth 20000 in
/-- What the row's list gives. -/
theorem vars_of {W : World} (h : laidMetH Tryd.prog laidL W) : Vars W := by
  rw [laid_plain] at h
  obtain ⟨ps, ⟨g, t, cs, fuel, p, q, hg, ht, hvar, hd, _⟩, _⟩ := h
  obtain rfl := Option.some.inj (gTab.symm.trans hg)
  obtain rfl := Option.some.inj (gTabType.symm.trans ht)
  have hA := (cells_of_lits Tryd.underlying94 (by kernel_rfl) hd).2.2
  have step : ∀ (i j : Nat) (b : Bool) (rs : List (DataW Unit)), (match (Rows.laid_clusterlocks_mode_compatible : DataW Unit) with | .agg ds => ds[i]? | _ => none) = some (.agg rs) → rs[j]? = some (.lit (.bool b)) → cs[i * 5 + j]? = some (.bool b) := fun i j b rs h1 h2 => by
    obtain ⟨f1, q1, k1⟩ := hA i (.agg rs) h1
    obtain ⟨f2, q2, k2⟩ := (cells_of_lits Tryd.underlying93 (by kernel_rfl) k1).2.2 j _ h2
    obtain ⟨b', k3, k4⟩ := DataW.trod_bool Tryd.underlying4 k2
    rw [cells_bool, cells_row] at k3
    have e : b = b' := by simpa using congrArg Prod.fst k4
    subst e
    have := part_at k3
    simpa using this
  refine ⟨fun i hi => ?_⟩
  · rw [World.var?_cell hg hvar]
    have hc : i = 0 ∨ i = 1 ∨ i = 2 ∨ i = 3 ∨ i = 4 ∨ i = 5 ∨ i = 6 ∨ i = 7 ∨ i = 8 ∨ i = 9 ∨ i = 10 ∨ i = 11 ∨ i = 12 ∨ i = 13 ∨ i = 14 ∨ i = 15 ∨ i = 16 ∨ i = 17 ∨ i = 18 ∨ i = 19 ∨ i = 20 ∨ i = 21 ∨ i = 22 ∨ i = 23 ∨ i = 24 := by omega
    rcases hc with rfl | rfl | rfl | rfl | rfl | rfl | rfl | rfl | rfl | rfl | rfl | rfl | rfl | rfl | rfl | rfl | rfl | rfl | rfl | rfl | rfl | rfl | rfl | rfl | rfl
    · exact step 0 0 _ _ rfl rfl
    · exact step 0 1 _ _ rfl rfl
    · exact step 0 2 _ _ rfl rfl
    · exact step 0 3 _ _ rfl rfl
    · exact step 0 4 _ _ rfl rfl
    · exact step 1 0 _ _ rfl rfl
    · exact step 1 1 _ _ rfl rfl
    · exact step 1 2 _ _ rfl rfl
    · exact step 1 3 _ _ rfl rfl
    · exact step 1 4 _ _ rfl rfl
    · exact step 2 0 _ _ rfl rfl
    · exact step 2 1 _ _ rfl rfl
    · exact step 2 2 _ _ rfl rfl
    · exact step 2 3 _ _ rfl rfl
    · exact step 2 4 _ _ rfl rfl
    · exact step 3 0 _ _ rfl rfl
    · exact step 3 1 _ _ rfl rfl
    · exact step 3 2 _ _ rfl rfl
    · exact step 3 3 _ _ rfl rfl
    · exact step 3 4 _ _ rfl rfl
    · exact step 4 0 _ _ rfl rfl
    · exact step 4 1 _ _ rfl rfl
    · exact step 4 2 _ _ rfl rfl
    · exact step 4 3 _ _ rfl rfl
    · exact step 4 4 _ _ rfl rfl
end Go.Proofs.YthclgccgkdijbaaDoor
