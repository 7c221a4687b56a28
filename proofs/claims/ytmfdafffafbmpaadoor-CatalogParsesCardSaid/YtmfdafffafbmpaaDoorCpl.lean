/- Contracts: parseNumber, parseLine. -/
import Derived.Test.YtmfdafffafbmpaaDoorCspl
import Derived.Test.YtmfdafffafbmpaaDoorCrsv
namespace Go.Proofs.YtmfdafffafbmpaaDoor
open Go.RowKit
open Go.Sort (grow)
set_option linter.unusedVariables false
set_option linter.unusedSimpArgs false

/-- The package variables of the library that a call may read: two tables, and two errors. -/
def VP (w : World) : Prop := Lib.TabIs Tryd.prog w "strings.asciiSpace" .u8 Lib.asciiSpaceTab ∧ Lib.WhiteTab 1 w ∧ (∃ tp p, w.var? Tryd.prog "strconv.ErrSyntax" = some #[.iface tp p]) ∧ ∃ tp p, w.var? Tryd.prog "strconv.ErrRange" = some #[.iface tp p]
theorem white_below {g : Nat} {w w' : World} (h : Lib.WhiteTab g w) (hb : Below w.heap.size w w') : Lib.WhiteTab g w' := by
  obtain ⟨T, oT, R, oR, h1, h2, h3, h4, h5⟩ := h
  have keep : ∀ {p : Addr} {v : Value}, w.cell? p = some v → w'.cell? p = some v := fun {p v} hp => (hb.cell (World.block_lt_of_cell? w _ hp)).trans hp
  exact ⟨T, oT, R, oR, keep h1, keep h2, keep h3, keep h4, fun i hi => keep (h5 i hi)⟩
theorem var_below {P : Program} {w w' : World} {name : String} {cs : Array Value} (h : w.var? P name = some cs) (hb : Below w.heap.size w w') : w'.var? P name = some cs := by
  unfold World.var? at *
  cases hg : P.globalNamed name with
  | none => simp [hg] at h
  | some g =>
    simp only [hg, Option.bind_some] at h ⊢
    have hlt : g < w.heap.size := by
      rcases Nat.lt_or_ge g w.heap.size with h' | h'
      · exact h'
      · rw [Array.getElem?_eq_none h'] at h; cases h
    rw [hb.block g hlt]
    exact h
theorem VP.below {w w' : World} (h : VP w) (hb : Below w.heap.size w w') : VP w' := by
  obtain ⟨h1, h4, ⟨tp, p, h2⟩, tq, q, h3⟩ := h
  exact ⟨var_below h1 hb, white_below h4 hb, ⟨tp, p, var_below h2 hb⟩, tq, q, var_below h3 hb⟩

/-- The end of strconv.Atoi with an error. -/
def AtoiErr (w : World) (e : Ending) (w' : World) : Prop := ∃ (m : Int) (k : Nat), e = .returned (.tuple #[.int .i64 m, .iface 116 (.pointer (some ⟨k, 0, none⟩))]) ∧ Below w.heap.size w w'
theorem atoi_ok (s : ByteArray) (hs : s.size ≤ 140737488351232) (w : World) {v : Int} (h : Hid (Lib.atoiAll s.data.toList = .ok v)) :
    Calls Tryd.prog 75 #[.string s] w fun e w' => e = .returned (.tuple #[.int .i64 v, .nilIface]) ∧ Below w.heap.size w w' :=
  (Tryd.strconv_Atoi_ok s (by omega) v h.out w).mono fun _ _ ⟨he, hw⟩ => ⟨he, by
    rcases hw with rfl | ⟨t, rfl⟩
    · exact Below.refl _ _
    · exact Lib.bytesWorld_below _ _ _⟩
theorem atoi_bad (s : ByteArray) (hs : s.size ≤ 140737488351232) (w : World) (hV : VP w) (h : Hid (∀ v, ¬ Lib.atoiAll s.data.toList = .ok v)) :
    Calls Tryd.prog 75 #[.string s] w (AtoiErr w) := by
  obtain ⟨_, _, ⟨tp, p, h2⟩, tq, q, h3⟩ := hV
  cases ha : Lib.atoiAll s.data.toList
  · exact absurd ha (h.out _)
  · exact (Tryd.strconv_Atoi_syntax_var s (by omega) ha tp p w h2).mono fun _ _ ⟨N, he, _, _, hb⟩ => ⟨_, N, he, hb⟩
  · exact (Tryd.strconv_Atoi_range_var s (by omega) ha tq q w h3).mono fun _ _ ⟨N, he, _, _, hb⟩ => ⟨_, N, he, hb⟩
theorem number_is (s : ByteArray) (hs : s.size ≤ 140737488351232) (w : World) (hV : VP w) {v : Int} (hv : Hid (numW s.data.toList = v)) :
    Calls Tryd.prog 68 #[.string s] w fun e w' => e = .returned (.int .i64 v) ∧ Below w.heap.size w w' := by
  have HV := Lib.hid hV
  clear hV
  by_cases h : ∃ u, Lib.atoiAll s.data.toList = .ok u
  · obtain ⟨u, hu0⟩ := h
    have hu := Lib.hid hu0
    have e : u = v := by have := hv.out; unfold numW at this; rw [hu0] at this; exact this
    subst e
    clear hu0 hv
    go_enter Tryd.func68, Tryd.ntmps68
    go_wp2_with (first | (go_at_call 75; refine (atoi_ok _ hs _ hu).mono ?_; rintro e W1 ⟨rfl, hb1⟩; have HB1 := Lib.hid hb1; clear hb1))
    go_ret
    exact ⟨rfl, HB1.out⟩
  · have hu : Hid (∀ v, ¬ Lib.atoiAll s.data.toList = .ok v) := fun v hh => h ⟨v, hh⟩
    have e : v = -1 := by
      have := hv.out
      unfold numW at this
      cases ha : Lib.atoiAll s.data.toList with
      | ok u => exact absurd ha (hu.out u)
      | _ => rw [ha] at this; exact this.symm
    subst e
    clear h hv
    go_enter Tryd.func68, Tryd.ntmps68
    go_wp2_with (first | (go_at_call 75; refine (atoi_bad _ hs _ HV.out hu).mono ?_; rintro e W1 ⟨m, k, rfl, hb1⟩; have HB1 := Lib.hid hb1; clear hb1))
    go_ret
    exact ⟨rfl, HB1.out⟩
theorem fields_is (s : ByteArray) (hs : s.size ≤ 100000) (w : World) (hV : VP w) {xs : List (List UInt8)} (hx : Hid (Lib.fieldsD s.data.toList = xs)) {n : Nat} (hn : Hid (xs.length = n)) :
    Calls Tryd.prog 67 #[.string s] w fun e w' => ∃ g, e = .returned (.slice (some ⟨g, 0, none⟩) n n) ∧ (∀ i x, xs[i]? = some x → w'.cell? ⟨g, i, none⟩ = some (.string (mkB x))) ∧ g < w'.heap.size ∧ w.heap.size ≤ g ∧ Below w.heap.size w w' := by
  have := Tryd.strings_Fields_any s w (by omega) hV.1 hV.2.1
  refine this.mono fun e w' ⟨g, he, hg, ho, hb⟩ => ?_
  rw [hx.out, hn.out] at he ho
  have hlt : g < w'.heap.size := (ho.lt g rfl).2
  refine ⟨g, he, fun i x hi => ?_, hlt, hg, hb⟩
  have h1 : i < n := by rw [← hn.out]; exact (List.getElem?_eq_some_iff.1 hi).1
  have := ho.cellAt i (by omega)
  rw [List.getElem?_map, hi] at this
  exact this
end Go.Proofs.YtmfdafffafbmpaaDoor
