/- Opening the arguments of a statement: resources, atoms, slices of resources and of bools; what the frames of this package use. -/
import Derived.Test.YtmfdafffafbmpaaDoorClaid
import Derived.Test.YtmfdafffafbmpaaDoorCrows
import Derived.Test.YtmfdafffafbmpaaDoorRows
import Derived.WalkKit
import Derived.ProofKit
import Derived.OpenShut
import Derived.ShutString
import Derived.ChangeOld
import Derived.Below
import Derived.Deep.CondSized
import Derived.Lib.SmallJoins
import Derived.Deep.Slices
import Derived.Deep.Strs
import Derived.Deep.SlicePairs
namespace Go.Proofs.YtmfdafffafbmpaaDoor
open Go.ChangeShapes Go.WideShapes Go.ChangeAt Go.RowKit Go.Joins
set_option linter.unusedVariables false

theorem own : ownKnob Tryd.prog.godebug = none := by kernel_rfl
theorem laidOut : laidOutB Tryd.prog = true := by kernel_rfl
section
variable {H : Type} {enc : TypeId × Value → H} {w : World} {base : Nat} {spare : Nat → Bool} {held : Bool}
theorem cells_am : Tryd.prog.cellsOf 39 = 2 := by kernel_rfl
theorem cells_res : Tryd.prog.cellsOf 26 = 4 := by kernel_rfl
theorem cells_atom : Tryd.prog.cellsOf 41 = 3 := by kernel_rfl
theorem cells_int : Tryd.prog.cellsOf 3 = 1 := by kernel_rfl
theorem cells_string : Tryd.prog.cellsOf 9 = 1 := by kernel_rfl
set_option maxRecDepth 100000 in
theorem open_res {r : Reach} {b0 : Nat} {v : Value} {d : DataW H} {p : List MemPlace} (hv : Value.okWide Tryd.prog w r b0 26 v) (h : DataW.Trod enc Tryd.prog w base spare held 26 v d p) :
    ∃ (s : ByteArray) (a b c : Int), v = .agg #[.string s, .int .i64 a, .int .i64 b, .int .i64 c] ∧ d = .agg [.lit (.string s.data.toList), .lit (.int .i64 a), .lit (.int .i64 b), .lit (.int .i64 c)] ∧ p = [] ∧ s.size ≤ maxLen ∧ (Lit.int .i64 a).wf = true ∧ (Lit.int .i64 b).wf = true ∧ (Lit.int .i64 c).wf = true := by
  obtain ⟨c0, c1, c2, c3, y0, y1, y2, y3, m, rfl, rfl, rfl, hy0, hy1, hy2, hy3⟩ := open_agg4 Tryd.underlying26 (by kernel_rfl) cells_res hv h
  obtain ⟨s, e0, rfl, ws⟩ := DataW.trod_string Tryd.underlying9 hy0
  obtain ⟨a, e1, rfl, wa⟩ := DataW.trod_int Tryd.underlying3 hy1
  obtain ⟨b, e2, rfl, wb⟩ := DataW.trod_int Tryd.underlying3 hy2
  obtain ⟨c, e3, rfl, wc⟩ := DataW.trod_int Tryd.underlying3 hy3
  simp at e0 e1 e2 e3
  subst e0 e1 e2 e3
  exact ⟨s, a, b, c, rfl, rfl, rfl, ws, wa, wb, wc⟩
set_option maxRecDepth 100000 in
theorem shut_res {s : ByteArray} {a b c : Int} (ws : s.size ≤ maxLen) (wa : (Lit.int .i64 a).wf = true) (wb : (Lit.int .i64 b).wf = true) (wc : (Lit.int .i64 c).wf = true) :
    DataW.Trod enc Tryd.prog w base spare held 26 (.agg #[.string s, .int .i64 a, .int .i64 b, .int .i64 c]) (.agg [.lit (.string s.data.toList), .lit (.int .i64 a), .lit (.int .i64 b), .lit (.int .i64 c)]) [] :=
  shut_agg4 (y0 := (.lit (.string s.data.toList), [])) (y1 := (.lit (.int .i64 a), [])) (y2 := (.lit (.int .i64 b), [])) (y3 := (.lit (.int .i64 c), [])) Tryd.underlying26 (by kernel_rfl) cells_res ⟨1, by simp [DataW.trod, Tryd.underlying9, ws]⟩ ⟨1, by simp [DataW.trod, Tryd.underlying3, wa]⟩ ⟨1, by simp [DataW.trod, Tryd.underlying3, wb]⟩ ⟨1, by simp [DataW.trod, Tryd.underlying3, wc]⟩
set_option maxRecDepth 100000 in
theorem open_atom {r : Reach} {b0 : Nat} {v : Value} {d : DataW H} {p : List MemPlace} (hv : Value.okWide Tryd.prog w r b0 41 v) (h : DataW.Trod enc Tryd.prog w base spare held 41 v d p) :
    ∃ (s : ByteArray) (a b : Int), v = .agg #[.string s, .int .i64 a, .int .i64 b] ∧ d = .agg [.lit (.string s.data.toList), .agg [.lit (.int .i64 a), .lit (.int .i64 b)]] ∧ p = [] ∧ s.size ≤ maxLen ∧ (Lit.int .i64 a).wf = true ∧ (Lit.int .i64 b).wf = true := by
  obtain ⟨cs, rfl, hsz⟩ := okWide_struct Tryd.underlying41 hv
  obtain ⟨c0, c1, c2, rfl⟩ := array3 (hsz.trans cells_atom)
  obtain ⟨fuel, hf⟩ := h
  obtain ⟨y0, y1, n, hx, _, h0, h1⟩ := trod_struct2 Tryd.underlying41 hf
  obtain ⟨z0, z1, m, hy, _, g0, g1⟩ := trod_struct2 Tryd.underlying39 h1
  simp [Value.cells, cells_string, cells_am, cells_int] at h0 g0 g1
  obtain ⟨s, e0, rfl, ws⟩ := DataW.trod_string Tryd.underlying9 h0
  obtain ⟨a, e1, rfl, wa⟩ := DataW.trod_int Tryd.underlying3 g0
  obtain ⟨b, e2, rfl, wb⟩ := DataW.trod_int Tryd.underlying3 g1
  simp at e0 e1 e2
  subst e0 e1 e2
  subst hy
  simp only [Prod.mk.injEq] at hx
  exact ⟨s, a, b, rfl, hx.1, hx.2, ws, wa, wb⟩
set_option maxRecDepth 100000 in
theorem shut_atom {s : ByteArray} {a b : Int} (ws : s.size ≤ maxLen) (wa : (Lit.int .i64 a).wf = true) (wb : (Lit.int .i64 b).wf = true) :
    DataW.Trod enc Tryd.prog w base spare held 41 (.agg #[.string s, .int .i64 a, .int .i64 b]) (.agg [.lit (.string s.data.toList), .agg [.lit (.int .i64 a), .lit (.int .i64 b)]]) [] := by
  have t1 : DataW.trod enc Tryd.prog w base spare held 2 39 [.int .i64 a, .int .i64 b] = some (.agg [.lit (.int .i64 a), .lit (.int .i64 b)], []) :=
    trod_struct2_mk (y0 := (.lit (.int .i64 a), [])) (y1 := (.lit (.int .i64 b), [])) Tryd.underlying39 (by simp [cells_am]) (by simp [cells_int, DataW.trod, Tryd.underlying3, wa]) (by simp [cells_int, DataW.trod, Tryd.underlying3, wb])
  refine ⟨3, ?_⟩
  exact trod_struct2_mk (y0 := (.lit (.string s.data.toList), [])) (y1 := (.agg [.lit (.int .i64 a), .lit (.int .i64 b)], [])) Tryd.underlying41 (by simp [cells_atom, Value.cells]) (by simp [cells_string, Value.cells, DataW.trod, Tryd.underlying9, ws]) (by simpa [cells_am, Value.cells] using t1)
end

set_option maxRecDepth 100000 in
theorem open_ress {H : Type} {enc : TypeId × Value → H} {W : World} {held : Bool} {a : Option Addr} {len cap : Nat} {d : DataW H} {p : List MemPlace}
    (h : DataW.Trod enc Tryd.prog W 0 (fun _ => true) held 24 (.slice a len cap) d p) (hs : ∀ el sp, d = .slice el sp → (el.length + sp.length) * 40 ≤ reachBytes) : ∃ l, InR W a len cap l := by
  obtain ⟨fuel, hf⟩ := h
  rcases Go.Deep.open_slice Tryd.underlying24 hf with ⟨hcs, _⟩ | ⟨x, l, c, m, n, D, Pl, hcs, hb, hl, hm, hmm, hx, hel⟩
  · simp [Value.cells] at hcs
    obtain ⟨rfl, rfl, rfl⟩ := hcs
    exact ⟨[], rfl, fun h => absurd rfl h, Nat.le_refl _, by omega⟩
  · simp [Value.cells] at hcs
    obtain ⟨rfl, rfl, rfl⟩ := hcs
    simp only [if_true] at hmm
    simp only [Prod.mk.injEq] at hx
    have hr := hs _ _ hx.1
    simp only [List.length_map, List.length_range, reachBytes] at hr
    have each : ∀ i, i < m → ∃ q : P4, W.cell? (x.add (i * 4)) = some (.string q.1) ∧ W.cell? (x.add (i * 4 + 1)) = some (.int .i64 q.2.1) ∧ W.cell? (x.add (i * 4 + 2)) = some (.int .i64 q.2.2.1) ∧ W.cell? (x.add (i * 4 + 3)) = some (.int .i64 q.2.2.2) := by
      intro i hi
      obtain ⟨cs', h1, h2⟩ := hel i hi
      rw [cells_res] at h1
      obtain ⟨_, hlen, hcell⟩ := World.cells?_some h1
      obtain ⟨y0, y1, y2, y3, k, _, _, g0, g1, g2, g3⟩ := trod_struct4 Tryd.underlying26 h2
      obtain ⟨v0, v1, v2, v3, hv⟩ := array4 (cs := cs'.toArray) (by simpa using hlen)
      obtain rfl : cs' = [v0, v1, v2, v3] := by simpa using congrArg Array.toList hv
      simp [cells_int, cells_string] at g0 g1 g2 g3
      obtain ⟨z0, e0, _, _⟩ := DataW.trod_string Tryd.underlying9 g0
      obtain ⟨z1, e1, _, _⟩ := DataW.trod_int Tryd.underlying3 g1
      obtain ⟨z2, e2, _, _⟩ := DataW.trod_int Tryd.underlying3 g2
      obtain ⟨z3, e3, _, _⟩ := DataW.trod_int Tryd.underlying3 g3
      simp at e0 e1 e2 e3
      subst e0 e1 e2 e3
      have c0 := hcell 0 (by omega)
      have c1 := hcell 1 (by omega)
      have c2 := hcell 2 (by omega)
      have c3 := hcell 3 (by omega)
      rw [Go.Deep.add_add] at c0 c1 c2 c3
      exact ⟨(z0, z1, z2, z3), by simpa using c0, by simpa using c1, by simpa using c2, by simpa using c3⟩
    obtain ⟨q, hq⟩ := Go.Deep.choose_lt each
    refine ⟨(List.range len).map q, by simp, fun hne => ?_, hl, by omega⟩
    have hpos : 0 < len := by
      rcases Nat.eq_zero_or_pos len with h0 | h0
      · rw [h0] at hne; exact absurd rfl hne
      · exact h0
    obtain ⟨b, off, spot⟩ := x
    have h0 := (hq 0 (by omega)).1
    have hspot : spot = none := by simpa [Addr.add] using World.cell?_spot h0
    subst hspot
    refine ⟨b, off, rfl, ?_, fun i hi => ?_⟩
    · have := World.block_lt_of_cell? W _ h0
      rwa [add_at] at this
    · have hi' : i < len := by simpa using hi
      obtain ⟨c0, c1, c2, c3⟩ := hq i (by omega)
      rw [add_at] at c0 c1 c2 c3
      have e : ((List.range len).map q).getD i default = q i := by
        rw [List.getD_eq_getElem?_getD, List.getElem?_eq_getElem hi]
        simp
      rw [e]
      exact ⟨c0, by rw [Nat.add_assoc]; exact c1, by rw [Nat.add_assoc]; exact c2, by rw [Nat.add_assoc]; exact c3⟩

/-- A slice of bools that came in. -/
structure InB (w : World) (A : Option Addr) (n c : Nat) (l : List Bool) : Prop where
  len : l.length = n
  rd : l ≠ [] → ∃ b o, A = some ⟨b, o, none⟩ ∧ b < w.heap.size ∧ ∀ i, i < l.length → w.cell? ⟨b, o + i, none⟩ = some (.bool (l.getD i false))
  fit : n ≤ c
  big : n ≤ 140737488355328
set_option maxRecDepth 100000 in
theorem open_boolsB {H : Type} {enc : TypeId × Value → H} {W : World} {held : Bool} {a : Option Addr} {len cap : Nat} {d : DataW H} {p : List MemPlace}
    (h : DataW.Trod enc Tryd.prog W 0 (fun _ => true) held 47 (.slice a len cap) d p) (hs : ∀ el sp, d = .slice el sp → (el.length + sp.length) * 1 ≤ reachBytes) : ∃ l, InB W a len cap l := by
  obtain ⟨fuel, hf⟩ := h
  rcases Go.Deep.open_slice1 Tryd.underlying47 (by kernel_rfl) hf with ⟨hcs, _⟩ | ⟨x, l, c, m, n, V, D, Pl, hcs, hb, hl, hm, hmm, hx, hel⟩
  · simp [Value.cells] at hcs
    obtain ⟨rfl, rfl, rfl⟩ := hcs
    exact ⟨[], rfl, fun h => absurd rfl h, Nat.le_refl _, by omega⟩
  · simp [Value.cells] at hcs
    obtain ⟨rfl, rfl, rfl⟩ := hcs
    simp only [if_true] at hmm
    simp only [Prod.mk.injEq] at hx
    have hr := hs _ _ hx.1
    simp only [List.length_map, List.length_range, reachBytes] at hr
    have each : ∀ i, i < m → ∃ q : Bool, W.cell? (x.add i) = some (.bool q) := by
      intro i hi
      obtain ⟨h1, h2⟩ := hel i hi
      obtain ⟨b, e0, _⟩ := DataW.trod_bool Tryd.underlying4 h2
      simp at e0
      exact ⟨b, by rw [h1, e0]⟩
    obtain ⟨q, hq⟩ := Go.Deep.choose_lt each
    refine ⟨(List.range len).map q, by simp, fun hne => ?_, hl, by omega⟩
    have hpos : 0 < len := by
      rcases Nat.eq_zero_or_pos len with h0 | h0
      · rw [h0] at hne; exact absurd rfl hne
      · exact h0
    obtain ⟨b, off, spot⟩ := x
    have h0 := hq 0 (by omega)
    have hspot : spot = none := by simpa [Addr.add] using World.cell?_spot h0
    subst hspot
    refine ⟨b, off, rfl, ?_, fun i hi => ?_⟩
    · have := World.block_lt_of_cell? W _ h0
      rwa [add_at] at this
    · have hi' : i < len := by simpa using hi
      have c0 := hq i (by omega)
      rw [add_at] at c0
      have e : ((List.range len).map q).getD i false = q i := by
        rw [List.getD_eq_getElem?_getD, List.getElem?_eq_getElem hi]
        simp
      rw [e]
      exact c0
end Go.Proofs.YtmfdafffafbmpaaDoor
