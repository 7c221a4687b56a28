/- Opening the arguments of a statement: expressions, slices of resources, of bools, of integers. -/
import Derived.Test.YtohjllnfnkajjaaGreatRows
import Derived.Test.YtohjllnfnkajjaaGreatQ2
import Derived.Test.YtohjllnfnkajjaaGreatFow
import Derived.WalkKit
import Derived.ProofKit
import Derived.OpenShut
import Derived.ShutString
import Derived.ChangeOld
import Derived.Below
import Derived.Deep.CondSized
import Derived.Deep.Slices
import Derived.Deep.SlicePairs
import Derived.Lib.SmallJoins
namespace Go.Proofs.YtohjllnfnkajjaaGreat
open Go.ChangeShapes Go.WideShapes Go.ChangeAt Go.RowKit Go.Joins
open Go.ChangeMaps (open_string shut_string)
set_option linter.unusedVariables false
set_option linter.unusedSimpArgs false

theorem own : ownKnob Tryz.prog.godebug = none := by kernel_rfl
theorem laidOut : laidOutB Tryz.prog = true := by kernel_rfl
theorem cells_am : Tryz.prog.cellsOf 23 = 2 := by kernel_rfl
theorem cells_atom : Tryz.prog.cellsOf 25 = 3 := by kernel_rfl
theorem cells_expr : Tryz.prog.cellsOf 28 = 5 := by kernel_rfl
theorem cells_exprs : Tryz.prog.cellsOf 26 = 1 := by kernel_rfl
theorem cells_int : Tryz.prog.cellsOf 3 = 1 := by kernel_rfl
theorem cells_string : Tryz.prog.cellsOf 9 = 1 := by kernel_rfl
theorem cells_res : Tryz.prog.cellsOf 82 = 4 := by kernel_rfl
theorem list5 {α : Type} {cs : List α} (h : cs.length = 5) : ∃ a b c d e, cs = [a, b, c, d, e] := by
  match cs, h with
  | [a, b, c, d, e], _ => exact ⟨a, b, c, d, e, rfl⟩
section
variable {H : Type} (enc : TypeId × Value → H) (w : World) (held : Bool)
def ExprOpen (fuel : Nat) : Prop := ∀ (cs : List Value) (x : DataW H × List MemPlace), cs.length = 5 → DataW.trod enc Tryz.prog w 0 (fun _ => true) held fuel 28 cs = some x →
  ∃ (v : XV) (e : Ex), cs = [.int .i64 v.k, .string v.s, .int .i64 v.m, .int .i64 v.u, .slice v.A v.n v.c] ∧ TIn (Lo w.heap.size) w v e
def KidsOpen (fuel : Nat) : Prop := ∀ (u : Value) (x : DataW H × List MemPlace), DataW.trod enc Tryz.prog w 0 (fun _ => true) held fuel 26 [u] = some x →
  ∃ (A : Option Addr) (n c : Nat) (l : List Ex), u = .slice A n c ∧ n ≤ c ∧ c ≤ maxLen ∧ l.length = n ∧ KRd (Lo w.heap.size) w A l
set_option maxRecDepth 100000 in
theorem open_both : ∀ fuel, ExprOpen enc w held fuel ∧ KidsOpen enc w held fuel
  | 0 => ⟨fun cs x _ h => by simp [DataW.trod] at h, fun u x h => by simp [DataW.trod] at h⟩
  | f + 1 => by
    obtain ⟨ihE, ihK⟩ := open_both f
    refine ⟨fun cs x h5 h => ?_, fun u x h => ?_⟩
    · obtain ⟨c0, c1, c2, c3, c4, rfl⟩ := list5 h5
      obtain ⟨xs, n, hn, _, _, hlen, hf⟩ := DataW.trod_struct Tryz.underlying28 h
      obtain rfl : n = f := by omega
      have k0 := hf 0 _ rfl
      have k1 := hf 1 _ rfl
      have k2 := hf 2 _ rfl
      have hlen3 : xs.length = 3 := hlen
      match xs, hlen3 with
      | [y0, y1, y2], _ =>
        simp [cells_int, cells_atom, cells_exprs] at k0 k1 k2
        obtain ⟨a, e0, _, _⟩ := DataW.trod_int Tryz.underlying3 k0
        obtain ⟨z0, z1, n1, _, _, g0, g1⟩ := trod_struct2 Tryz.underlying25 k1
        obtain ⟨z2, z3, n2, _, _, g2, g3⟩ := trod_struct2 Tryz.underlying23 g1
        simp [cells_string, cells_am, cells_int] at g0 g2 g3
        obtain ⟨s, e1, _, _⟩ := DataW.trod_string Tryz.underlying9 g0
        obtain ⟨m, e2, _, _⟩ := DataW.trod_int Tryz.underlying3 g2
        obtain ⟨u, e3, _, _⟩ := DataW.trod_int Tryz.underlying3 g3
        obtain ⟨A, n, c, l, rfl, hnc, hcm, hl, hK⟩ := ihK _ _ k2
        simp at e0 e1 e2 e3
        subst e0 e1 e2 e3
        subst hl
        exact ⟨⟨a, s, m, u, A, l.length, c⟩, .nd a (s, m, u) l, rfl, ⟨rfl, hnc, hcm⟩, hK⟩
    · rcases DataW.trod_slice Tryz.underlying26 h with ⟨hcs, _⟩ | ⟨a, len, cap, elems, rest, n, hn, hcs, _, hb, hl, hm, hlen, hel, _, _⟩
      · simp at hcs
        subst hcs
        exact ⟨none, 0, 0, [], rfl, Nat.le_refl _, by simp [maxLen], rfl, .nil _⟩
      · obtain rfl : n = f := by omega
        simp at hcs
        subst hcs
        have each : ∀ i, i < len → ∃ q : XV × Ex, w.cell? (a.add (i * 5)) = some (.int .i64 q.1.k) ∧ w.cell? (a.add (i * 5 + 1)) = some (.string q.1.s) ∧ w.cell? (a.add (i * 5 + 2)) = some (.int .i64 q.1.m) ∧ w.cell? (a.add (i * 5 + 3)) = some (.int .i64 q.1.u) ∧ w.cell? (a.add (i * 5 + 4)) = some (.slice q.1.A q.1.n q.1.c) ∧ TIn (Lo w.heap.size) w q.1 q.2 := by
          intro i hi
          have key := hel i hi
          rw [List.getElem?_eq_getElem (by omega), cells_expr] at key
          obtain ⟨cs', h1, h2⟩ := Option.bind_eq_some_iff.1 key
          obtain ⟨_, hl5, hcell⟩ := World.cells?_some h1
          obtain ⟨v, e, rfl, hT⟩ := ihE cs' _ hl5 h2
          have c0 := hcell 0 (by omega)
          have c1 := hcell 1 (by omega)
          have c2 := hcell 2 (by omega)
          have c3 := hcell 3 (by omega)
          have c4 := hcell 4 (by omega)
          rw [Go.Deep.add_add] at c0 c1 c2 c3 c4
          exact ⟨(v, e), by simpa using c0, by simpa using c1, by simpa using c2, by simpa using c3, by simpa using c4, hT⟩
        obtain ⟨q, hq⟩ := Go.Deep.choose_lt each
        refine ⟨some a, len, cap, (List.range len).map fun i => (q i).2, rfl, hl, hm, by simp, ?_⟩
        rcases Nat.eq_zero_or_pos len with h0 | h0
        · subst h0
          exact .nil _
        obtain ⟨b, off, spot⟩ := a
        have hc0 := (hq 0 h0).1
        have hspot : spot = none := by simpa [Addr.add] using World.cell?_spot hc0
        subst hspot
        have hlt : b < w.heap.size := by
          have := World.block_lt_of_cell? w _ hc0
          rwa [add_at] at this
        have gv : ∀ i, i < len → ((List.range len).map fun i => (q i).1).getD i default = (q i).1 := fun i hi => by
          rw [List.getD_eq_getElem?_getD, List.getElem?_eq_getElem (by simpa using hi)]
          simp
        have ge : ∀ i, i < len → ((List.range len).map fun i => (q i).2).getD i default = (q i).2 := fun i hi => by
          rw [List.getD_eq_getElem?_getD, List.getElem?_eq_getElem (by simpa using hi)]
          simp
        refine .row b off _ ((List.range len).map fun i => (q i).1) hlt hlt (by simp) (fun i hi => ?_) (fun i hi => ?_) (fun i hi => ?_)
        · have hi' : i < len := by simpa using hi
          obtain ⟨c0, c1, c2, c3, c4, _⟩ := hq i hi'
          rw [add_at] at c0 c1 c2 c3 c4
          rw [gv i hi']
          exact ⟨c0, by rw [Nat.add_assoc]; exact c1, by rw [Nat.add_assoc]; exact c2, by rw [Nat.add_assoc]; exact c3, by rw [Nat.add_assoc]; exact c4⟩
        · have hi' : i < len := by simpa using hi
          rw [gv i hi', ge i hi']
          exact (hq i hi').2.2.2.2.2.1
        · have hi' : i < len := by simpa using hi
          rw [gv i hi', ge i hi']
          exact (hq i hi').2.2.2.2.2.2
variable {enc w held}
set_option maxRecDepth 100000 in
theorem open_expr {r : Reach} {b0 : Nat} {v : Value} {d : DataW H} {p : List MemPlace} (hv : Value.okWide Tryz.prog w r b0 28 v) (h : DataW.Trod enc Tryz.prog w 0 (fun _ => true) held 28 v d p) :
    ∃ (k : Int) (s : ByteArray) (m u : Int) (A : Option Addr) (n c : Nat) (e : Ex), v = xe k s m u A n c ∧ TIn (Lo w.heap.size) w ⟨k, s, m, u, A, n, c⟩ e := by
  obtain ⟨cs, rfl, hsz⟩ := okWide_struct Tryz.underlying28 hv
  obtain ⟨fuel, hf⟩ := h
  have h5 : cs.toList.length = 5 := by rw [Array.length_toList]; exact hsz.trans cells_expr
  obtain ⟨v, e, e0, hT⟩ := (open_both enc w held fuel).1 _ _ (by simpa [Value.cells] using h5) hf
  have e1 : cs = #[.int .i64 v.k, .string v.s, .int .i64 v.m, .int .i64 v.u, .slice v.A v.n v.c] := by
    apply Array.toList_inj.1
    simpa [Value.cells] using e0
  subst e1
  exact ⟨v.k, v.s, v.m, v.u, v.A, v.n, v.c, e, rfl, hT⟩
end
theorem open_ress {H : Type} {enc : TypeId × Value → H} {W : World} {held : Bool} {a : Option Addr} {len cap : Nat} {d : DataW H} {p : List MemPlace}
    (h : DataW.Trod enc Tryz.prog W 0 (fun _ => true) held 57 (.slice a len cap) d p) (hs : ∀ el sp, d = .slice el sp → (el.length + sp.length) * 40 ≤ reachBytes) : ∃ l, InR W a len cap l := by
  obtain ⟨fuel, hf⟩ := h
  rcases Go.Deep.open_slice Tryz.underlying57 hf with ⟨hcs, _⟩ | ⟨x, l, c, m, n, D, Pl, hcs, hb, hl, hm, hmm, hx, hel⟩
  · simp [Value.cells] at hcs
    obtain ⟨rfl, rfl, rfl⟩ := hcs
    exact ⟨[], rfl, fun h => absurd rfl h, Nat.le_refl _, by omega⟩
  · simp [Value.cells] at hcs
    obtain ⟨rfl, rfl, rfl⟩ := hcs
    simp only [if_true] at hmm
    simp only [Prod.mk.injEq] at hx
    have hr := hs _ _ hx.1
    simp only [List.length_map, List.length_range, reachBytes] at hr
    have each : ∀ i, i < m → ∃ q : P4, W.cell? (x.add (i * 4)) = some (.string q.1) ∧ W.cell? (x.add (i * 4 + 1)) = some (.int .i64 q.2.1) ∧ W.cell? (x.add (i * 4 + 2)) = some (.int .i64 q.2.2.1) ∧ W.cell? (x.add (i * 4 + 3)) = some (.int .i64 q.2.2.2) := by
      intro i hi
      obtain ⟨cs', h1, h2⟩ := hel i hi
      rw [cells_res] at h1
      obtain ⟨_, hlen, hcell⟩ := World.cells?_some h1
      obtain ⟨y0, y1, y2, y3, k, _, _, g0, g1, g2, g3⟩ := trod_struct4 Tryz.underlying82 h2
      obtain ⟨v0, v1, v2, v3, hv⟩ := array4 (cs := cs'.toArray) (by simpa using hlen)
      obtain rfl : cs' = [v0, v1, v2, v3] := by simpa using congrArg Array.toList hv
      simp [cells_int, cells_string] at g0 g1 g2 g3
      obtain ⟨z0, e0, _, _⟩ := DataW.trod_string Tryz.underlying9 g0
      obtain ⟨z1, e1, _, _⟩ := DataW.trod_int Tryz.underlying3 g1
      obtain ⟨z2, e2, _, _⟩ := DataW.trod_int Tryz.underlying3 g2
      obtain ⟨z3, e3, _, _⟩ := DataW.trod_int Tryz.underlying3 g3
      simp at e0 e1 e2 e3
      subst e0 e1 e2 e3
      have c0 := hcell 0 (by omega)
      have c1 := hcell 1 (by omega)
      have c2 := hcell 2 (by omega)
      have c3 := hcell 3 (by omega)
      rw [Go.Deep.add_add] at c0 c1 c2 c3
      exact ⟨(z0, z1, z2, z3), by simpa using c0, by simpa using c1, by simpa using c2, by simpa using c3⟩
    obtain ⟨q, hq⟩ := Go.Deep.choose_lt each
    refine ⟨(List.range len).map q, by simp, fun hne => ?_, hl, by omega⟩
    have hpos : 0 < len := by
      rcases Nat.eq_zero_or_pos len with h0 | h0
      · rw [h0] at hne; exact absurd rfl hne
      · exact h0
    obtain ⟨b, off, spot⟩ := x
    have h0 := (hq 0 (by omega)).1
    have hspot : spot = none := by simpa [Addr.add] using World.cell?_spot h0
    subst hspot
    refine ⟨b, off, rfl, ?_, fun i hi => ?_⟩
    · have := World.block_lt_of_cell? W _ h0
      rwa [add_at] at this
    · have hi' : i < len := by simpa using hi
      obtain ⟨c0, c1, c2, c3⟩ := hq i (by omega)
      rw [add_at] at c0 c1 c2 c3
      have e : ((List.range len).map q).getD i default = q i := by
        rw [List.getD_eq_getElem?_getD, List.getElem?_eq_getElem hi]
        simp
      rw [e]
      exact ⟨c0, by rw [Nat.add_assoc]; exact c1, by rw [Nat.add_assoc]; exact c2, by rw [Nat.add_assoc]; exact c3⟩
set_option maxRecDepth 100000 in
theorem open_boolsB {H : Type} {enc : TypeId × Value → H} {W : World} {held : Bool} {a : Option Addr} {len cap : Nat} {d : DataW H} {p : List MemPlace}
    (h : DataW.Trod enc Tryz.prog W 0 (fun _ => true) held 39 (.slice a len cap) d p) (hs : ∀ el sp, d = .slice el sp → (el.length + sp.length) * 1 ≤ reachBytes) : ∃ l, InB W a len cap l := by
  obtain ⟨fuel, hf⟩ := h
  rcases Go.Deep.open_slice1 Tryz.underlying39 (by kernel_rfl) hf with ⟨hcs, _⟩ | ⟨x, l, c, m, n, V, D, Pl, hcs, hb, hl, hm, hmm, hx, hel⟩
  · simp [Value.cells] at hcs
    obtain ⟨rfl, rfl, rfl⟩ := hcs
    exact ⟨[], rfl, fun h => absurd rfl h, Nat.le_refl _, by omega⟩
  · simp [Value.cells] at hcs
    obtain ⟨rfl, rfl, rfl⟩ := hcs
    simp only [if_true] at hmm
    simp only [Prod.mk.injEq] at hx
    have hr := hs _ _ hx.1
    simp only [List.length_map, List.length_range, reachBytes] at hr
    have each : ∀ i, i < m → ∃ q : Bool, W.cell? (x.add i) = some (.bool q) := by
      intro i hi
      obtain ⟨h1, h2⟩ := hel i hi
      obtain ⟨b, e0, _⟩ := DataW.trod_bool Tryz.underlying4 h2
      simp at e0
      exact ⟨b, by rw [h1, e0]⟩
    obtain ⟨q, hq⟩ := Go.Deep.choose_lt each
    refine ⟨(List.range len).map q, by simp, fun hne => ?_, hl, by omega⟩
    have hpos : 0 < len := by
      rcases Nat.eq_zero_or_pos len with h0 | h0
      · rw [h0] at hne; exact absurd rfl hne
      · exact h0
    obtain ⟨b, off, spot⟩ := x
    have h0 := hq 0 (by omega)
    have hspot : spot = none := by simpa [Addr.add] using World.cell?_spot h0
    subst hspot
    refine ⟨b, off, rfl, ?_, fun i hi => ?_⟩
    · have := World.block_lt_of_cell? W _ h0
      rwa [add_at] at this
    · have hi' : i < len := by simpa using hi
      have c0 := hq i (by omega)
      rw [add_at] at c0
      have e : ((List.range len).map q).getD i false = q i := by
        rw [List.getD_eq_getElem?_getD, List.getElem?_eq_getElem hi]
        simp
      rw [e]
      exact c0
theorem open_intsI {H : Type} {enc : TypeId × Value → H} {W : World} {held : Bool}
    {a : Option Addr} {len cap : Nat} {d : DataW H} {p : List MemPlace} (h : DataW.Trod enc Tryz.prog W 0 (fun _ => true) held 34 (.slice a len cap) d p) (hs : ∀ el sp, d = .slice el sp → (el.length + sp.length) * 8 ≤ reachBytes) :
    ∃ xs, InI W a len cap xs := by
  obtain ⟨fuel, hf⟩ := h
  rcases open_ints Tryz.underlying34 Tryz.underlying3 (by kernel_rfl) hf with ⟨hcs, _⟩ | ⟨x, l, c, zs, hcs, _, hl, _, hz, hx, hcell, hwz⟩
  · simp [Value.cells] at hcs
    obtain ⟨rfl, rfl, rfl⟩ := hcs
    exact ⟨[], rfl, IRd.nil _ _, Nat.le_refl _, by omega, fun _ h => by cases h⟩
  · simp [Value.cells] at hcs
    obtain ⟨rfl, rfl, rfl⟩ := hcs
    simp only [Prod.mk.injEq] at hx
    have hz' : zs.length = cap := by simpa using hz
    have hr := hs _ _ hx.1
    simp only [lits, List.length_map, List.length_take, List.length_drop, reachBytes] at hr
    refine ⟨zs.take len, by rw [List.length_take]; omega, fun hne => ?_, hl, by omega, fun n hn => hwz n (List.mem_of_mem_take hn)⟩
    have hpos : 0 < len := by
      rcases Nat.eq_zero_or_pos len with h0 | h0
      · rw [h0] at hne; exact absurd rfl hne
      · exact h0
    obtain ⟨b, off, spot⟩ := x
    have h0 := hcell 0 (by omega)
    have hspot : spot = none := by simpa [Addr.add] using World.cell?_spot h0
    subst hspot
    refine ⟨b, off, rfl, ?_, fun i hi => ?_⟩
    · have := World.block_lt_of_cell? W _ h0
      rwa [add_at] at this
    · rw [List.length_take] at hi
      have hi' := hcell i (by omega)
      rw [add_at] at hi'
      rw [hi']
      simp [List.getD_eq_getElem?_getD, show i < len by omega]
end Go.Proofs.YtohjllnfnkajjaaGreat
