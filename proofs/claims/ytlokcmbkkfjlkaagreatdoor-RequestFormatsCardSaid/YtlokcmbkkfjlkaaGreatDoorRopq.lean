/- Opening the arguments of a statement: a request of any shape is a tree. -/
import Derived.Test.YtlokcmbkkfjlkaaGreatDoorRopen
import Derived.Test.YtlokcmbkkfjlkaaGreatDoorRvx
import Derived.Deep.SlicePairs
namespace Go.Proofs.YtlokcmbkkfjlkaaGreatDoor
open Go.ChangeShapes Go.WideShapes Go.ChangeAt Go.RowKit Go.Joins
set_option linter.unusedVariables false
set_option linter.unusedSimpArgs false

theorem cells_am : Tryz.prog.cellsOf 23 = 2 := by kernel_rfl
theorem cells_atom : Tryz.prog.cellsOf 25 = 3 := by kernel_rfl
theorem cells_expr : Tryz.prog.cellsOf 28 = 5 := by kernel_rfl
theorem cells_exprs : Tryz.prog.cellsOf 26 = 1 := by kernel_rfl
theorem cells_req : Tryz.prog.cellsOf 30 = 7 := by kernel_rfl
theorem cells_int : Tryz.prog.cellsOf 3 = 1 := by kernel_rfl
theorem cells_string : Tryz.prog.cellsOf 9 = 1 := by kernel_rfl
theorem list5 {α : Type} {cs : List α} (h : cs.length = 5) : ∃ a b c d e, cs = [a, b, c, d, e] := by
  match cs, h with
  | [a, b, c, d, e], _ => exact ⟨a, b, c, d, e, rfl⟩
theorem array7 {α : Type} {cs : Array α} (h : cs.size = 7) : ∃ a b c d e f g, cs = #[a, b, c, d, e, f, g] := by
  obtain ⟨l⟩ := cs
  match l, h with
  | [a, b, c, d, e, f, g], _ => exact ⟨a, b, c, d, e, f, g, rfl⟩
section
variable {H : Type} (enc : TypeId × Value → H) (w : World) (held : Bool)
def ExprOpen (fuel : Nat) : Prop := ∀ (cs : List Value) (x : DataW H × List MemPlace), cs.length = 5 → DataW.trod enc Tryz.prog w 0 (fun _ => true) held fuel 28 cs = some x →
  ∃ (v : XV) (e : Ex), cs = [.int .i64 v.k, .string v.s, .int .i64 v.m, .int .i64 v.u, .slice v.A v.n v.c] ∧ TIn (Lo w.heap.size) w v e
def KidsOpen (fuel : Nat) : Prop := ∀ (u : Value) (x : DataW H × List MemPlace), DataW.trod enc Tryz.prog w 0 (fun _ => true) held fuel 26 [u] = some x →
  ∃ (A : Option Addr) (n c : Nat) (l : List Ex), u = .slice A n c ∧ n ≤ c ∧ c ≤ maxLen ∧ l.length = n ∧ KRd (Lo w.heap.size) w A l
set_option maxRecDepth 100000 in
theorem open_both : ∀ fuel, ExprOpen enc w held fuel ∧ KidsOpen enc w held fuel
  | 0 => ⟨fun cs x _ h => by simp [DataW.trod] at h, fun u x h => by simp [DataW.trod] at h⟩
  | f + 1 => by
    obtain ⟨ihE, ihK⟩ := open_both f
    refine ⟨fun cs x h5 h => ?_, fun u x h => ?_⟩
    · obtain ⟨c0, c1, c2, c3, c4, rfl⟩ := list5 h5
      obtain ⟨xs, n, hn, _, _, hlen, hf⟩ := DataW.trod_struct Tryz.underlying28 h
      obtain rfl : n = f := by omega
      have k0 := hf 0 _ rfl
      have k1 := hf 1 _ rfl
      have k2 := hf 2 _ rfl
      have hlen3 : xs.length = 3 := hlen
      match xs, hlen3 with
      | [y0, y1, y2], _ =>
        simp [cells_int, cells_atom, cells_exprs] at k0 k1 k2
        obtain ⟨a, e0, _, _⟩ := DataW.trod_int Tryz.underlying3 k0
        obtain ⟨z0, z1, n1, _, _, g0, g1⟩ := trod_struct2 Tryz.underlying25 k1
        obtain ⟨z2, z3, n2, _, _, g2, g3⟩ := trod_struct2 Tryz.underlying23 g1
        simp [cells_string, cells_am, cells_int] at g0 g2 g3
        obtain ⟨s, e1, _, _⟩ := DataW.trod_string Tryz.underlying9 g0
        obtain ⟨m, e2, _, _⟩ := DataW.trod_int Tryz.underlying3 g2
        obtain ⟨u, e3, _, _⟩ := DataW.trod_int Tryz.underlying3 g3
        obtain ⟨A, n, c, l, rfl, hnc, hcm, hl, hK⟩ := ihK _ _ k2
        simp at e0 e1 e2 e3
        subst e0 e1 e2 e3
        subst hl
        exact ⟨⟨a, s, m, u, A, l.length, c⟩, .nd a (s, m, u) l, rfl, ⟨rfl, hnc, hcm⟩, hK⟩
    · rcases DataW.trod_slice Tryz.underlying26 h with ⟨hcs, _⟩ | ⟨a, len, cap, elems, rest, n, hn, hcs, _, hb, hl, hm, hlen, hel, _, _⟩
      · simp at hcs
        subst hcs
        exact ⟨none, 0, 0, [], rfl, Nat.le_refl _, by simp [maxLen], rfl, .nil _⟩
      · obtain rfl : n = f := by omega
        simp at hcs
        subst hcs
        have each : ∀ i, i < len → ∃ q : XV × Ex, w.cell? (a.add (i * 5)) = some (.int .i64 q.1.k) ∧ w.cell? (a.add (i * 5 + 1)) = some (.string q.1.s) ∧ w.cell? (a.add (i * 5 + 2)) = some (.int .i64 q.1.m) ∧ w.cell? (a.add (i * 5 + 3)) = some (.int .i64 q.1.u) ∧ w.cell? (a.add (i * 5 + 4)) = some (.slice q.1.A q.1.n q.1.c) ∧ TIn (Lo w.heap.size) w q.1 q.2 := by
          intro i hi
          have key := hel i hi
          rw [List.getElem?_eq_getElem (by omega), cells_expr] at key
          obtain ⟨cs', h1, h2⟩ := Option.bind_eq_some_iff.1 key
          obtain ⟨_, hl5, hcell⟩ := World.cells?_some h1
          obtain ⟨v, e, rfl, hT⟩ := ihE cs' _ hl5 h2
          have c0 := hcell 0 (by omega)
          have c1 := hcell 1 (by omega)
          have c2 := hcell 2 (by omega)
          have c3 := hcell 3 (by omega)
          have c4 := hcell 4 (by omega)
          rw [Go.Deep.add_add] at c0 c1 c2 c3 c4
          exact ⟨(v, e), by simpa using c0, by simpa using c1, by simpa using c2, by simpa using c3, by simpa using c4, hT⟩
        obtain ⟨q, hq⟩ := Go.Deep.choose_lt each
        refine ⟨some a, len, cap, (List.range len).map fun i => (q i).2, rfl, hl, hm, by simp, ?_⟩
        rcases Nat.eq_zero_or_pos len with h0 | h0
        · subst h0
          exact .nil _
        obtain ⟨b, off, spot⟩ := a
        have hc0 := (hq 0 h0).1
        have hspot : spot = none := by simpa [Addr.add] using World.cell?_spot hc0
        subst hspot
        have hlt : b < w.heap.size := by
          have := World.block_lt_of_cell? w _ hc0
          rwa [add_at] at this
        have gv : ∀ i, i < len → ((List.range len).map fun i => (q i).1).getD i default = (q i).1 := fun i hi => by
          rw [List.getD_eq_getElem?_getD, List.getElem?_eq_getElem (by simpa using hi)]
          simp
        have ge : ∀ i, i < len → ((List.range len).map fun i => (q i).2).getD i default = (q i).2 := fun i hi => by
          rw [List.getD_eq_getElem?_getD, List.getElem?_eq_getElem (by simpa using hi)]
          simp
        refine .row b off _ ((List.range len).map fun i => (q i).1) hlt hlt (by simp) (fun i hi => ?_) (fun i hi => ?_) (fun i hi => ?_)
        · have hi' : i < len := by simpa using hi
          obtain ⟨c0, c1, c2, c3, c4, _⟩ := hq i hi'
          rw [add_at] at c0 c1 c2 c3 c4
          rw [gv i hi']
          exact ⟨c0, by rw [Nat.add_assoc]; exact c1, by rw [Nat.add_assoc]; exact c2, by rw [Nat.add_assoc]; exact c3, by rw [Nat.add_assoc]; exact c4⟩
        · have hi' : i < len := by simpa using hi
          rw [gv i hi', ge i hi']
          exact (hq i hi').2.2.2.2.2.1
        · have hi' : i < len := by simpa using hi
          rw [gv i hi', ge i hi']
          exact (hq i hi').2.2.2.2.2.2
variable {enc w held}
set_option maxRecDepth 100000 in
theorem open_req {r : Reach} {b0 : Nat} {v : Value} {d : DataW H} {p : List MemPlace} (hv : Value.okWide Tryz.prog w r b0 30 v) (h : DataW.Trod enc Tryz.prog w 0 (fun _ => true) held 30 v d p) :
    ∃ (k : Int) (s : ByteArray) (m u : Int) (A : Option Addr) (n c : Nat) (p t : Int) (e : Ex), v = rq k s m u A n c p t ∧ TIn (Lo w.heap.size) w ⟨k, s, m, u, A, n, c⟩ e ∧ (Lit.int .i64 p).wf = true ∧ (Lit.int .i64 t).wf = true := by
  obtain ⟨cs, rfl, hsz⟩ := okWide_struct Tryz.underlying30 hv
  obtain ⟨c0, c1, c2, c3, c4, c5, c6, rfl⟩ := array7 (hsz.trans cells_req)
  obtain ⟨fuel, hf⟩ := h
  obtain ⟨xs, n, _, _, _, hlen, hf⟩ := DataW.trod_struct Tryz.underlying30 hf
  have k0 := hf 0 _ rfl
  have k1 := hf 1 _ rfl
  have k2 := hf 2 _ rfl
  have hlen3 : xs.length = 3 := hlen
  match xs, hlen3 with
  | [y0, y1, y2], _ =>
    simp [cells_int, cells_expr, Value.cells] at k0 k1 k2
    obtain ⟨a, e1, _, w1⟩ := DataW.trod_int Tryz.underlying3 k1
    obtain ⟨b, e2, _, w2⟩ := DataW.trod_int Tryz.underlying3 k2
    obtain ⟨v, e, e0, hT⟩ := (open_both enc w held n).1 _ _ rfl k0
    simp at e0 e1 e2
    obtain ⟨rfl, rfl, rfl, rfl, rfl⟩ := e0
    subst e1 e2
    exact ⟨v.k, v.s, v.m, v.u, v.A, v.n, v.c, a, b, e, rfl, hT, w1, w2⟩
end
end Go.Proofs.YtlokcmbkkfjlkaaGreatDoor
