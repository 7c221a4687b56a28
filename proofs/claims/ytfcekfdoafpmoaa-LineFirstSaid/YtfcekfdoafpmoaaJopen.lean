/- Opening the arguments of a statement: waiting claims, slices of them. -/
import Derived.Test.YtfcekfdoafpmoaaJrow
import Derived.Test.YtfcekfdoafpmoaaOpenI
import Derived.Lib.SmallJoins
import Derived.Deep.Slices
import Derived.Deep.Strs
import Derived.Deep.SlicePairs
namespace Go.Proofs.Ytfcekfdoafpmoaa
set_option linter.unusedSimpArgs false
set_option linter.unusedVariables false
open Go.ChangeShapes Go.WideShapes Go.ChangeAt Go.RowKit Go.Joins

section
variable {H : Type} {enc : TypeId × Value → H} {w : World} {base : Nat} {spare : Nat → Bool} {held : Bool}
theorem cells_wait : Try.prog.cellsOf 28 = 7 := by kernel_rfl
theorem cells_proc : Try.prog.cellsOf 24 = 3 := by kernel_rfl
theorem cells_am : Try.prog.cellsOf 26 = 2 := by kernel_rfl
theorem cells_int1 : Try.prog.cellsOf 3 = 1 := by kernel_rfl
set_option maxRecDepth 100000 in
theorem open_wait {r : Reach} {b0 : Nat} {v : Value} {d : DataW H} {p : List MemPlace} (hv : Value.okWide Try.prog w r b0 28 v) (h : DataW.Trod enc Try.prog w base spare held 28 v d p) :
    ∃ a b c d' e f g : Int, v = .agg #[.int .i64 a, .int .i64 b, .int .i64 c, .int .i64 d', .int .i64 e, .int .i64 f, .int .i64 g] ∧ d = .agg [.agg [.lit (.int .i64 a), .lit (.int .i64 b), .lit (.int .i64 c)], .agg [.lit (.int .i64 d'), .lit (.int .i64 e)], .lit (.int .i64 f), .lit (.int .i64 g)] ∧ p = [] ∧ (Lit.int .i64 a).wf = true ∧ (Lit.int .i64 b).wf = true ∧ (Lit.int .i64 c).wf = true ∧ (Lit.int .i64 d').wf = true ∧ (Lit.int .i64 e).wf = true ∧ (Lit.int .i64 f).wf = true ∧ (Lit.int .i64 g).wf = true := by
  obtain ⟨cs, rfl, hsz⟩ := okWide_struct Try.underlying28 hv
  obtain ⟨L⟩ := cs
  have hL : L.length = 7 := by have := hsz.trans cells_wait; simpa using this
  obtain ⟨fuel, hf⟩ := h
  match L, hL with
  | [c0, c1, c2, c3, c4, c5, c6], _ =>
    obtain ⟨y0, y1, y2, y3, n, hx, hp, h0, h1, h2, h3⟩ := trod_struct4 Try.underlying28 hf
    simp [Value.cells, cells_proc, cells_am, cells_int1] at h0 h1 h2 h3
    obtain ⟨z0, z1, z2, m, hy, hpy, g0, g1, g2⟩ := Go.Deep.trod_struct3 Try.underlying24 h0
    obtain ⟨z3, z4, m2, hz, hpz, g3, g4⟩ := trod_struct2 Try.underlying26 h1
    simp [cells_int1] at g0 g1 g2 g3 g4
    obtain ⟨a, e0, rfl, wa⟩ := DataW.trod_int Try.underlying3 g0
    obtain ⟨b, e1, rfl, wb⟩ := DataW.trod_int Try.underlying3 g1
    obtain ⟨c, e2, rfl, wc⟩ := DataW.trod_int Try.underlying3 g2
    obtain ⟨d', e3, rfl, wd⟩ := DataW.trod_int Try.underlying3 g3
    obtain ⟨e, e4, rfl, we⟩ := DataW.trod_int Try.underlying3 g4
    obtain ⟨f, e5, rfl, wf⟩ := DataW.trod_int Try.underlying3 h2
    obtain ⟨g, e6, rfl, wg⟩ := DataW.trod_int Try.underlying3 h3
    simp at e0 e1 e2 e3 e4 e5 e6
    subst e0 e1 e2 e3 e4 e5 e6
    subst hy hz
    refine ⟨a, b, c, d', e, f, g, rfl, ?_, ?_, wa, wb, wc, wd, we, wf, wg⟩
    · have h4 := congrArg Prod.fst hx
      simpa using h4
    · have h4 := congrArg Prod.snd hx
      simpa using h4
set_option maxRecDepth 100000 in
theorem shut_wait {a b c d e f g : Int} (wa : (Lit.int .i64 a).wf = true) (wb : (Lit.int .i64 b).wf = true) (wc : (Lit.int .i64 c).wf = true) (wd : (Lit.int .i64 d).wf = true) (we : (Lit.int .i64 e).wf = true) (wf : (Lit.int .i64 f).wf = true) (wg : (Lit.int .i64 g).wf = true) :
    DataW.Trod enc Try.prog w base spare held 28 (.agg #[.int .i64 a, .int .i64 b, .int .i64 c, .int .i64 d, .int .i64 e, .int .i64 f, .int .i64 g]) (.agg [.agg [.lit (.int .i64 a), .lit (.int .i64 b), .lit (.int .i64 c)], .agg [.lit (.int .i64 d), .lit (.int .i64 e)], .lit (.int .i64 f), .lit (.int .i64 g)]) [] := by
  have t1 : DataW.trod enc Try.prog w base spare held 2 24 [.int .i64 a, .int .i64 b, .int .i64 c] = some (.agg [.lit (.int .i64 a), .lit (.int .i64 b), .lit (.int .i64 c)], []) :=
    Go.Deep.trod_struct3_mk (y0 := (.lit (.int .i64 a), [])) (y1 := (.lit (.int .i64 b), [])) (y2 := (.lit (.int .i64 c), [])) Try.underlying24 (by simp [cells_proc]) (by simp [cells_int1, DataW.trod, Try.underlying3, wa]) (by simp [cells_int1, DataW.trod, Try.underlying3, wb]) (by simp [cells_int1, DataW.trod, Try.underlying3, wc])
  have t2 : DataW.trod enc Try.prog w base spare held 2 26 [.int .i64 d, .int .i64 e] = some (.agg [.lit (.int .i64 d), .lit (.int .i64 e)], []) :=
    trod_struct2_mk (y0 := (.lit (.int .i64 d), [])) (y1 := (.lit (.int .i64 e), [])) Try.underlying26 (by simp [cells_am]) (by simp [cells_int1, DataW.trod, Try.underlying3, wd]) (by simp [cells_int1, DataW.trod, Try.underlying3, we])
  refine ⟨3, ?_⟩
  exact trod_struct4_mk (y0 := (.agg [.lit (.int .i64 a), .lit (.int .i64 b), .lit (.int .i64 c)], [])) (y1 := (.agg [.lit (.int .i64 d), .lit (.int .i64 e)], [])) (y2 := (.lit (.int .i64 f), [])) (y3 := (.lit (.int .i64 g), [])) Try.underlying28 (by simp [cells_wait, Value.cells]) (by simpa [cells_proc, Value.cells] using t1) (by simpa [cells_proc, cells_am, Value.cells] using t2) (by simp [cells_proc, cells_am, cells_int1, Value.cells, DataW.trod, Try.underlying3, wf]) (by simp [cells_proc, cells_am, cells_int1, Value.cells, DataW.trod, Try.underlying3, wg])
end

/-- A slice of waiting claims that came in. -/
structure InW (w : World) (A : Option Addr) (n c : Nat) (l : List Wt) : Prop where
  len : l.length = n
  rd : WRd w A l
  fit : n ≤ c

set_option maxRecDepth 100000 in
theorem open_waits {H : Type} {enc : TypeId × Value → H} {W : World} {held : Bool} {a : Option Addr} {len cap : Nat} {d : DataW H} {p : List MemPlace}
    (h : DataW.Trod enc Try.prog W 0 (fun _ => true) held 22 (.slice a len cap) d p) : ∃ l, InW W a len cap l := by
  obtain ⟨fuel, hf⟩ := h
  rcases Go.Deep.open_slice Try.underlying22 hf with ⟨hcs, _⟩ | ⟨x, l, c, m, n, D, Pl, hcs, hb, hl, hm, hmm, hx, hel⟩
  · simp [Value.cells] at hcs
    obtain ⟨rfl, rfl, rfl⟩ := hcs
    exact ⟨[], rfl, fun h => absurd rfl h, Nat.le_refl _⟩
  · simp [Value.cells] at hcs
    obtain ⟨rfl, rfl, rfl⟩ := hcs
    simp only [if_true] at hmm
    have each : ∀ i, i < m → ∃ q : Wt, W.cell? (x.add (i * 7)) = some (.int .i64 q.1.1) ∧ W.cell? (x.add (i * 7 + 1)) = some (.int .i64 q.1.2.1) ∧ W.cell? (x.add (i * 7 + 2)) = some (.int .i64 q.1.2.2) ∧ W.cell? (x.add (i * 7 + 3)) = some (.int .i64 q.2.1.1) ∧ W.cell? (x.add (i * 7 + 4)) = some (.int .i64 q.2.1.2) ∧ W.cell? (x.add (i * 7 + 5)) = some (.int .i64 q.2.2.1) ∧ W.cell? (x.add (i * 7 + 6)) = some (.int .i64 q.2.2.2) := by
      intro i hi
      obtain ⟨cs', h1, h2⟩ := hel i hi
      rw [cells_wait] at h1
      obtain ⟨_, hlen, hcell⟩ := World.cells?_some h1
      obtain ⟨y0, y1, y2, y3, k, _, _, g0, g1, g2, g3⟩ := trod_struct4 Try.underlying28 h2
      have ci : Try.prog.cellsOf 3 = 1 := by kernel_rfl
      match cs', hlen with
      | [v0, v1, v2, v3, v4, v5, v6], _ =>
        simp [cells_proc, cells_am, ci] at g0 g1 g2 g3
        obtain ⟨z0, z1, z2, k2, _, _, f0, f1, f2⟩ := Go.Deep.trod_struct3 Try.underlying24 g0
        obtain ⟨z3, z4, k3, _, _, f3, f4⟩ := trod_struct2 Try.underlying26 g1
        simp [ci] at f0 f1 f2 f3 f4
        obtain ⟨u0, e0, _, _⟩ := DataW.trod_int Try.underlying3 f0
        obtain ⟨u1, e1, _, _⟩ := DataW.trod_int Try.underlying3 f1
        obtain ⟨u2, e2, _, _⟩ := DataW.trod_int Try.underlying3 f2
        obtain ⟨u3, e3, _, _⟩ := DataW.trod_int Try.underlying3 f3
        obtain ⟨u4, e4, _, _⟩ := DataW.trod_int Try.underlying3 f4
        obtain ⟨u5, e5, _, _⟩ := DataW.trod_int Try.underlying3 g2
        obtain ⟨u6, e6, _, _⟩ := DataW.trod_int Try.underlying3 g3
        simp at e0 e1 e2 e3 e4 e5 e6
        subst e0 e1 e2 e3 e4 e5 e6
        have c0 := hcell 0 (by omega)
        have c1 := hcell 1 (by omega)
        have c2 := hcell 2 (by omega)
        have c3 := hcell 3 (by omega)
        have c4 := hcell 4 (by omega)
        have c5 := hcell 5 (by omega)
        have c6 := hcell 6 (by omega)
        rw [Go.Deep.add_add] at c0 c1 c2 c3 c4 c5 c6
        exact ⟨((u0, u1, u2), (u3, u4), u5, u6), by simpa using c0, by simpa using c1, by simpa using c2, by simpa using c3, by simpa using c4, by simpa using c5, by simpa using c6⟩
    obtain ⟨q, hq⟩ := Go.Deep.choose_lt each
    refine ⟨(List.range len).map q, by simp, fun hne => ?_, hl⟩
    have hpos : 0 < len := by
      rcases Nat.eq_zero_or_pos len with h0 | h0
      · rw [h0] at hne; exact absurd rfl hne
      · exact h0
    obtain ⟨b, off, spot⟩ := x
    have h0 := (hq 0 (by omega)).1
    have hspot : spot = none := by simpa [Addr.add] using World.cell?_spot h0
    subst hspot
    refine ⟨b, off, rfl, ?_, fun i hi => ?_⟩
    · have := World.block_lt_of_cell? W _ h0
      rwa [add_at] at this
    · have hi' : i < len := by simpa using hi
      obtain ⟨c0, c1, c2, c3, c4, c5, c6⟩ := hq i (by omega)
      rw [add_at] at c0 c1 c2 c3 c4 c5 c6
      have e : ((List.range len).map q).getD i default = q i := by
        rw [List.getD_eq_getElem?_getD, List.getElem?_eq_getElem hi]
        simp
      rw [e]
      exact ⟨c0, by rw [Nat.add_assoc]; exact c1, by rw [Nat.add_assoc]; exact c2, by rw [Nat.add_assoc]; exact c3, by rw [Nat.add_assoc]; exact c4, by rw [Nat.add_assoc]; exact c5, by rw [Nat.add_assoc]; exact c6⟩
end Go.Proofs.Ytfcekfdoafpmoaa
