/- Contracts: the survey's add, surveyOf, Nodes, Depth. -/
import Derived.Test.YtohjllnfnkajjaaGreatRval
import Derived.Deep.RegionLaw
namespace Go.Proofs.YtohjllnfnkajjaaGreat
open Go.RowKit
set_option linter.unusedVariables false
set_option linter.unusedSimpArgs false

/-- append of expressions at a step of a region that draws. -/
theorem step_app_expr {w : World} {ops : Array Oper} {o : Oper} {a : Act} {K : Act → World → Prop} {Q : Exit → Act → World → Prop} {E : Prop} (hgd : o.guard = none) (s y : Operand)
    (ho : o.op = .call { callee := .builtin .append, args := #[s, y], argTypes := #[26, 26] })
    (base : Nat) (V : Value) (xs : List XV) (A : Option Addr) (ys : List XV) (n c : Nat) (hn : Hid (ys.length = n)) (hv : a.eval s = V) (hx : a.eval y = .slice A n c)
    (hd : OwnX w base V xs) (hs : XRd w A ys) (hlen : Hid (xs.length + n ≤ 1000000)) (hbase : base ≤ w.heap.size)
    (h : ∀ V' w', OwnX w' base V' (xs ++ ys) → w.grownBy w' V.ownBlock → (V'.ownBlock = V.ownBlock ∨ V'.ownBlock = some w.heap.size) → K (a.put o.dst V') w') :
    if Region.wanted o (yielded ops a.tmps) = true then Oper.wp Tryz.prog o a w K Q else E := by
  have hw : Region.wanted o (yielded ops a.tmps) = true := by simp [Region.wanted, hgd]
  rw [if_pos hw]
  have hn' := hn.out
  subst hn'
  obtain ⟨i0, hi, hz0, hz1, hz2⟩ := info_parts expr_info
  have hl := hlen.out
  obtain ⟨v', w', hr, h2, h3, h4, h5⟩ := run_app (P := Tryz.prog) w base 26 26 o.type 28 i0 _ 5 64 Tryz.underlying26 hi hz0 hz1 hz2 rfl V xs.length (xvs xs) _ ys.length (xvs ys) (.inl hd)
    (Src.exprs Tryz.underlying26 c hs) (by simp only [maxLen]; omega) (fits_half (by omega)) hbase
  unfold Oper.wp execOp
  simp only [ho, resolve, invoke, builtin, Sem.run_bind, Sem.run_pure, Result.andThen_ok, List.map_toArray, List.map_cons, List.map_nil, hv, hx, hr]
  refine h v' w' ?_ (h4 hd) h5
  unfold OwnX
  rw [List.length_append, xvs_append]
  exact h2
theorem XRd.one_at (w : World) (T : TypeId) (v : XV) {g : Nat} (hg : w.heap.size = g) : XRd (w.alloc (.cells #[.int .i64 v.k, .string v.s, .int .i64 v.m, .int .i64 v.u, .slice v.A v.n v.c] T)) (some ⟨g, 0, none⟩) [v] := by
  subst hg
  exact fun _ => ⟨_, 0, rfl, by simp, fun i hi => by
    obtain rfl : i = 0 := by simpa using hi
    exact ⟨by simp, by simp, by simp, by simp, by simp⟩⟩
theorem row_set {w : World} {base g n c p : Nat} {T : TypeId} {sz : Nat} {xs : List Value} (h : w.ownsRow base T sz (.slice (some ⟨g, 0, none⟩) n c) n xs) (u : Value) : (w.setCell ⟨g, p, none⟩ u).ownsRow base T sz (.slice (some ⟨g, 0, none⟩) n c) n (xs.set p u) := by
  obtain ⟨h1, h2⟩ := h
  refine ⟨by simpa using h1, ?_⟩
  rcases h2 with ⟨hv, _⟩ | ⟨g', cap, cur, hv, hb, hg, hnc, hcm, hcs, ht⟩
  · cases hv
  · injection hv with e1 e2 e3
    injection e1 with e1
    injection e1 with e1
    subst e1
    subst e3
    refine .inr ⟨g, c, cur.setIfInBounds p u, rfl, hb, ?_, hnc, hcm, by simpa using hcs, ?_⟩
    · simp [World.setCell, Array.getElem?_modify, hg]
    · rw [Array.toList_setIfInBounds, List.take_set, ht]
/-- The last expression of a row is written anew. -/
def put5 (w : World) (g p : Nat) (v : XV) : World := ((((w.setCell ⟨g, p, none⟩ (.int .i64 v.k)).setCell ⟨g, p + 1, none⟩ (.string v.s)).setCell ⟨g, p + 2, none⟩ (.int .i64 v.m)).setCell ⟨g, p + 3, none⟩ (.int .i64 v.u)).setCell ⟨g, p + 4, none⟩ (.slice v.A v.n v.c)
theorem OwnX.put {w : World} {base g c : Nat} {l : List XV} {v0 : XV} {n : Nat} (h : OwnX w base (.slice (some ⟨g, 0, none⟩) n c) (l ++ [v0])) (hn : Hid (n = (l ++ [v0]).length)) (v : XV) : OwnX (put5 w g (l.length * 5) v) base (.slice (some ⟨g, 0, none⟩) n c) (l ++ [v]) := by
  have e := hn.out
  have e2 : (l ++ [v]).length = (l ++ [v0]).length := by simp
  subst e
  have h5 := row_set (p := l.length * 5 + 4) (row_set (p := l.length * 5 + 3) (row_set (p := l.length * 5 + 2) (row_set (p := l.length * 5 + 1) (row_set (p := l.length * 5) h (.int .i64 v.k)) (.string v.s)) (.int .i64 v.m)) (.int .i64 v.u)) (.slice v.A v.n v.c)
  have e3 : xvs (l ++ [v]) = (((((xvs (l ++ [v0])).set (l.length * 5) (.int .i64 v.k)).set (l.length * 5 + 1) (.string v.s)).set (l.length * 5 + 2) (.int .i64 v.m)).set (l.length * 5 + 3) (.int .i64 v.u)).set (l.length * 5 + 4) (.slice v.A v.n v.c) := by
    have hl := xvs_length l
    rw [xvs_append, xvs_append]
    simp only [xvs]
    rw [List.set_append_right _ _ (by omega), List.set_append_right _ _ (by omega), List.set_append_right _ _ (by omega), List.set_append_right _ _ (by omega), List.set_append_right _ _ (by omega), hl]
    simp
  unfold OwnX
  rw [e3, e2]
  exact h5
theorem OwnX.last {w : World} {base : Nat} {V : Value} {l : List XV} {v : XV} (h : OwnX w base V (l ++ [v])) :
    ∃ g c, V = .slice (some ⟨g, 0, none⟩) (l ++ [v]).length c ∧ base ≤ g ∧ g < w.heap.size ∧ (l ++ [v]).length ≤ c ∧ c ≤ maxLen ∧ ZX w g (l.length * 5) v ∧ ∀ o, w.frozen? ⟨g, o, none⟩ = false := by
  obtain ⟨A, c, rfl, hc, hm, hrd, hg⟩ := h.form
  obtain ⟨g, rfl, hb, hlt⟩ := hg (by simp)
  obtain ⟨b, o, hA, _, hz⟩ := hrd (by simp)
  obtain ⟨rfl, rfl⟩ : g = b ∧ 0 = o := by simpa using hA
  have h1 := hz l.length (by simp)
  rw [Nat.zero_add] at h1
  have h2 : (l ++ [v]).getD l.length default = v := by simp [List.getD_eq_getElem?_getD]
  rw [h2] at h1
  refine ⟨g, c, rfl, hb, hlt, hc, hm, h1, fun o => ?_⟩
  rcases h.2 with ⟨hv, _⟩ | ⟨g', cap, cur, hv, _, hg', _⟩
  · cases hv
  · injection hv with e1
    injection e1 with e1
    injection e1 with e1
    subst e1
    simp [World.frozen?, hg']

/-- The survey in box b: the slice of nodes, the depth. -/
structure Sv (w : World) (b : Nat) (V : Value) (d : Int) : Prop where
  lt : b < w.heap.size
  c0 : w.cell? ⟨b, 0, none⟩ = some V
  c1 : w.cell? ⟨b, 1, none⟩ = some (.int .i64 d)
  fz : ∀ o, w.frozen? ⟨b, o, none⟩ = false
theorem Sv.of {w w' : World} {b : Nat} {V : Value} {d : Int} (h : Sv w b V d) (hb : w'.heap[b]? = w.heap[b]?) (hs : w.heap.size ≤ w'.heap.size) : Sv w' b V d :=
  ⟨Nat.lt_of_lt_of_le h.lt hs, (cell_of_block hb _).trans h.c0, (cell_of_block hb _).trans h.c1, fun o => (frozen_of_block hb o).trans (h.fz o)⟩
theorem Sv.set0 {w : World} {b : Nat} {V : Value} {d : Int} (h : Sv w b V d) (V' : Value) : Sv (w.setCell ⟨b, 0, none⟩ V') b V' d := by
  obtain ⟨h0, h1, h2, h3⟩ := h
  refine ⟨by simpa using h0, ?_, ?_, fun o => ?_⟩ <;> simp [go_sem, h1, h2, h3]
theorem Sv.set1 {w : World} {b : Nat} {V : Value} {d : Int} (h : Sv w b V d) (d' : Int) : Sv (w.setCell ⟨b, 1, none⟩ (.int .i64 d')) b V d' := by
  obtain ⟨h0, h1, h2, h3⟩ := h
  refine ⟨by simpa using h0, ?_, ?_, fun o => ?_⟩ <;> simp [go_sem, h1, h2, h3]
theorem block_set (w : World) {a b : Nat} (o : Nat) (u : Value) (h : b ≠ a) : (w.setCell ⟨a, o, none⟩ u).heap[b]? = w.heap[b]? := Below.heap_setCell _ _ _ _ (fun e => h (by rw [e]))
theorem put5_block (w : World) {g b : Nat} (p : Nat) (v : XV) (h : b ≠ g) : (put5 w g p v).heap[b]? = w.heap[b]? := by
  unfold put5
  rw [block_set _ _ _ h, block_set _ _ _ h, block_set _ _ _ h, block_set _ _ _ h, block_set _ _ _ h]
theorem put5_size (w : World) (g p : Nat) (v : XV) : (put5 w g p v).heap.size = w.heap.size := by unfold put5; simp
theorem put5_below {B : Nat} {a w : World} (h : Below B a w) {g : Nat} (hg : B ≤ g) (p : Nat) (v : XV) : Below B a (put5 w g p v) :=
  ((((h.setCell (p := ⟨g, p, none⟩) hg _).setCell (p := ⟨g, p + 1, none⟩) hg _).setCell (p := ⟨g, p + 2, none⟩) hg _).setCell (p := ⟨g, p + 3, none⟩) hg _).setCell (p := ⟨g, p + 4, none⟩) hg _
/-- What the survey has of the nodes. -/
def kss (vs : List XV) : List (Int × A3 × Nat) := vs.map XV.ks
def ess (es : List Ex) : List (Int × A3 × Nat) := es.map Ex.ks
theorem kss_len (vs : List XV) : (kss vs).length = vs.length := by simp [kss]
theorem ess_len (es : List Ex) : (ess es).length = es.length := by simp [ess]
/-- The survey's state: the box, the row of nodes, what they are. -/
def SvS (w : World) (b base : Nat) (d : Int) (N : List (Int × A3 × Nat)) : Prop := b < base ∧ base ≤ w.heap.size ∧ ∃ V vs, Sv w b V d ∧ OwnX w base V vs ∧ kss vs = N
theorem SvS.up {w w' : World} {b base : Nat} {d : Int} {N : List (Int × A3 × Nat)} (h : SvS w b base d N) (hb : Below w.heap.size w w') : SvS w' b base d N := by
  obtain ⟨h1, h2, V, vs, h3, h4, h5⟩ := h
  exact ⟨h1, Nat.le_trans h2 hb.size, V, vs, h3.of (hb.block _ h3.lt) hb.size, own_kept h4 (fun g hg => hb.block g (own_lt h4 hg).2), h5⟩
end Go.Proofs.YtohjllnfnkajjaaGreat
