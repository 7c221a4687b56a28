/- Slices of grants as lists; rows of grants, of processes and of amounts of the call's own: append, make, stores, copy, clear. -/
import Derived.Test.YthclgccgkdijbaaDoorHml
import Derived.Test.YthclgccgkdijbaaDoorAroom
import Derived.Test.YthclgccgkdijbaaDoorHid
import Derived.Laws.OwnMore
namespace Go.Proofs.YthclgccgkdijbaaDoor
open Go.RowKit
set_option linter.unusedVariables false
set_option linter.unusedSimpArgs false

/-- A grant as a value, and its cells. -/
abbrev hvv (h : Hd) : Value := .agg #[.int .i64 h.1.1, .int .i64 h.1.2.1, .int .i64 h.1.2.2, .int .i64 h.2.1, .int .i64 h.2.2]
abbrev hag (a b c m n : Int) : Value := .agg #[.int .i64 a, .int .i64 b, .int .i64 c, .int .i64 m, .int .i64 n]
/-- The five cells at o of block b hold the grant r. -/
def Z5 (w : World) (b o : Nat) (r : Hd) : Prop :=
  w.cell? ⟨b, o, none⟩ = some (.int .i64 r.1.1) ∧ w.cell? ⟨b, o + 1, none⟩ = some (.int .i64 r.1.2.1) ∧ w.cell? ⟨b, o + 2, none⟩ = some (.int .i64 r.1.2.2) ∧ w.cell? ⟨b, o + 3, none⟩ = some (.int .i64 r.2.1) ∧ w.cell? ⟨b, o + 4, none⟩ = some (.int .i64 r.2.2)
theorem Z5.lt {w : World} {b o : Nat} {r : Hd} (h : Z5 w b o r) : b < w.heap.size := by have := World.block_lt_of_cell? w _ h.1; exact this
theorem Z5.of {w w' : World} {b o : Nat} {r : Hd} (h : Z5 w b o r) {B : Nat} (hb : Below B w w') (hB : b < B) : Z5 w' b o r :=
  ⟨(hb.cell (p := ⟨b, o, none⟩) hB).trans h.1, (hb.cell (p := ⟨b, o + 1, none⟩) hB).trans h.2.1, (hb.cell (p := ⟨b, o + 2, none⟩) hB).trans h.2.2.1, (hb.cell (p := ⟨b, o + 3, none⟩) hB).trans h.2.2.2.1, (hb.cell (p := ⟨b, o + 4, none⟩) hB).trans h.2.2.2.2⟩
theorem Z5.below {w w' : World} {b o : Nat} {r : Hd} (h : Z5 w b o r) (hb : Below w.heap.size w w') : Z5 w' b o r := h.of hb h.lt
/-- The slice at A reads as the grants l, five cells each. -/
def HRd (w : World) (A : Option Addr) (l : List Hd) : Prop :=
  l ≠ [] → ∃ b o, A = some ⟨b, o, none⟩ ∧ b < w.heap.size ∧ ∀ i, i < l.length → Z5 w b (o + i * 5) (l.getD i default)
theorem HRd.nil (w : World) (A : Option Addr) : HRd w A [] := fun h => absurd rfl h
theorem HRd.below {w w' : World} {A : Option Addr} {l : List Hd} (h : HRd w A l) (hb : Below w.heap.size w w') : HRd w' A l := fun hx => by
  obtain ⟨b, o, hA, hlt, hc⟩ := h hx
  exact ⟨b, o, hA, Nat.lt_of_lt_of_le hlt hb.size, fun i hi => (hc i hi).of hb hlt⟩
theorem HRd.at_ {w : World} {A : Option Addr} {l : List Hd} (h : HRd w A l) {i : Nat} (hi : i < l.length) :
    ∃ b o x y z m n, A = some ⟨b, o, none⟩ ∧ b < w.heap.size ∧ Hid (l.getD i default = ((x, y, z), (m, n))) ∧ w.cell? ⟨b, o + i * 5, none⟩ = some (.int .i64 x) ∧ w.cell? ⟨b, o + i * 5 + 1, none⟩ = some (.int .i64 y) ∧ w.cell? ⟨b, o + i * 5 + 2, none⟩ = some (.int .i64 z) ∧ w.cell? ⟨b, o + i * 5 + 3, none⟩ = some (.int .i64 m) ∧ w.cell? ⟨b, o + i * 5 + 4, none⟩ = some (.int .i64 n) := by
  obtain ⟨b, o, hA, hb, hc⟩ := h (by rintro rfl; simp at hi)
  obtain ⟨h1, h2, h3, h4, h5⟩ := hc i hi
  exact ⟨b, o, _, _, _, _, _, hA, hb, rfl, h1, h2, h3, h4, h5⟩
theorem getD_takeH {l : List Hd} {k i : Nat} (h : i < k) : (l.take k).getD i default = l.getD i default := by simp [List.getD_eq_getElem?_getD, h]
theorem getD_dropH (l : List Hd) (k i : Nat) : (l.drop k).getD i default = l.getD (k + i) default := by simp [List.getD_eq_getElem?_getD]
theorem getD_memH {l : List Hd} {i : Nat} (hi : i < l.length) : l.getD i default ∈ l := by
  rw [List.getD_eq_getElem?_getD, List.getElem?_eq_getElem hi]
  exact List.getElem_mem hi
theorem mem_getDH {l : List Hd} {p : Hd} (h : p ∈ l) : ∃ i, i < l.length ∧ l.getD i default = p := by
  obtain ⟨i, hi, h⟩ := List.getElem_of_mem h
  exact ⟨i, hi, by rw [List.getD_eq_getElem?_getD, List.getElem?_eq_getElem hi]; exact h⟩
theorem take_snocH {l : List Hd} {k : Nat} (h : k < l.length) : l.take (k + 1) = l.take k ++ [l.getD k default] := by
  rw [List.take_succ_eq_append_getElem h, List.getD_eq_getElem?_getD, List.getElem?_eq_getElem h]; rfl
theorem HRd.take {w : World} {A : Option Addr} {l : List Hd} (h : HRd w A l) (k : Nat) : HRd w A (l.take k) := fun hx => by
  obtain ⟨b, o, rfl, hlt, hc⟩ := h (by rintro rfl; simp at hx)
  refine ⟨b, o, rfl, hlt, fun i hi => ?_⟩
  rw [List.length_take] at hi
  rw [getD_takeH (by omega)]
  exact hc i (by omega)
theorem HRd.drop {w : World} {A : Option Addr} {l : List Hd} (h : HRd w A l) (k : Nat) : HRd w (A.map fun a => a.add (k * 5)) (l.drop k) := fun hx => by
  have hk : k < l.length := by
    rcases Nat.lt_or_ge k l.length with hk | hk
    · exact hk
    · exact absurd (List.drop_eq_nil_of_le hk) hx
  obtain ⟨b, o, rfl, hlt, hc⟩ := h (by rintro rfl; simp at hk)
  refine ⟨b, o + k * 5, by simp [add_at], hlt, fun i hi => ?_⟩
  rw [List.length_drop] at hi
  have h1 := hc (k + i) (by omega)
  rw [getD_dropH, show o + k * 5 + i * 5 = o + (k + i) * 5 by omega]
  exact h1
theorem hrd_one {w : World} {g : Nat} {r : Hd} (h : Z5 w g 0 r) : HRd w (some ⟨g, 0, none⟩) [r] := fun _ => ⟨g, 0, rfl, h.lt, fun i hi => by
  obtain rfl : i = 0 := by simpa using hi
  simpa using h⟩

/-! ### Cells -/
def hcs : List Hd → List Value
  | [] => []
  | p :: l => .int .i64 p.1.1 :: .int .i64 p.1.2.1 :: .int .i64 p.1.2.2 :: .int .i64 p.2.1 :: .int .i64 p.2.2 :: hcs l
theorem hcs_length : ∀ l : List Hd, (hcs l).length = l.length * 5
  | [] => rfl
  | p :: l => by simp [hcs, hcs_length l]; omega
theorem hcs_append : ∀ l r : List Hd, hcs (l ++ r) = hcs l ++ hcs r
  | [], r => rfl
  | p :: l, r => by simp [hcs, hcs_append l r]
theorem hcs_take : ∀ (l : List Hd) (k : Nat), hcs (l.take k) = (hcs l).take (k * 5)
  | [], k => by simp [hcs]
  | p :: l, 0 => by simp [hcs]
  | p :: l, k + 1 => by rw [List.take_succ_cons, hcs, hcs_take l k, hcs, show (k + 1) * 5 = k * 5 + 1 + 1 + 1 + 1 + 1 by omega]; simp only [List.take_succ_cons]
theorem hcs_drop : ∀ (l : List Hd) (k : Nat), hcs (l.drop k) = (hcs l).drop (k * 5)
  | [], k => by simp [hcs]
  | p :: l, 0 => by simp
  | p :: l, k + 1 => by rw [List.drop_succ_cons, hcs_drop l k, hcs, show (k + 1) * 5 = k * 5 + 1 + 1 + 1 + 1 + 1 by omega]; simp only [List.drop_succ_cons]
theorem hcs_at : ∀ (l : List Hd) (i : Nat), i < l.length → (hcs l)[i * 5]? = some (.int .i64 (l.getD i default).1.1) ∧ (hcs l)[i * 5 + 1]? = some (.int .i64 (l.getD i default).1.2.1) ∧ (hcs l)[i * 5 + 2]? = some (.int .i64 (l.getD i default).1.2.2) ∧ (hcs l)[i * 5 + 3]? = some (.int .i64 (l.getD i default).2.1) ∧ (hcs l)[i * 5 + 4]? = some (.int .i64 (l.getD i default).2.2)
  | [], i, h => by simp at h
  | p :: l, 0, _ => by simp [hcs]
  | p :: l, i + 1, h => by
    have := hcs_at l i (by simpa using h)
    rw [show (i + 1) * 5 = i * 5 + 1 + 1 + 1 + 1 + 1 by omega]
    simpa [hcs] using this
theorem hcs_one (l : List Hd) : ∀ u ∈ hcs l, u.oneCell' = true := by
  induction l with
  | nil => intro u hu; cases hu
  | cons p l ih =>
    intro u hu
    simp only [hcs, List.mem_cons] at hu
    rcases hu with rfl | rfl | rfl | rfl | rfl | hu
    · rfl
    · rfl
    · rfl
    · rfl
    · rfl
    · exact ih u hu
theorem hcs_set : ∀ (l : List Hd) (i : Nat) (x : Hd), (((((hcs l).set (i * 5) (.int .i64 x.1.1)).set (i * 5 + 1) (.int .i64 x.1.2.1)).set (i * 5 + 2) (.int .i64 x.1.2.2)).set (i * 5 + 3) (.int .i64 x.2.1)).set (i * 5 + 4) (.int .i64 x.2.2) = hcs (l.set i x)
  | [], i, x => by simp [hcs]
  | p :: l, 0, x => by simp [hcs]
  | p :: l, i + 1, x => by
    have := hcs_set l i x
    rw [show (i + 1) * 5 = i * 5 + 1 + 1 + 1 + 1 + 1 by omega]
    simpa [hcs] using this
/-- What lies at cell j of the row. -/
theorem HRd.cell {w : World} {b o : Nat} {l : List Hd} (hc : ∀ i, i < l.length → Z5 w b (o + i * 5) (l.getD i default)) {j : Nat} {u : Value} (hu : (hcs l)[j]? = some u) : w.cell? ⟨b, o + j, none⟩ = some u := by
  have hj : j < l.length * 5 := by rw [← hcs_length]; exact (List.getElem?_eq_some_iff.1 hu).1
  obtain ⟨h1, h2, h3, h4, h5⟩ := hc (j / 5) (by omega)
  obtain ⟨g1, g2, g3, g4, g5⟩ := hcs_at l (j / 5) (by omega)
  have hd : j % 5 = 0 ∨ j % 5 = 1 ∨ j % 5 = 2 ∨ j % 5 = 3 ∨ j % 5 = 4 := by omega
  rcases hd with e | e | e | e | e
  · rw [show o + j = o + j / 5 * 5 by omega, h1, ← g1, show j / 5 * 5 = j by omega, hu]
  · rw [show o + j = o + j / 5 * 5 + 1 by omega, h2, ← g2, show j / 5 * 5 + 1 = j by omega, hu]
  · rw [show o + j = o + j / 5 * 5 + 2 by omega, h3, ← g3, show j / 5 * 5 + 2 = j by omega, hu]
  · rw [show o + j = o + j / 5 * 5 + 3 by omega, h4, ← g4, show j / 5 * 5 + 3 = j by omega, hu]
  · rw [show o + j = o + j / 5 * 5 + 4 by omega, h5, ← g5, show j / 5 * 5 + 4 = j by omega, hu]

abbrev OwnH (w : World) (base : Nat) (v : Value) (l : List Hd) : Prop := w.ownsRow base 53 5 v l.length (hcs l)
theorem OwnH.form {w : World} {base : Nat} {v : Value} {l : List Hd} (h : OwnH w base v l) :
    ∃ A c, v = .slice A l.length c ∧ l.length ≤ c ∧ HRd w A l ∧ (0 < l.length → ∃ g, A = some ⟨g, 0, none⟩ ∧ base ≤ g ∧ g < w.heap.size) := by
  rcases h.2 with ⟨rfl, hn⟩ | ⟨g, cap, cur, rfl, hb, hg, hnc, hcm, _, _⟩
  · exact ⟨none, 0, by rw [hn], by omega, fun hx => absurd (List.eq_nil_of_length_eq_zero hn) hx, fun h0 => by omega⟩
  · have hlt : g < w.heap.size := (Array.getElem?_eq_some_iff.1 hg).1
    refine ⟨_, cap, rfl, hnc, fun _ => ⟨g, 0, rfl, hlt, fun i hi => ?_⟩, fun _ => ⟨g, rfl, hb, hlt⟩⟩
    obtain ⟨g1, g2, g3, g4, g5⟩ := hcs_at l i hi
    have h1 := h.cellAt (i * 5) (by omega)
    have h2 := h.cellAt (i * 5 + 1) (by omega)
    have h3 := h.cellAt (i * 5 + 2) (by omega)
    have h4 := h.cellAt (i * 5 + 3) (by omega)
    have h5 := h.cellAt (i * 5 + 4) (by omega)
    rw [g1] at h1
    rw [g2] at h2
    rw [g3] at h3
    rw [g4] at h4
    rw [g5] at h5
    rw [Nat.zero_add]
    exact ⟨h1, h2, h3, h4, h5⟩
theorem OwnH.below {w w' : World} {base : Nat} {v : Value} {l : List Hd} (h : OwnH w base v l) (hb : Below w.heap.size w w') : OwnH w' base v l := by
  refine ⟨h.1, ?_⟩
  rcases h.2 with hn | ⟨g, cap, cur, rfl, hbg, hg, rest⟩
  · exact .inl hn
  · exact .inr ⟨g, cap, cur, rfl, hbg, by rw [hb.block g (Array.getElem?_eq_some_iff.1 hg).1]; exact hg, rest⟩
theorem OwnH.nil (w : World) (base : Nat) : OwnH w base (.slice none 0 0) [] := World.ownsRow_nil w base _ 5
theorem OwnH.empty (w : World) (base : Nat) (h : base ≤ w.heap.size) : OwnH (w.alloc (.cells #[] 53)) base (.slice (some ⟨w.heap.size, 0, none⟩) 0 0) [] :=
  World.ownsRow_made w #[] 0 h (Nat.zero_le _) rfl

theorem Src.holds {w : World} {tx e' : TypeId} (hk : Tryd.prog.underlying tx = some (.slice e')) {A : Option Addr} {ys : List Hd} (c : Nat) (h : HRd w A ys) : Src Tryd.prog 5 tx (.slice A ys.length c) ys.length (hcs ys) w := by
  cases A with
  | none =>
    have hx : ys = [] := by
      rcases ys with _ | ⟨x, r⟩
      · rfl
      · obtain ⟨_, _, h, _⟩ := h (by simp)
        cases h
    subst hx
    exact Src.ofNil w hk c
  | some a =>
    rcases ys with _ | ⟨x, r⟩
    · exact Src.ofSlice w hk a 0 c [] rfl (fun j u h => by simp at h) (fun u h => by cases h)
    · obtain ⟨b, o, hA, _, hc⟩ := h (by simp)
      injection hA with hA
      subst hA
      refine Src.ofSlice w hk _ _ c _ (by rw [hcs_length]) (fun j u hu => ?_) (hcs_one _)
      rw [add_at]
      exact HRd.cell hc hu
theorem hold_info : (Tryd.prog.info? 53).map (fun i => (i.zero, i.size, i.bytes)) = some (some (.agg #[.int .i64 0, .int .i64 0, .int .i64 0, .int .i64 0, .int .i64 0]), 5, 40) := by kernel_rfl
theorem app_hold {w : World} {ops : Array Oper} {rest : List Oper} {o : Oper} {a : Act} {Q : Exit → Act → World → Prop} (hgd : Region.wanted o (yielded ops a.tmps) = true) (s y : Operand)
    (ho : o.op = .call { callee := .builtin .append, args := #[s, y], argTypes := #[24, 24] })
    (base : Nat) (V : Value) (xs : List Hd) (A : Option Addr) (ys : List Hd) (n c : Nat) (hn : Hid (ys.length = n)) (hv : a.eval s = V) (hx : a.eval y = .slice A n c)
    (hd : OwnH w base V xs) (hs : HRd w A ys) (hlen : Hid (xs.length + n ≤ 1000000)) (hbase : base ≤ w.heap.size)
    (h : ∀ V' w', OwnH w' base V' (xs ++ ys) → Below base w w' → wpList Tryd.prog ops Q rest (a.put o.dst V') w') :
    wpList Tryd.prog ops Q (o :: rest) a w := by
  have hn' := hn.out
  subst hn'
  obtain ⟨i0, hi, hz0, hz1, hz2⟩ := info_parts hold_info
  have hl := hlen.out
  refine wpList_app w hgd s y 24 24 ho base 53 i0 _ 5 40 Tryd.underlying24 hi hz0 hz1 hz2 rfl V xs.length (hcs xs) _ ys.length (hcs ys) hv hx (.inl hd)
    (Src.holds Tryd.underlying24 c hs) (by simp only [maxLen]; omega) (fits_half (by omega)) hbase (fun V' w' h1 h2 h3 h4 => h V' w' ?_ h2)
  unfold OwnH
  rw [List.length_append, hcs_append]
  exact h1

/-! ### Writing into an own row -/
theorem own_put {P : Program} {w : World} {base : Nat} {e : TypeId} {size g n cap : Nat} {xs : List Value} (h : w.ownsRow base e size (.slice (some ⟨g, 0, none⟩) n cap) n xs) (o : Nat) (cs : List Value) (hfit : o + cs.length ≤ n * size) (h1 : ∀ v ∈ cs, v.oneCell' = true) :
    ∃ w', (storeCells ⟨g, o, none⟩ cs 0).run P w = .ok () w' ∧ w'.ownsRow base e size (.slice (some ⟨g, 0, none⟩) n cap) n (xs.take o ++ cs ++ xs.drop (o + cs.length)) ∧ w.grownBy w' (some g) := by
  rcases h.2 with ⟨h', _⟩ | ⟨g', cap', cur, h', hb, hg, hnc, hcm, hcs, htake⟩
  · simp at h'
  · simp only [Value.slice.injEq, Option.some.injEq, Addr.mk.injEq, and_true, true_and] at h'
    obtain ⟨rfl, rfl⟩ := h'
    have hx := h.1
    have hle : n * size ≤ cap * size := Nat.mul_le_mul_right _ hnc
    have hcl : cur.toList.length = cap * size := by rw [Array.length_toList, hcs]
    refine ⟨_, run_storeCells_at P g o e cs 0 cur w hg (by omega) h1, ⟨?_, .inr ⟨g, cap, _, rfl, hb, setRow_heap w g cur _ e _ hg, hnc, hcm, ?_, ?_⟩⟩, ⟨rfl, rfl, rfl, by simp [World.setRow], fun k _ hk => setRow_other w g k _ (fun e => hk (by simp [e]))⟩⟩
    · simp only [List.length_append, List.length_take, List.length_drop]; omega
    · simp only [List.size_toArray, List.length_append, List.length_take, List.length_drop, Nat.add_zero]; omega
    · simp only [Nat.add_zero]
      rw [← htake]
      apply List.ext_getElem?
      intro j
      rw [List.getElem?_take]
      by_cases hj : j < n * size
      · rw [if_pos hj]
        simp only [List.getElem?_append, List.getElem?_take, List.getElem?_drop, List.length_append, List.length_take]
        have e1 : min o cur.toList.length = o := by omega
        have e2 : min o (min (n * size) cur.toList.length) = o := by omega
        rw [e1, e2]
        by_cases h2 : j < o + cs.length
        · rw [if_pos h2, if_pos h2]
          by_cases h3 : j < o
          · rw [if_pos h3, if_pos h3, if_pos h3, if_pos h3, if_pos hj]
          · rw [if_neg h3, if_neg h3]
        · rw [if_neg h2, if_neg h2, if_pos (by omega)]
      · rw [if_neg hj, List.getElem?_eq_none (by simp only [List.length_append, List.length_take, List.length_drop]; omega)]
/-- A store into element i of an own row of grants. -/
theorem OwnH.store {w : World} {base g n cap : Nat} {l : List Hd} (h : OwnH w base (.slice (some ⟨g, 0, none⟩) n cap) l) (hn : l.length = n) (i : Nat) (x : Hd) :
    OwnH (((((w.setCell ⟨g, i * 5, none⟩ (.int .i64 x.1.1)).setCell ⟨g, i * 5 + 1, none⟩ (.int .i64 x.1.2.1)).setCell ⟨g, i * 5 + 2, none⟩ (.int .i64 x.1.2.2)).setCell ⟨g, i * 5 + 3, none⟩ (.int .i64 x.2.1)).setCell ⟨g, i * 5 + 4, none⟩ (.int .i64 x.2.2)) base (.slice (some ⟨g, 0, none⟩) n cap) (l.set i x) := by
  subst hn
  have h1 := ((((h.stored (i * 5) (.int .i64 x.1.1)).1.stored (i * 5 + 1) (.int .i64 x.1.2.1)).1.stored (i * 5 + 2) (.int .i64 x.1.2.2)).1.stored (i * 5 + 3) (.int .i64 x.2.1)).1.stored (i * 5 + 4) (.int .i64 x.2.2)
  unfold OwnH
  rw [List.length_set, ← hcs_set]
  exact h1.1
end Go.Proofs.YthclgccgkdijbaaDoor
