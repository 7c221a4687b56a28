/- Slices of waiting claims as lists; rows of waiting claims of the call's own: append, stores. -/
import Derived.Test.YtfcekfdoafpmoaaHml
import Derived.Test.YtfcekfdoafpmoaaAroom
import Derived.Test.YtfcekfdoafpmoaaHid
import Derived.Test.YtfcekfdoafpmoaaJd
import Derived.Laws.OwnMore
namespace Go.Proofs.Ytfcekfdoafpmoaa
open Go.RowKit
set_option linter.unusedVariables false
set_option linter.unusedSimpArgs false

abbrev wvv (h : Wt) : Value := .agg #[.int .i64 h.1.1, .int .i64 h.1.2.1, .int .i64 h.1.2.2, .int .i64 h.2.1.1, .int .i64 h.2.1.2, .int .i64 h.2.2.1, .int .i64 h.2.2.2]
abbrev wag (x y z m n p q : Int) : Value := .agg #[.int .i64 x, .int .i64 y, .int .i64 z, .int .i64 m, .int .i64 n, .int .i64 p, .int .i64 q]
def Z7 (w : World) (b o : Nat) (r : Wt) : Prop :=
  w.cell? ⟨b, o, none⟩ = some (.int .i64 r.1.1) ∧ w.cell? ⟨b, o + 1, none⟩ = some (.int .i64 r.1.2.1) ∧ w.cell? ⟨b, o + 2, none⟩ = some (.int .i64 r.1.2.2) ∧ w.cell? ⟨b, o + 3, none⟩ = some (.int .i64 r.2.1.1) ∧ w.cell? ⟨b, o + 4, none⟩ = some (.int .i64 r.2.1.2) ∧ w.cell? ⟨b, o + 5, none⟩ = some (.int .i64 r.2.2.1) ∧ w.cell? ⟨b, o + 6, none⟩ = some (.int .i64 r.2.2.2)
theorem Z7.lt {w : World} {b o : Nat} {r : Wt} (h : Z7 w b o r) : b < w.heap.size := by have := World.block_lt_of_cell? w _ h.1; exact this
theorem Z7.of {w w' : World} {b o : Nat} {r : Wt} (h : Z7 w b o r) {B : Nat} (hb : Below B w w') (hB : b < B) : Z7 w' b o r :=
  ⟨(hb.cell (p := ⟨b, o, none⟩) hB).trans h.1, (hb.cell (p := ⟨b, o + 1, none⟩) hB).trans h.2.1, (hb.cell (p := ⟨b, o + 2, none⟩) hB).trans h.2.2.1, (hb.cell (p := ⟨b, o + 3, none⟩) hB).trans h.2.2.2.1, (hb.cell (p := ⟨b, o + 4, none⟩) hB).trans h.2.2.2.2.1, (hb.cell (p := ⟨b, o + 5, none⟩) hB).trans h.2.2.2.2.2.1, (hb.cell (p := ⟨b, o + 6, none⟩) hB).trans h.2.2.2.2.2.2⟩
theorem Z7.below {w w' : World} {b o : Nat} {r : Wt} (h : Z7 w b o r) (hb : Below w.heap.size w w') : Z7 w' b o r := h.of hb h.lt
def WRd (w : World) (A : Option Addr) (l : List Wt) : Prop :=
  l ≠ [] → ∃ b o, A = some ⟨b, o, none⟩ ∧ b < w.heap.size ∧ ∀ i, i < l.length → Z7 w b (o + i * 7) (l.getD i default)
theorem WRd.nil (w : World) (A : Option Addr) : WRd w A [] := fun h => absurd rfl h
theorem WRd.below {w w' : World} {A : Option Addr} {l : List Wt} (h : WRd w A l) (hb : Below w.heap.size w w') : WRd w' A l := fun hx => by
  obtain ⟨b, o, hA, hlt, hc⟩ := h hx
  exact ⟨b, o, hA, Nat.lt_of_lt_of_le hlt hb.size, fun i hi => (hc i hi).of hb hlt⟩
theorem WRd.at_ {w : World} {A : Option Addr} {l : List Wt} (h : WRd w A l) {i : Nat} (hi : i < l.length) :
    ∃ b o x y z m n p q, A = some ⟨b, o, none⟩ ∧ b < w.heap.size ∧ Hid (l.getD i default = ((x, y, z), (m, n), p, q)) ∧ w.cell? ⟨b, o + i * 7, none⟩ = some (.int .i64 x) ∧ w.cell? ⟨b, o + i * 7 + 1, none⟩ = some (.int .i64 y) ∧ w.cell? ⟨b, o + i * 7 + 2, none⟩ = some (.int .i64 z) ∧ w.cell? ⟨b, o + i * 7 + 3, none⟩ = some (.int .i64 m) ∧ w.cell? ⟨b, o + i * 7 + 4, none⟩ = some (.int .i64 n) ∧ w.cell? ⟨b, o + i * 7 + 5, none⟩ = some (.int .i64 p) ∧ w.cell? ⟨b, o + i * 7 + 6, none⟩ = some (.int .i64 q) := by
  obtain ⟨b, o, hA, hb, hc⟩ := h (by rintro rfl; simp at hi)
  obtain ⟨h0, h1, h2, h3, h4, h5, h6⟩ := hc i hi
  exact ⟨b, o, _, _, _, _, _, _, _, hA, hb, rfl, h0, h1, h2, h3, h4, h5, h6⟩
theorem getD_takeW {l : List Wt} {k i : Nat} (h : i < k) : (l.take k).getD i default = l.getD i default := by simp [List.getD_eq_getElem?_getD, h]
theorem getD_dropW (l : List Wt) (k i : Nat) : (l.drop k).getD i default = l.getD (k + i) default := by simp [List.getD_eq_getElem?_getD]
theorem getD_memW {l : List Wt} {i : Nat} (hi : i < l.length) : l.getD i default ∈ l := by
  rw [List.getD_eq_getElem?_getD, List.getElem?_eq_getElem hi]
  exact List.getElem_mem hi
theorem mem_getDW {l : List Wt} {p : Wt} (h : p ∈ l) : ∃ i, i < l.length ∧ l.getD i default = p := by
  obtain ⟨i, hi, h⟩ := List.getElem_of_mem h
  exact ⟨i, hi, by rw [List.getD_eq_getElem?_getD, List.getElem?_eq_getElem hi]; exact h⟩
theorem take_snocW {l : List Wt} {k : Nat} (h : k < l.length) : l.take (k + 1) = l.take k ++ [l.getD k default] := by
  rw [List.take_succ_eq_append_getElem h, List.getD_eq_getElem?_getD, List.getElem?_eq_getElem h]; rfl
theorem WRd.take {w : World} {A : Option Addr} {l : List Wt} (h : WRd w A l) (k : Nat) : WRd w A (l.take k) := fun hx => by
  obtain ⟨b, o, rfl, hlt, hc⟩ := h (by rintro rfl; simp at hx)
  refine ⟨b, o, rfl, hlt, fun i hi => ?_⟩
  rw [List.length_take] at hi
  rw [getD_takeW (by omega)]
  exact hc i (by omega)
theorem WRd.drop {w : World} {A : Option Addr} {l : List Wt} (h : WRd w A l) (k : Nat) : WRd w (A.map fun a => a.add (k * 7)) (l.drop k) := fun hx => by
  have hk : k < l.length := by
    rcases Nat.lt_or_ge k l.length with hk | hk
    · exact hk
    · exact absurd (List.drop_eq_nil_of_le hk) hx
  obtain ⟨b, o, rfl, hlt, hc⟩ := h (by rintro rfl; simp at hk)
  refine ⟨b, o + k * 7, by simp [add_at], hlt, fun i hi => ?_⟩
  rw [List.length_drop] at hi
  have h1 := hc (k + i) (by omega)
  rw [getD_dropW, show o + k * 7 + i * 7 = o + (k + i) * 7 by omega]
  exact h1
theorem WRd.one {w : World} {g : Nat} {r : Wt} (h : Z7 w g 0 r) : WRd w (some ⟨g, 0, none⟩) [r] := fun _ => ⟨g, 0, rfl, h.lt, fun i hi => by
  obtain rfl : i = 0 := by simpa using hi
  simpa using h⟩
/-! ### Cells -/
def wcs : List Wt → List Value
  | [] => []
  | p :: l => .int .i64 p.1.1 :: .int .i64 p.1.2.1 :: .int .i64 p.1.2.2 :: .int .i64 p.2.1.1 :: .int .i64 p.2.1.2 :: .int .i64 p.2.2.1 :: .int .i64 p.2.2.2 :: wcs l
theorem wcs_length : ∀ l : List Wt, (wcs l).length = l.length * 7
  | [] => rfl
  | p :: l => by simp [wcs, wcs_length l]; omega
theorem wcs_append : ∀ l r : List Wt, wcs (l ++ r) = wcs l ++ wcs r
  | [], r => rfl
  | p :: l, r => by simp [wcs, wcs_append l r]
theorem wcs_take : ∀ (l : List Wt) (k : Nat), wcs (l.take k) = (wcs l).take (k * 7)
  | [], k => by simp [wcs]
  | p :: l, 0 => by simp [wcs]
  | p :: l, k + 1 => by rw [List.take_succ_cons, wcs, wcs_take l k, wcs, show (k + 1) * 7 = k * 7 + 1 + 1 + 1 + 1 + 1 + 1 + 1 by omega]; simp only [List.take_succ_cons]
theorem wcs_drop : ∀ (l : List Wt) (k : Nat), wcs (l.drop k) = (wcs l).drop (k * 7)
  | [], k => by simp [wcs]
  | p :: l, 0 => by simp
  | p :: l, k + 1 => by rw [List.drop_succ_cons, wcs_drop l k, wcs, show (k + 1) * 7 = k * 7 + 1 + 1 + 1 + 1 + 1 + 1 + 1 by omega]; simp only [List.drop_succ_cons]
theorem wcs_at : ∀ (l : List Wt) (i : Nat), i < l.length → (wcs l)[i * 7]? = some (.int .i64 (l.getD i default).1.1) ∧ (wcs l)[i * 7 + 1]? = some (.int .i64 (l.getD i default).1.2.1) ∧ (wcs l)[i * 7 + 2]? = some (.int .i64 (l.getD i default).1.2.2) ∧ (wcs l)[i * 7 + 3]? = some (.int .i64 (l.getD i default).2.1.1) ∧ (wcs l)[i * 7 + 4]? = some (.int .i64 (l.getD i default).2.1.2) ∧ (wcs l)[i * 7 + 5]? = some (.int .i64 (l.getD i default).2.2.1) ∧ (wcs l)[i * 7 + 6]? = some (.int .i64 (l.getD i default).2.2.2)
  | [], i, h => by simp at h
  | p :: l, 0, _ => by simp [wcs]
  | p :: l, i + 1, h => by
    have := wcs_at l i (by simpa using h)
    rw [show (i + 1) * 7 = i * 7 + 1 + 1 + 1 + 1 + 1 + 1 + 1 by omega]
    simpa [wcs] using this
theorem wcs_one (l : List Wt) : ∀ u ∈ wcs l, u.oneCell' = true := by
  induction l with
  | nil => intro u hu; cases hu
  | cons p l ih =>
    intro u hu
    simp only [wcs, List.mem_cons] at hu
    rcases hu with rfl | rfl | rfl | rfl | rfl | rfl | rfl | hu
    · rfl
    · rfl
    · rfl
    · rfl
    · rfl
    · rfl
    · rfl
    · exact ih u hu
theorem wcs_set : ∀ (l : List Wt) (i : Nat) (x : Wt), (((((((wcs l).set (i * 7) (.int .i64 x.1.1)).set (i * 7 + 1) (.int .i64 x.1.2.1)).set (i * 7 + 2) (.int .i64 x.1.2.2)).set (i * 7 + 3) (.int .i64 x.2.1.1)).set (i * 7 + 4) (.int .i64 x.2.1.2)).set (i * 7 + 5) (.int .i64 x.2.2.1)).set (i * 7 + 6) (.int .i64 x.2.2.2) = wcs (l.set i x)
  | [], i, x => by simp [wcs]
  | p :: l, 0, x => by simp [wcs]
  | p :: l, i + 1, x => by
    have := wcs_set l i x
    rw [show (i + 1) * 7 = i * 7 + 1 + 1 + 1 + 1 + 1 + 1 + 1 by omega]
    simpa [wcs] using this
theorem WRd.cell {w : World} {b o : Nat} {l : List Wt} (hc : ∀ i, i < l.length → Z7 w b (o + i * 7) (l.getD i default)) {j : Nat} {u : Value} (hu : (wcs l)[j]? = some u) : w.cell? ⟨b, o + j, none⟩ = some u := by
  have hj : j < l.length * 7 := by rw [← wcs_length]; exact (List.getElem?_eq_some_iff.1 hu).1
  obtain ⟨h0, h1, h2, h3, h4, h5, h6⟩ := hc (j / 7) (by omega)
  obtain ⟨g0, g1, g2, g3, g4, g5, g6⟩ := wcs_at l (j / 7) (by omega)
  have hd : j % 7 = 0 ∨ j % 7 = 1 ∨ j % 7 = 2 ∨ j % 7 = 3 ∨ j % 7 = 4 ∨ j % 7 = 5 ∨ j % 7 = 6 := by omega
  rcases hd with e | e | e | e | e | e | e
  · rw [show o + j = o + j / 7 * 7 by omega, h0, ← g0, show j / 7 * 7 = j by omega, hu]
  · rw [show o + j = o + j / 7 * 7 + 1 by omega, h1, ← g1, show j / 7 * 7 + 1 = j by omega, hu]
  · rw [show o + j = o + j / 7 * 7 + 2 by omega, h2, ← g2, show j / 7 * 7 + 2 = j by omega, hu]
  · rw [show o + j = o + j / 7 * 7 + 3 by omega, h3, ← g3, show j / 7 * 7 + 3 = j by omega, hu]
  · rw [show o + j = o + j / 7 * 7 + 4 by omega, h4, ← g4, show j / 7 * 7 + 4 = j by omega, hu]
  · rw [show o + j = o + j / 7 * 7 + 5 by omega, h5, ← g5, show j / 7 * 7 + 5 = j by omega, hu]
  · rw [show o + j = o + j / 7 * 7 + 6 by omega, h6, ← g6, show j / 7 * 7 + 6 = j by omega, hu]

abbrev OwnW (w : World) (base : Nat) (v : Value) (l : List Wt) : Prop := w.ownsRow base 28 7 v l.length (wcs l)
theorem OwnW.form {w : World} {base : Nat} {v : Value} {l : List Wt} (h : OwnW w base v l) :
    ∃ A c, v = .slice A l.length c ∧ l.length ≤ c ∧ WRd w A l ∧ (0 < l.length → ∃ g, A = some ⟨g, 0, none⟩ ∧ base ≤ g ∧ g < w.heap.size) := by
  rcases h.2 with ⟨rfl, hn⟩ | ⟨g, cap, cur, rfl, hb, hg, hnc, hcm, _, _⟩
  · exact ⟨none, 0, by rw [hn], by omega, fun hx => absurd (List.eq_nil_of_length_eq_zero hn) hx, fun h0 => by omega⟩
  · have hlt : g < w.heap.size := (Array.getElem?_eq_some_iff.1 hg).1
    refine ⟨_, cap, rfl, hnc, fun _ => ⟨g, 0, rfl, hlt, fun i hi => ?_⟩, fun _ => ⟨g, rfl, hb, hlt⟩⟩
    obtain ⟨g0, g1, g2, g3, g4, g5, g6⟩ := wcs_at l i hi
    have h0 := h.cellAt (i * 7) (by omega)
    have h1 := h.cellAt (i * 7 + 1) (by omega)
    have h2 := h.cellAt (i * 7 + 2) (by omega)
    have h3 := h.cellAt (i * 7 + 3) (by omega)
    have h4 := h.cellAt (i * 7 + 4) (by omega)
    have h5 := h.cellAt (i * 7 + 5) (by omega)
    have h6 := h.cellAt (i * 7 + 6) (by omega)
    rw [g0] at h0
    rw [g1] at h1
    rw [g2] at h2
    rw [g3] at h3
    rw [g4] at h4
    rw [g5] at h5
    rw [g6] at h6
    rw [Nat.zero_add]
    exact ⟨h0, h1, h2, h3, h4, h5, h6⟩
theorem OwnW.below {w w' : World} {base : Nat} {v : Value} {l : List Wt} (h : OwnW w base v l) (hb : Below w.heap.size w w') : OwnW w' base v l := by
  refine ⟨h.1, ?_⟩
  rcases h.2 with hn | ⟨g, cap, cur, rfl, hbg, hg, rest⟩
  · exact .inl hn
  · exact .inr ⟨g, cap, cur, rfl, hbg, by rw [hb.block g (Array.getElem?_eq_some_iff.1 hg).1]; exact hg, rest⟩
theorem OwnW.nil (w : World) (base : Nat) : OwnW w base (.slice none 0 0) [] := World.ownsRow_nil w base _ 7
theorem OwnW.empty (w : World) (base : Nat) (h : base ≤ w.heap.size) : OwnW (w.alloc (.cells #[] 28)) base (.slice (some ⟨w.heap.size, 0, none⟩) 0 0) [] :=
  World.ownsRow_made w #[] 0 h (Nat.zero_le _) rfl

theorem Src.waits {w : World} {tx e' : TypeId} (hk : Try.prog.underlying tx = some (.slice e')) {A : Option Addr} {ys : List Wt} (c : Nat) (h : WRd w A ys) : Src Try.prog 7 tx (.slice A ys.length c) ys.length (wcs ys) w := by
  cases A with
  | none =>
    have hx : ys = [] := by
      rcases ys with _ | ⟨x, r⟩
      · rfl
      · obtain ⟨_, _, h, _⟩ := h (by simp)
        cases h
    subst hx
    exact Src.ofNil w hk c
  | some a =>
    rcases ys with _ | ⟨x, r⟩
    · exact Src.ofSlice w hk a 0 c [] rfl (fun j u h => by simp at h) (fun u h => by cases h)
    · obtain ⟨b, o, hA, _, hc⟩ := h (by simp)
      injection hA with hA
      subst hA
      refine Src.ofSlice w hk _ _ c _ (by rw [wcs_length]) (fun j u hu => ?_) (wcs_one _)
      rw [add_at]
      exact WRd.cell hc hu
theorem wait_info : (Try.prog.info? 28).map (fun i => (i.zero, i.size, i.bytes)) = some (some (.agg #[.int .i64 0, .int .i64 0, .int .i64 0, .int .i64 0, .int .i64 0, .int .i64 0, .int .i64 0]), 7, 56) := by kernel_rfl
theorem app_wait {w : World} {ops : Array Oper} {rest : List Oper} {o : Oper} {a : Act} {Q : Exit → Act → World → Prop} (hgd : Region.wanted o (yielded ops a.tmps) = true) (s y : Operand)
    (ho : o.op = .call { callee := .builtin .append, args := #[s, y], argTypes := #[22, 22] })
    (base : Nat) (V : Value) (xs : List Wt) (A : Option Addr) (ys : List Wt) (n c : Nat) (hn : Hid (ys.length = n)) (hv : a.eval s = V) (hx : a.eval y = .slice A n c)
    (hd : OwnW w base V xs) (hs : WRd w A ys) (hlen : Hid (xs.length + n ≤ 1000000)) (hbase : base ≤ w.heap.size)
    (h : ∀ V' w', OwnW w' base V' (xs ++ ys) → Below base w w' → wpList Try.prog ops Q rest (a.put o.dst V') w') :
    wpList Try.prog ops Q (o :: rest) a w := by
  have hn' := hn.out
  subst hn'
  obtain ⟨i0, hi, hz0, hz1, hz2⟩ := info_parts wait_info
  have hl := hlen.out
  refine wpList_app w hgd s y 22 22 ho base 28 i0 _ 7 56 Try.underlying22 hi hz0 hz1 hz2 rfl V xs.length (wcs xs) _ ys.length (wcs ys) hv hx (.inl hd)
    (Src.waits Try.underlying22 c hs) (by simp only [maxLen]; omega) (fits_half (by omega)) hbase (fun V' w' h1 h2 h3 h4 => h V' w' ?_ h2)
  unfold OwnW
  rw [List.length_append, wcs_append]
  exact h1
/-- A store into element i of an own row. -/
theorem OwnW.store {w : World} {base g n cap : Nat} {l : List Wt} (h : OwnW w base (.slice (some ⟨g, 0, none⟩) n cap) l) (hn : l.length = n) (i : Nat) (x : Wt) :
    OwnW (((((((w.setCell ⟨g, i * 7, none⟩ (.int .i64 x.1.1)).setCell ⟨g, i * 7 + 1, none⟩ (.int .i64 x.1.2.1)).setCell ⟨g, i * 7 + 2, none⟩ (.int .i64 x.1.2.2)).setCell ⟨g, i * 7 + 3, none⟩ (.int .i64 x.2.1.1)).setCell ⟨g, i * 7 + 4, none⟩ (.int .i64 x.2.1.2)).setCell ⟨g, i * 7 + 5, none⟩ (.int .i64 x.2.2.1)).setCell ⟨g, i * 7 + 6, none⟩ (.int .i64 x.2.2.2)) base (.slice (some ⟨g, 0, none⟩) n cap) (l.set i x) := by
  subst hn
  have h1 := ((((((h.stored (i * 7) (.int .i64 x.1.1)).1.stored (i * 7 + 1) (.int .i64 x.1.2.1)).1.stored (i * 7 + 2) (.int .i64 x.1.2.2)).1.stored (i * 7 + 3) (.int .i64 x.2.1.1)).1.stored (i * 7 + 4) (.int .i64 x.2.1.2)).1.stored (i * 7 + 5) (.int .i64 x.2.2.1)).1.stored (i * 7 + 6) (.int .i64 x.2.2.2)
  unfold OwnW
  rw [List.length_set, ← wcs_set]
  exact h1.1
end Go.Proofs.Ytfcekfdoafpmoaa
