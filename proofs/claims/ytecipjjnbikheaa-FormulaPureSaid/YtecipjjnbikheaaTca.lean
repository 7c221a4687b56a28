/- Slices of resources as lists; rows of resources of the call's own, append (XCrows without ==). Contracts of the mill: Catalog. -/
import Derived.Test.YtecipjjnbikheaaRcat
import Derived.Test.YtecipjjnbikheaaHeap
import Derived.Test.YtecipjjnbikheaaCd
import Derived.Test.YtecipjjnbikheaaTmd
import Derived.Deep.CutRange
namespace Go.Proofs.Ytecipjjnbikheaa
open Go.RowKit
set_option linter.unusedVariables false

/-- The four cells at o of block b hold the resource r. -/
def Z4 (w : World) (b o : Nat) (r : P4) : Prop :=
  w.cell? ⟨b, o, none⟩ = some (.string r.1) ∧ w.cell? ⟨b, o + 1, none⟩ = some (.int .i64 r.2.1) ∧ w.cell? ⟨b, o + 2, none⟩ = some (.int .i64 r.2.2.1) ∧ w.cell? ⟨b, o + 3, none⟩ = some (.int .i64 r.2.2.2)
theorem Z4.lt {w : World} {b o : Nat} {r : P4} (h : Z4 w b o r) : b < w.heap.size := by have := World.block_lt_of_cell? w _ h.1; exact this
theorem Z4.of {w w' : World} {b o : Nat} {r : P4} (h : Z4 w b o r) {B : Nat} (hb : Below B w w') (hB : b < B) : Z4 w' b o r :=
  ⟨(hb.cell (p := ⟨b, o, none⟩) hB).trans h.1, (hb.cell (p := ⟨b, o + 1, none⟩) hB).trans h.2.1, (hb.cell (p := ⟨b, o + 2, none⟩) hB).trans h.2.2.1, (hb.cell (p := ⟨b, o + 3, none⟩) hB).trans h.2.2.2⟩
theorem Z4.below {w w' : World} {b o : Nat} {r : P4} (h : Z4 w b o r) (hb : Below w.heap.size w w') : Z4 w' b o r := h.of hb h.lt

/-- The slice at A reads as the resources l, four cells each. -/
def RRd (w : World) (A : Option Addr) (l : List P4) : Prop :=
  l ≠ [] → ∃ b o, A = some ⟨b, o, none⟩ ∧ b < w.heap.size ∧ ∀ i, i < l.length → Z4 w b (o + i * 4) (l.getD i default)
theorem RRd.nil (w : World) (A : Option Addr) : RRd w A [] := fun h => absurd rfl h
theorem RRd.below {w w' : World} {A : Option Addr} {l : List P4} (h : RRd w A l) (hb : Below w.heap.size w w') : RRd w' A l := fun hx => by
  obtain ⟨b, o, hA, hlt, hc⟩ := h hx
  exact ⟨b, o, hA, Nat.lt_of_lt_of_le hlt hb.size, fun i hi => (hc i hi).of hb hlt⟩
theorem RRd.at_ {w : World} {A : Option Addr} {l : List P4} (h : RRd w A l) {i : Nat} (hi : i < l.length) :
    ∃ b o s k u hm, A = some ⟨b, o, none⟩ ∧ b < w.heap.size ∧ Hid (l.getD i default = (s, k, u, hm)) ∧ w.cell? ⟨b, o + i * 4, none⟩ = some (.string s) ∧ w.cell? ⟨b, o + i * 4 + 1, none⟩ = some (.int .i64 k) ∧ w.cell? ⟨b, o + i * 4 + 2, none⟩ = some (.int .i64 u) ∧ w.cell? ⟨b, o + i * 4 + 3, none⟩ = some (.int .i64 hm) := by
  obtain ⟨b, o, hA, hb, hc⟩ := h (by rintro rfl; simp at hi)
  obtain ⟨h1, h2, h3, h4⟩ := hc i hi
  exact ⟨b, o, _, _, _, _, hA, hb, rfl, h1, h2, h3, h4⟩
theorem getD_take4 {l : List P4} {k i : Nat} (h : i < k) : (l.take k).getD i default = l.getD i default := by simp [List.getD_eq_getElem?_getD, h]
theorem getD_drop4 (l : List P4) (k i : Nat) : (l.drop k).getD i default = l.getD (k + i) default := by simp [List.getD_eq_getElem?_getD]
theorem RRd.take {w : World} {A : Option Addr} {l : List P4} (h : RRd w A l) (k : Nat) : RRd w A (l.take k) := fun hx => by
  obtain ⟨b, o, rfl, hlt, hc⟩ := h (by rintro rfl; simp at hx)
  refine ⟨b, o, rfl, hlt, fun i hi => ?_⟩
  rw [List.length_take] at hi
  rw [getD_take4 (by omega)]
  exact hc i (by omega)
theorem RRd.drop {w : World} {A : Option Addr} {l : List P4} (h : RRd w A l) (k : Nat) : RRd w (A.map fun a => a.add (k * 4)) (l.drop k) := fun hx => by
  have hk : k < l.length := by
    rcases Nat.lt_or_ge k l.length with hk | hk
    · exact hk
    · exact absurd (List.drop_eq_nil_of_le hk) hx
  obtain ⟨b, o, rfl, hlt, hc⟩ := h (by rintro rfl; simp at hk)
  refine ⟨b, o + k * 4, by simp [add_at], hlt, fun i hi => ?_⟩
  rw [List.length_drop] at hi
  have h1 := hc (k + i) (by omega)
  rw [getD_drop4, show o + k * 4 + i * 4 = o + (k + i) * 4 by omega]
  exact h1

/-! ### Cells -/
def rvs : List P4 → List Value
  | [] => []
  | p :: l => .string p.1 :: .int .i64 p.2.1 :: .int .i64 p.2.2.1 :: .int .i64 p.2.2.2 :: rvs l
theorem rvs_length : ∀ l : List P4, (rvs l).length = l.length * 4
  | [] => rfl
  | p :: l => by simp [rvs, rvs_length l]; omega
theorem rvs_append : ∀ l r : List P4, rvs (l ++ r) = rvs l ++ rvs r
  | [], r => rfl
  | p :: l, r => by simp [rvs, rvs_append l r]
theorem rvs_at : ∀ (l : List P4) (i : Nat), i < l.length → (rvs l)[i * 4]? = some (.string (l.getD i default).1) ∧ (rvs l)[i * 4 + 1]? = some (.int .i64 (l.getD i default).2.1) ∧ (rvs l)[i * 4 + 2]? = some (.int .i64 (l.getD i default).2.2.1) ∧ (rvs l)[i * 4 + 3]? = some (.int .i64 (l.getD i default).2.2.2)
  | [], i, h => by simp at h
  | p :: l, 0, _ => by simp [rvs]
  | p :: l, i + 1, h => by
    have := rvs_at l i (by simpa using h)
    rw [show (i + 1) * 4 = i * 4 + 1 + 1 + 1 + 1 by omega]
    simpa [rvs] using this
theorem rvs_one (l : List P4) : ∀ u ∈ rvs l, u.oneCell' = true := by
  induction l with
  | nil => intro u hu; cases hu
  | cons p l ih =>
    intro u hu
    simp only [rvs, List.mem_cons] at hu
    rcases hu with rfl | rfl | rfl | rfl | hu
    · rfl
    · rfl
    · rfl
    · rfl
    · exact ih u hu
/-- What lies at cell j of the row. -/
theorem RRd.cell {w : World} {b o : Nat} {l : List P4} (hc : ∀ i, i < l.length → Z4 w b (o + i * 4) (l.getD i default)) {j : Nat} {u : Value} (hu : (rvs l)[j]? = some u) : w.cell? ⟨b, o + j, none⟩ = some u := by
  have hj : j < l.length * 4 := by rw [← rvs_length]; exact (List.getElem?_eq_some_iff.1 hu).1
  obtain ⟨h1, h2, h3, h4⟩ := hc (j / 4) (by omega)
  obtain ⟨g1, g2, g3, g4⟩ := rvs_at l (j / 4) (by omega)
  have hd : j % 4 = 0 ∨ j % 4 = 1 ∨ j % 4 = 2 ∨ j % 4 = 3 := by omega
  rcases hd with e | e | e | e
  · rw [show o + j = o + j / 4 * 4 by omega, h1, ← g1, show j / 4 * 4 = j by omega, hu]
  · rw [show o + j = o + j / 4 * 4 + 1 by omega, h2, ← g2, show j / 4 * 4 + 1 = j by omega, hu]
  · rw [show o + j = o + j / 4 * 4 + 2 by omega, h3, ← g3, show j / 4 * 4 + 2 = j by omega, hu]
  · rw [show o + j = o + j / 4 * 4 + 3 by omega, h4, ← g4, show j / 4 * 4 + 3 = j by omega, hu]

abbrev OwnR (w : World) (base : Nat) (v : Value) (l : List P4) : Prop := w.ownsRow base 63 4 v l.length (rvs l)
theorem OwnR.form {w : World} {base : Nat} {v : Value} {l : List P4} (h : OwnR w base v l) :
    ∃ A c, v = .slice A l.length c ∧ l.length ≤ c ∧ RRd w A l ∧ (0 < l.length → ∃ g, A = some ⟨g, 0, none⟩ ∧ base ≤ g ∧ g < w.heap.size) := by
  rcases h.2 with ⟨rfl, hn⟩ | ⟨g, cap, cur, rfl, hb, hg, hnc, hcm, _, _⟩
  · exact ⟨none, 0, by rw [hn], by omega, fun hx => absurd (List.eq_nil_of_length_eq_zero hn) hx, fun h0 => by omega⟩
  · have hlt : g < w.heap.size := (Array.getElem?_eq_some_iff.1 hg).1
    refine ⟨_, cap, rfl, hnc, fun _ => ⟨g, 0, rfl, hlt, fun i hi => ?_⟩, fun _ => ⟨g, rfl, hb, hlt⟩⟩
    obtain ⟨g1, g2, g3, g4⟩ := rvs_at l i hi
    have h1 := h.cellAt (i * 4) (by omega)
    have h2 := h.cellAt (i * 4 + 1) (by omega)
    have h3 := h.cellAt (i * 4 + 2) (by omega)
    have h4 := h.cellAt (i * 4 + 3) (by omega)
    rw [g1] at h1
    rw [g2] at h2
    rw [g3] at h3
    rw [g4] at h4
    rw [Nat.zero_add]
    exact ⟨h1, h2, h3, h4⟩
theorem OwnR.below {w w' : World} {base : Nat} {v : Value} {l : List P4} (h : OwnR w base v l) (hb : Below w.heap.size w w') : OwnR w' base v l := by
  refine ⟨h.1, ?_⟩
  rcases h.2 with hn | ⟨g, cap, cur, rfl, hbg, hg, rest⟩
  · exact .inl hn
  · exact .inr ⟨g, cap, cur, rfl, hbg, by rw [hb.block g (Array.getElem?_eq_some_iff.1 hg).1]; exact hg, rest⟩
theorem OwnR.nil (w : World) (base : Nat) : OwnR w base (.slice none 0 0) [] := World.ownsRow_nil w base _ 4

theorem Src.ress {w : World} {tx e' : TypeId} (hk : Try.prog.underlying tx = some (.slice e')) {A : Option Addr} {ys : List P4} (c : Nat) (h : RRd w A ys) : Src Try.prog 4 tx (.slice A ys.length c) ys.length (rvs ys) w := by
  cases A with
  | none =>
    have hx : ys = [] := by
      rcases ys with _ | ⟨x, r⟩
      · rfl
      · obtain ⟨_, _, h, _⟩ := h (by simp)
        cases h
    subst hx
    exact Src.ofNil w hk c
  | some a =>
    rcases ys with _ | ⟨x, r⟩
    · exact Src.ofSlice w hk a 0 c [] rfl (fun j u h => by simp at h) (fun u h => by cases h)
    · obtain ⟨b, o, hA, _, hc⟩ := h (by simp)
      injection hA with hA
      subst hA
      refine Src.ofSlice w hk _ _ c _ (by rw [rvs_length]) (fun j u hu => ?_) (rvs_one _)
      rw [add_at]
      exact RRd.cell hc hu
theorem res_info : (Try.prog.info? 63).map (fun i => (i.zero, i.size, i.bytes)) = some (some (.agg #[.string ⟨#[]⟩, .int .i64 0, .int .i64 0, .int .i64 0]), 4, 40) := by kernel_rfl
theorem app_res {w : World} {ops : Array Oper} {rest : List Oper} {o : Oper} {a : Act} {Q : Exit → Act → World → Prop} (hgd : Region.wanted o (yielded ops a.tmps) = true) (s y : Operand)
    (ho : o.op = .call { callee := .builtin .append, args := #[s, y], argTypes := #[41, 41] })
    (base : Nat) (V : Value) (xs : List P4) (A : Option Addr) (ys : List P4) (n c : Nat) (hn : Hid (ys.length = n)) (hv : a.eval s = V) (hx : a.eval y = .slice A n c)
    (hd : OwnR w base V xs) (hs : RRd w A ys) (hlen : Hid (xs.length + n ≤ 3518437208880)) (hbase : base ≤ w.heap.size)
    (h : ∀ V' w', OwnR w' base V' (xs ++ ys) → Below base w w' → wpList Try.prog ops Q rest (a.put o.dst V') w') :
    wpList Try.prog ops Q (o :: rest) a w := by
  have hn' := hn.out
  subst hn'
  obtain ⟨i0, hi, hz0, hz1, hz2⟩ := info_parts res_info
  have hl := hlen.out
  refine wpList_app w hgd s y 41 41 ho base 63 i0 _ 4 40 Try.underlying41 hi hz0 hz1 hz2 rfl V xs.length (rvs xs) _ ys.length (rvs ys) hv hx (.inl hd)
    (Src.ress Try.underlying41 c hs) (by simp only [maxLen]; omega) (fits_half (by omega)) hbase (fun V' w' h1 h2 h3 h4 => h V' w' ?_ h2)
  unfold OwnR
  rw [List.length_append, rvs_append]
  exact h1
/-- A slice of resources that lies in the world. -/
structure InR (w : World) (A : Option Addr) (n c : Nat) (l : List P4) : Prop where
  len : l.length = n
  rd : RRd w A l
  fit : n ≤ c
  big : n ≤ 3518437208880
theorem InR.below {w w' : World} {A : Option Addr} {n c : Nat} {l : List P4} (h : InR w A n c l) (hb : Below w.heap.size w w') : InR w' A n c l := ⟨h.len, h.rd.below hb, h.fit, h.big⟩
end Go.Proofs.Ytecipjjnbikheaa

namespace Go.Proofs.Ytecipjjnbikheaa
open Go.RowKit
set_option linter.unusedVariables false
set_option linter.unusedSimpArgs false

/-- append of resources at a step of a region that draws. -/
theorem step_app_res {w : World} {ops : Array Oper} {o : Oper} {a : Act} {K : Act → World → Prop} {Q : Exit → Act → World → Prop} {E : Prop} (hgd : o.guard = none) (s y : Operand)
    (ho : o.op = .call { callee := .builtin .append, args := #[s, y], argTypes := #[41, 41] })
    (base : Nat) (V : Value) (xs : List P4) (A : Option Addr) (ys : List P4) (n c : Nat) (hn : Hid (ys.length = n)) (hv : a.eval s = V) (hx : a.eval y = .slice A n c)
    (hd : OwnR w base V xs) (hs : RRd w A ys) (hlen : Hid (xs.length + n ≤ 1000000)) (hbase : base ≤ w.heap.size)
    (h : ∀ V' w', OwnR w' base V' (xs ++ ys) → w.grownBy w' V.ownBlock → K (a.put o.dst V') w') :
    if Region.wanted o (yielded ops a.tmps) = true then Oper.wp Try.prog o a w K Q else E := by
  have hw : Region.wanted o (yielded ops a.tmps) = true := by simp [Region.wanted, hgd]
  rw [if_pos hw]
  have hn' := hn.out
  subst hn'
  obtain ⟨i0, hi, hz0, hz1, hz2⟩ := info_parts res_info
  have hl := hlen.out
  obtain ⟨v', w', hr, h2, h3, h4, h5⟩ := run_app (P := Try.prog) w base 41 41 o.type 63 i0 _ 4 40 Try.underlying41 hi hz0 hz1 hz2 rfl V xs.length (rvs xs) _ ys.length (rvs ys) (.inl hd)
    (Src.ress Try.underlying41 c hs) (by simp only [maxLen]; omega) (fits_half (by omega)) hbase
  unfold Oper.wp execOp
  simp only [ho, resolve, invoke, builtin, Sem.run_bind, Sem.run_pure, Result.andThen_ok, List.map_toArray, List.map_cons, List.map_nil, hv, hx, hr]
  refine h v' w' ?_ (h4 hd)
  unfold OwnR
  rw [List.length_append, rvs_append]
  exact h2
theorem rrd_at (w : World) (T : TypeId) (s : ByteArray) (k u h : Int) {g : Nat} (hg : w.heap.size = g) : RRd (w.alloc (.cells #[.string s, .int .i64 k, .int .i64 u, .int .i64 h] T)) (some ⟨g, 0, none⟩) [(s, k, u, h)] := by
  subst hg
  exact fun _ => ⟨_, 0, rfl, by simp, fun i hi => by
    obtain rfl : i = 0 := by simpa using hi
    exact ⟨by simp, by simp, by simp, by simp⟩⟩
theorem Tp.grown {w w' : World} {b : Nat} {r : Option Nat} (h : Tp w b) (hg : w.grownBy w' r) (hr : ∀ g, r = some g → b < g) : Tp w' b :=
  h.of (fun k hk => hg.block k (Nat.lt_of_le_of_lt hk h.lt) (fun e => by have := hr k e.symm; omega)) hg.size
theorem Frm.grown {b : Nat} {a w w' : World} {r : Option Nat} (h : Frm b a w) (hg : w.grownBy w' r) (hr : ∀ g, r = some g → a.heap.size ≤ g) : Frm b a w' :=
  ⟨hg.os.trans h.os, hg.tape.trans h.tape, hg.output.trans h.output, Nat.le_trans h.size hg.size, fun k hk hn => (hg.block k (Nat.lt_of_lt_of_le hk h.size) (fun e => by have := hr k e.symm; omega)).trans (h.block k hk hn)⟩
theorem own_frm {w w' : World} {base b : Nat} {T : TypeId} {sz : Nat} {v : Value} {n : Nat} {xs : List Value} (h : w.ownsRow base T sz v n xs) (hf : Frm b w w') (hb : b < base) : w'.ownsRow base T sz v n xs :=
  own_kept h (fun g hg => hf.block g (own_lt h hg).2 (fun e => by injection e with e; have := (own_lt h hg).1; omega))
theorem own_low {w : World} {base base' : Nat} {T : TypeId} {sz : Nat} {v : Value} {n n' : Nat} {xs : List Value} (h : w.ownsRow base T sz v n xs) (hb : base' ≤ base) (hn : n = n') : w.ownsRow base' T sz v n' xs := by
  subst hn
  obtain ⟨h1, h2⟩ := h
  refine ⟨by omega, ?_⟩
  rcases h2 with h2 | ⟨g, cap, cur, h3, h4, h5⟩
  · exact .inl h2
  · exact .inr ⟨g, cap, cur, h3, Nat.le_trans hb h4, h5⟩
theorem Blk.frm {w w' : World} {b g : Nat} {cs : List Value} (h : Blk w g cs) (hf : Frm b w w') (hg : g ≠ b) : Blk w' g cs := h.of (hf.block g h.lt (fun e => hg (by injection e)))
/-- The catalog's names. -/
def nm6 (i : Nat) : ByteArray := if i = 0 then ⟨#[97]⟩ else if i = 1 then ⟨#[98]⟩ else if i = 2 then ⟨#[99]⟩ else if i = 3 then ⟨#[100]⟩ else if i = 4 then ⟨#[112]⟩ else ⟨#[113]⟩
def CtR (i : Nat) (r : P4) : Prop := r.1 = nm6 i ∧ shp r.2.1 r.2.2.1 = true ∧ 0 ≤ r.2.2.2 ∧ r.2.2.2 < 4
def CtP (l : List P4) : Prop := ∀ i, i < l.length → CtR i (l.getD i default)
theorem CtP.nil : CtP [] := fun i h => by simp at h
theorem CtP.snoc {l : List P4} (h : CtP l) {r : P4} (hr : CtR l.length r) : CtP (l ++ [r]) := fun i hi => by
  rw [List.length_append, List.length_singleton] at hi
  rcases Nat.lt_or_ge i l.length with h1 | h1
  · rw [show (l ++ [r]).getD i default = l.getD i default by simp [List.getD_eq_getElem?_getD, List.getElem?_append_left h1]]
    exact h i h1
  · obtain rfl : i = l.length := by omega
    rw [show (l ++ [r]).getD l.length default = r by simp [List.getD_eq_getElem?_getD]]
    exact hr
theorem Frm.behind {b : Nat} {a w w' : World} (h : Frm b a w) {B : Nat} (hb : Below B w w') (hB : a.heap.size ≤ B) : Frm b a w' :=
  ⟨hb.os.trans h.os, hb.tape.trans h.tape, hb.output.trans h.output, Nat.le_trans h.size hb.size, fun k hk hn => (hb.block k (Nat.lt_of_lt_of_le hk hB)).trans (h.block k hk hn)⟩
set_option maxHeartbeats 8000000 in
set_option maxRecDepth 100000 in
theorem catalog_any (b : Nat) (w : World) (hT : Tp w b) :
    Calls Try.prog 22 #[.pointer (some ⟨b, 0, none⟩)] w fun e w' => (∃ A c l, e = .returned (.slice A 6 c) ∧ l.length = 6 ∧ CtP l ∧ OwnR w' w.heap.size (.slice A 6 c) l) ∧ Tp w' b ∧ Frm b w w' := by
  have hlt := hT.lt
  have HW0 : Hid (Blk (w.alloc (.cells #[.string ⟨#[97]⟩, .string ⟨#[98]⟩, .string ⟨#[99]⟩, .string ⟨#[100]⟩] 9)) w.heap.size [.string ⟨#[97]⟩, .string ⟨#[98]⟩, .string ⟨#[99]⟩, .string ⟨#[100]⟩] ∧ Tp (w.alloc (.cells #[.string ⟨#[97]⟩, .string ⟨#[98]⟩, .string ⟨#[99]⟩, .string ⟨#[100]⟩] 9)) b ∧ Frm b w (w.alloc (.cells #[.string ⟨#[97]⟩, .string ⟨#[98]⟩, .string ⟨#[99]⟩, .string ⟨#[100]⟩] 9))) := ⟨Blk.new w _ _ rfl, hT.up (newB _ _), Frm.up (newB _ _)⟩
  clear hT
  go_enter Try.func22, Try.ntmps22
  go_wp2
  go_loopw [3, 5] (fun a k wr => ∃ (j : Nat) (l : List P4) (A : Option Addr) (c : Nat), j ≤ 4 ∧ k = .int .i64 j ∧ a = .slice A j c ∧ Hid (l.length = j) ∧ Hid (CtP l) ∧ Hid (OwnR wr (w.heap.size + 1) (.slice A j c) l) ∧ Hid (Tp wr b) ∧ Hid (Frm b w wr) ∧ Hid (Blk wr w.heap.size [.string ⟨#[97]⟩, .string ⟨#[98]⟩, .string ⟨#[99]⟩, .string ⟨#[100]⟩])) (fun _ k _ => 4 - (intOf k).toNat)
  case atStart => exact ⟨0, [], none, 0, by omega, rfl, rfl, rfl, CtP.nil, OwnR.nil _ _, HW0.out.2.1, HW0.out.2.2, HW0.out.1⟩
  case round =>
    obtain ⟨j, l, A, c, hj, rfl, rfl, hl, hC, hO, hT, hF, hB⟩ := hrel
    by_cases hj4 : (j : Int) < 4
    · have e5 : IntKind.i64.wrap ((j : Int) + 1) = (j : Int) + 1 := by rw [IntKind.wrap_i64]; omega
      obtain ⟨nm, hnm⟩ : ∃ nm, Hid (nm6 j = nm) := ⟨_, rfl⟩
      have hcn : Hid (([.string ⟨#[97]⟩, .string ⟨#[98]⟩, .string ⟨#[99]⟩, .string ⟨#[100]⟩] : List Value)[j]? = some (.string nm)) := by
        show _ = _
        rw [← hnm.out]
        have hc : j = 0 ∨ j = 1 ∨ j = 2 ∨ j = 3 := by omega
        rcases hc with rfl | rfl | rfl | rfl <;> rfl
      have cn := hB.out.cell j hcn.out
      have hvs : Hid (l.length + 1 ≤ 1000000) := by have := hl.out; show _ ≤ _; omega
      go_upto_region 6 with fail
      go_region_law (first
        | (refine step_app_res rfl (.tmp 13) (.tmp 21) rfl (w.heap.size + 1) (.slice A j c) l _ [(nm, 1, 1, (v : Int))] 1 1 rfl (by simp [Act.eval, Act.put]) (by simp [Act.eval, Act.put]) (own_kept HO8.out (fun g hg => (newB W8 _).block g (own_lt HO8.out hg).2)) (rrd_at _ _ nm 1 1 (v : Int) rfl) hvs (by have := HF8.out.size; simp; omega) ?_; intro V5 w5 ho5 hg5; obtain ⟨A5, c5, hV5, -, -, -⟩ := ho5.form; obtain ⟨k5, hk5⟩ : ∃ k5, Hid ((l ++ [((nm, 1, 1, (v : Int)) : P4)]).length = k5) := ⟨_, rfl⟩; rw [hk5.out] at hV5; subst hV5; have HO5 := Lib.hid ho5; have HG5 := Lib.hid hg5; clear ho5 hg5)
        | (go_simp; go_at_call 40; refine (next_is b 4 _ (hT.out.up (bdD (Below.refl _ _))) (by omega) (by omega)).mono ?_; rintro e W8 ⟨⟨v, hv4, rfl⟩, ht8, hf8⟩; have hf9 : Frm b wr W8 := (Frm.up (bdD (Below.refl _ _))).trans hf8; have HT8 := Lib.hid ht8; have HB8 := Lib.hid (hB.out.frm hf9 (by omega)); have HO8 := Lib.hid (own_frm hO.out hf9 (by omega)); have HF8 := Lib.hid (hF.out.trans hf9); clear cn; have cn := HB8.out.cell j hcn.out; clear ht8 hf8 hf9))
      all_goals (
        go_wp2
        have hj5 : l.length = j := hl.out
        have hk : k5 = j + 1 := by have h := hk5.out; rw [List.length_append, List.length_singleton] at h; omega
        subst hk
        have hsz := HF8.out.size
        have hrow : ∀ g, (Value.slice A j c).ownBlock = some g → w.heap.size + 1 ≤ g := fun g hg => (own_lt HO8.out hg).1
        have hnew := newB W8 (.cells #[.string nm, .int .i64 1, .int .i64 1, .int .i64 (v : Int)] 63)
        refine ⟨⟨j + 1, _, A5, c5, by omega, by go_num, rfl, ?_, ?_, HO5, ?_, ?_, ?_⟩, by simp [intOf]; omega⟩
        · show _ = _; rw [List.length_append, List.length_singleton]; omega
        · refine hC.out.snoc ?_
          refine ⟨?_, by show shp 1 1 = true; rfl, by show (0 : Int) ≤ v; omega, hv4⟩
          show nm = nm6 l.length
          rw [hj5, hnm.out]
        · exact (HT8.out.up hnew).grown HG5.out (fun g hg => by have := hrow g hg; omega)
        · exact (HF8.out.trans (Frm.up hnew)).grown HG5.out (fun g hg => by have := hrow g hg; omega)
        · exact (HB8.out.up hnew HB8.out.lt).of (HG5.out.block _ (by simp; omega) (fun e => by have := hrow _ e.symm; omega)))
    · obtain rfl : j = 4 := by omega
      have HL1 : Hid (l.length + 1 ≤ 3518437208880) := by have := hl.out; show _ ≤ _; omega
      have HL2 : Hid (∀ r : P4, (l ++ [r]).length + 1 ≤ 3518437208880) := Lib.hid (fun r => by have := hl.out; simp; omega)
      have M1 := Lib.hid trivial
      have M2 := Lib.hid trivial
      have M3 := Lib.hid trivial
      have M4 := Lib.hid trivial
      have N1 := Lib.hid trivial
      have N2 := Lib.hid trivial
      go_wp2_with (first
        | (go_at_call 40; clear M1; refine (next_is b 8 _ hT.out (by omega) (by omega)).mono ?_; rintro e W1 ⟨⟨v1, hv1, rfl⟩, ht, hf⟩; have HT1 := Lib.hid ht; have HO1 := Lib.hid (own_frm hO.out hf (by omega)); have HF1 := Lib.hid (hF.out.trans hf); have e1 : IntKind.i64.wrap (1 + (v1 : Int)) = 1 + (v1 : Int) := (by rw [IntKind.wrap_i64]; omega); have HV1 := Lib.hid hv1; clear ht hf hv1)
        | (go_at_call 40; clear M2; refine (next_is b 4 _ HT1.out (by omega) (by omega)).mono ?_; rintro e W2 ⟨⟨v2, hv2, rfl⟩, ht, hf⟩; have HT2 := Lib.hid ht; have HO2 := Lib.hid (own_frm HO1.out hf (by omega)); have HF2 := Lib.hid (HF1.out.trans hf); have e2 : IntKind.i64.wrap (1 + (v2 : Int)) = 1 + (v2 : Int) := (by rw [IntKind.wrap_i64]; omega); have HV2 := Lib.hid hv2; clear ht hf hv2)
        | (at_builtin; clear N1; refine app_res rfl (.tmp 23) (.tmp 30) rfl (w.heap.size + 1) (.slice _ _ _) (l) _ [((⟨#[112]⟩ : ByteArray), 2, 1 + (v1 : Int), (v2 : Int))] 1 1 rfl rfl rfl (own_kept HO2.out (fun g hg => (newB W2 _).block g (own_lt HO2.out hg).2)) (rrd_at _ _ (⟨#[112]⟩ : ByteArray) 2 (1 + (v1 : Int)) (v2 : Int) rfl) HL1 (by have := HF2.out.size; simp; omega) ?_; intro V5 W5 ho hb; obtain ⟨A5, c5, hV, -, -, -⟩ := ho.form; have hl5 : (l ++ [(((⟨#[112]⟩ : ByteArray), 2, 1 + (v1 : Int), (v2 : Int)) : P4)]).length = 5 := (by have := hl.out; simp; omega); rw [hl5] at hV; subst hV; have HO5 := Lib.hid ho; have HT5 := Lib.hid ((HT2.out.up (newB W2 _)).behind hb (by omega)); have HF5 := Lib.hid ((HF2.out.trans (Frm.up (newB W2 _))).behind hb (by omega)); clear ho hb hl5)
        | (go_at_call 40; clear M3; refine (next_is b 3 _ HT5.out (by omega) (by omega)).mono ?_; rintro e W3 ⟨⟨v3, hv3, rfl⟩, ht, hf⟩; have HT3 := Lib.hid ht; have HO3 := Lib.hid (own_frm HO5.out hf (by omega)); have HF3 := Lib.hid (HF5.out.trans hf); have e3 : IntKind.i64.wrap (1 + (v3 : Int)) = 1 + (v3 : Int) := (by rw [IntKind.wrap_i64]; omega); have HV3 := Lib.hid hv3; clear ht hf hv3)
        | (go_at_call 40; clear M4; refine (next_is b 4 _ HT3.out (by omega) (by omega)).mono ?_; rintro e W4 ⟨⟨v4, hv4, rfl⟩, ht, hf⟩; have HT4 := Lib.hid ht; have HO4 := Lib.hid (own_frm HO3.out hf (by omega)); have HF4 := Lib.hid (HF3.out.trans hf); have e4 : IntKind.i64.wrap (1 + (v4 : Int)) = 1 + (v4 : Int) := (by rw [IntKind.wrap_i64]; omega); have HV4 := Lib.hid hv4; clear ht hf hv4)
        | (at_builtin; clear N2; refine app_res rfl (.tmp 32) (.tmp 39) rfl (w.heap.size + 1) (.slice _ _ _) (l ++ [(((⟨#[112]⟩ : ByteArray), 2, 1 + (v1 : Int), (v2 : Int)) : P4)]) _ [((⟨#[113]⟩ : ByteArray), 2, 1 + (v3 : Int), (v4 : Int))] 1 1 rfl rfl rfl (own_kept HO4.out (fun g hg => (newB W4 _).block g (own_lt HO4.out hg).2)) (rrd_at _ _ (⟨#[113]⟩ : ByteArray) 2 (1 + (v3 : Int)) (v4 : Int) rfl) (HL2.out _) (by have := HF4.out.size; simp; omega) ?_; intro V6 W6 ho hb; obtain ⟨A6, c6, hV, -, -, -⟩ := ho.form; have hl6 : (l ++ [(((⟨#[112]⟩ : ByteArray), 2, 1 + (v1 : Int), (v2 : Int)) : P4)] ++ [(((⟨#[113]⟩ : ByteArray), 2, 1 + (v3 : Int), (v4 : Int)) : P4)]).length = 6 := (by have := hl.out; simp; omega); rw [hl6] at hV; subst hV; have HO6 := Lib.hid ho; have HT6 := Lib.hid ((HT4.out.up (newB W4 _)).behind hb (by omega)); have HF6 := Lib.hid ((HF4.out.trans (Frm.up (newB W4 _))).behind hb (by omega)); clear ho hb hl6))
      go_ret
      have e4 : l.length = 4 := hl.out
      refine ⟨⟨A6, c6, _, rfl, ?_, ?_, own_low HO6.out (Nat.le_succ _) ?_⟩, HT6.out, HF6.out⟩
      · simp; omega
      · have h1 := HV1.out
        have h3 := HV3.out
        refine (hC.out.snoc ?_).snoc ?_
        · exact ⟨by rw [e4]; rfl, by show shp 2 (1 + (v1 : Int)) = true; unfold shp; simp; omega, by show (0 : Int) ≤ v2; omega, HV2.out⟩
        · exact ⟨by rw [List.length_append, e4]; rfl, by show shp 2 (1 + (v3 : Int)) = true; unfold shp; simp; omega, by show (0 : Int) ≤ v4; omega, HV4.out⟩
      · simp [e4]
end Go.Proofs.Ytecipjjnbikheaa
