/- Waiting lines in plain words: lists of claims with priorities. Nothing here speaks of a program. -/
import Derived.Test.YtfcekfdoafpmoaaHd
namespace Go.Proofs.Ytfcekfdoafpmoaa
open Go.RowKit
set_option linter.unusedVariables false

/-- A waiting claim: process, amount, priority, how often it was passed. -/
abbrev Wt := Pr3 × P2 × Int × Int
def usJ (m u : Int) : Bool := decide ((1 ≤ m ∧ m ≤ 5 ∧ u = 0) ∨ (m = 0 ∧ 1 ≤ u ∧ u ≤ 8))
def vW (x : Wt) : Bool := vpP x.1 && usJ x.2.1.1 x.2.1.2 && decide (0 ≤ x.2.2.1 ∧ x.2.2.1 ≤ 7 ∧ 0 ≤ x.2.2.2 ∧ x.2.2.2 ≤ 3)
theorem vW_num {x : Wt} (h : vW x = true) : 0 ≤ x.2.2.1 ∧ x.2.2.1 ≤ 7 ∧ 0 ≤ x.2.2.2 ∧ x.2.2.2 ≤ 3 := by
  unfold vW at h
  simp only [Bool.and_eq_true, decide_eq_true_eq] at h
  exact h.2
/-- Where the first claim of a process stands; the length if there is none. -/
def ndxW : List Wt → Pr3 → Nat
  | [], _ => 0
  | x :: r, p => if x.1 = p then 0 else ndxW r p + 1
def findW (l : List Wt) (p : Pr3) : Int := if ndxW l p < l.length then (ndxW l p : Int) else -1
abbrev ApW (l : List Wt) : Prop := l.Pairwise fun a b => a.1 ≠ b.1
/-- Valid lines. -/
def VL (l : List Wt) : Prop := l.length ≤ 8 ∧ (∀ x ∈ l, vW x = true) ∧ ApW l
instance (l : List Wt) : Decidable (VL l) := by unfold VL; infer_instance
def delW (l : List Wt) (p : Pr3) : List Wt := l.filter fun x => !decide (x.1 = p)
def bump (x : Wt) : Wt := (x.1, x.2.1, x.2.2.1, x.2.2.2 + 1)
/-- Whether a new claim moves past x. -/
def ovr (x w : Wt) : Bool := decide (x.2.2.1 < w.2.2.1 ∧ x.2.2.2 < 3)
/-- How far a new claim moves forward from place n. -/
def back (l : List Wt) (w : Wt) : Nat → Nat
  | 0 => 0
  | n + 1 => if ovr (l.getD n default) w = true then back l w n else n + 1
def posW (l : List Wt) (w : Wt) : Nat := back l w l.length
def putW (l : List Wt) (w : Wt) (k : Nat) : List Wt := l.take k ++ w :: (l.drop k).map bump
def insW (l : List Wt) (w : Wt) : List Wt := putW l w (posW l w)
def ahdW (l : List Wt) (p : Pr3) : List Pr3 := (l.take (findW l p).toNat).map fun x => x.1
/-- What Insert refuses: the error's number. -/
def inC (l : List Wt) (w : Wt) : Int := if ¬ VL l then 2 else if vW w = false ∨ w.2.2.2 ≠ 0 then 1 else if 0 ≤ findW l w.1 then 11 else if l.length = 8 then 4 else 0
/-! ### Finding -/
theorem ndxW_none : ∀ {l : List Wt} {p : Pr3}, (∀ x ∈ l, x.1 ≠ p) → ndxW l p = l.length
  | [], _, _ => rfl
  | x :: r, p, h => by rw [ndxW, if_neg (h x (by simp)), ndxW_none (fun y hy => h y (by simp [hy])), List.length_cons]
theorem ndxW_lt : ∀ {l : List Wt} {p : Pr3}, (∃ x ∈ l, x.1 = p) → ndxW l p < l.length
  | [], _, h => by obtain ⟨x, hx, _⟩ := h; cases hx
  | x :: r, p, h => by
    rw [ndxW]
    by_cases hx : x.1 = p
    · rw [if_pos hx]; simp
    · rw [if_neg hx, List.length_cons]
      obtain ⟨y, hy, he⟩ := h
      rcases List.mem_cons.1 hy with rfl | hy
      · exact absurd he hx
      · have := ndxW_lt ⟨y, hy, he⟩
        omega
theorem ndxW_append_none : ∀ {l r : List Wt} {p : Pr3}, (∀ x ∈ l, x.1 ≠ p) → ndxW (l ++ r) p = l.length + ndxW r p
  | [], r, p, _ => by simp
  | x :: l, r, p, h => by
    rw [List.cons_append, ndxW, if_neg (h x (by simp)), ndxW_append_none (fun y hy => h y (by simp [hy])), List.length_cons]; omega
theorem ndxW_append_some : ∀ {l r : List Wt} {p : Pr3}, (∃ x ∈ l, x.1 = p) → ndxW (l ++ r) p = ndxW l p
  | [], r, p, h => by obtain ⟨x, hx, _⟩ := h; cases hx
  | x :: l, r, p, h => by
    rw [List.cons_append, ndxW, ndxW]
    by_cases hx : x.1 = p
    · rw [if_pos hx, if_pos hx]
    · obtain ⟨y, hy, he⟩ := h
      rcases List.mem_cons.1 hy with rfl | hy
      · exact absurd he hx
      · rw [if_neg hx, if_neg hx, ndxW_append_some ⟨y, hy, he⟩]
theorem findW_at {l : List Wt} {p : Pr3} {k : Nat} (hk : k < l.length) (hno : ∀ j, j < k → ¬ (l.getD j default).1 = p) (he : (l.getD k default).1 = p) : findW l p = (k : Int) := by
  have h1 : l = l.take k ++ l.drop k := (List.take_append_drop k l).symm
  have h2 : ndxW l p = k := by
    rw [h1, ndxW_append_none, List.length_take, List.drop_eq_getElem_cons hk, ndxW, if_pos]
    · omega
    · rw [List.getD_eq_getElem?_getD, List.getElem?_eq_getElem hk] at he
      exact he
    · intro x hx
      obtain ⟨j, hj, rfl⟩ := List.getElem_of_mem hx
      rw [List.length_take] at hj
      have h3 := hno j (by omega)
      rw [List.getD_eq_getElem?_getD, List.getElem?_eq_getElem (by omega)] at h3
      rw [List.getElem_take]
      exact h3
  unfold findW
  rw [h2, if_pos hk]
theorem findW_no {l : List Wt} {p : Pr3} (hno : ∀ j, j < l.length → ¬ (l.getD j default).1 = p) : findW l p = -1 := by
  unfold findW
  rw [ndxW_none, if_neg (by omega)]
  intro x hx e
  obtain ⟨j, hj, rfl⟩ := List.getElem_of_mem hx
  refine hno j hj ?_
  rw [List.getD_eq_getElem?_getD, List.getElem?_eq_getElem hj]
  exact e
theorem findW_none {l : List Wt} {p : Pr3} (h : ∀ x ∈ l, x.1 ≠ p) : findW l p = -1 := by
  unfold findW
  rw [ndxW_none h, if_neg (by omega)]
theorem findW_some {l : List Wt} {p : Pr3} (h : ∃ x ∈ l, x.1 = p) : findW l p = (ndxW l p : Int) := by
  unfold findW
  rw [if_pos (ndxW_lt h)]
theorem findW_neg {l : List Wt} {p : Pr3} : findW l p < 0 ↔ ∀ x ∈ l, x.1 ≠ p := by
  constructor
  · intro h x hx e
    rw [findW_some ⟨x, hx, e⟩] at h
    omega
  · intro h
    rw [findW_none h]
    omega
theorem findW_ge (l : List Wt) (p : Pr3) : -1 ≤ findW l p ∧ findW l p < l.length := by
  unfold findW
  split
  · constructor <;> omega
  · constructor <;> omega
theorem delW_snoc (l : List Wt) (p : Pr3) {k : Nat} (hk : k < l.length) : delW (l.take (k + 1)) p = delW (l.take k) p ++ (if (l.getD k default).1 = p then [] else [l.getD k default]) := by
  have h : l.take (k + 1) = l.take k ++ [l.getD k default] := by
    rw [List.take_succ_eq_append_getElem hk, List.getD_eq_getElem?_getD, List.getElem?_eq_getElem hk]; rfl
  unfold delW
  rw [h, List.filter_append]
  congr 1
  by_cases he : (l.getD k default).1 = p
  · rw [if_pos he, List.filter_cons_of_neg (by simp only [he, decide_true, Bool.not_true]; decide)]; rfl
  · rw [if_neg he, List.filter_cons_of_pos (by simp only [he, decide_false, Bool.not_false])]; rfl
theorem delW_len (l : List Wt) (p : Pr3) : (delW l p).length ≤ l.length := List.length_filter_le _ _
/-! ### Inserting -/
theorem back_le (l : List Wt) (w : Wt) : ∀ n, back l w n ≤ n
  | 0 => Nat.le_refl _
  | n + 1 => by
    rw [back]
    split
    · have := back_le l w n; omega
    · omega
theorem posW_le (l : List Wt) (w : Wt) : posW l w ≤ l.length := back_le l w _
theorem back_over (l : List Wt) (w : Wt) : ∀ n i, back l w n ≤ i → i < n → ovr (l.getD i default) w = true
  | 0, i, _, h => by omega
  | n + 1, i, h, hi => by
    rw [back] at h
    split at h
    · rename_i ho
      by_cases hin : i = n
      · subst hin; exact ho
      · exact back_over l w n i h (by omega)
    · omega
theorem posW_over {l : List Wt} {w : Wt} {i : Nat} (h : posW l w ≤ i) (hi : i < l.length) : ovr (l.getD i default) w = true := back_over l w _ i h hi
theorem drop_over {l : List Wt} {w x : Wt} (h : x ∈ l.drop (posW l w)) : ovr x w = true := by
  obtain ⟨i, hi, rfl⟩ := List.getElem_of_mem h
  rw [List.length_drop] at hi
  have h1 := posW_over (l := l) (w := w) (i := posW l w + i) (by omega) (by omega)
  rw [List.getElem_drop]
  rw [List.getD_eq_getElem?_getD, List.getElem?_eq_getElem (by omega)] at h1
  exact h1
theorem putW_len {l : List Wt} {w : Wt} {k : Nat} (hk : k ≤ l.length) : (putW l w k).length = l.length + 1 := by
  unfold putW
  simp only [List.length_append, List.length_take, List.length_cons, List.length_map, List.length_drop]
  omega
theorem putW_mem {l : List Wt} {w y : Wt} {k : Nat} : y ∈ putW l w k ↔ y ∈ l.take k ∨ y = w ∨ ∃ x ∈ l.drop k, y = bump x := by
  unfold putW
  simp only [List.mem_append, List.mem_cons, List.mem_map]
  constructor
  · rintro (h | h | ⟨x, hx, rfl⟩)
    · exact .inl h
    · exact .inr (.inl h)
    · exact .inr (.inr ⟨x, hx, rfl⟩)
  · rintro (h | h | ⟨x, hx, rfl⟩)
    · exact .inl h
    · exact .inr (.inl h)
    · exact .inr (.inr ⟨x, hx, rfl⟩)
theorem ApW.put {l : List Wt} {w : Wt} {k : Nat} (h : ApW l) (hn : ∀ x ∈ l, x.1 ≠ w.1) : ApW (putW l w k) := by
  have h1 : ApW (l.take k ++ l.drop k) := by rw [List.take_append_drop]; exact h
  rw [ApW, List.pairwise_append] at h1
  unfold putW
  rw [ApW, List.pairwise_append, List.pairwise_cons, List.pairwise_map]
  refine ⟨h1.1, ⟨fun y hy => ?_, h1.2.1⟩, fun a ha b hb => ?_⟩
  · obtain ⟨x, hx, rfl⟩ := List.mem_map.1 hy
    exact fun e => hn x (List.mem_of_mem_drop hx) e.symm
  · rcases List.mem_cons.1 hb with rfl | hb
    · exact hn a (List.mem_of_mem_take ha)
    · obtain ⟨x, hx, rfl⟩ := List.mem_map.1 hb
      exact h1.2.2 a ha x hx
theorem vW_bump {x w : Wt} (h : vW x = true) (ho : ovr x w = true) : vW (bump x) = true := by
  have h1 := vW_num h
  have h2 := of_decide_eq_true ho
  unfold vW at *
  simp only [Bool.and_eq_true, decide_eq_true_eq] at *
  refine ⟨h.1, ?_⟩
  simp only [bump]
  omega
theorem VL.ins {l : List Wt} {w : Wt} (h : VL l) (hw : vW w = true) (hn : ∀ x ∈ l, x.1 ≠ w.1) (h8 : l.length < 8) : VL (insW l w) := by
  refine ⟨by unfold insW; rw [putW_len (posW_le _ _)]; omega, fun y hy => ?_, h.2.2.put hn⟩
  rcases putW_mem.1 hy with hy | rfl | ⟨x, hx, rfl⟩
  · exact h.2.1 y (List.mem_of_mem_take hy)
  · exact hw
  · exact vW_bump (h.2.1 x (List.mem_of_mem_drop hx)) (drop_over hx)
theorem VL.del {l : List Wt} (h : VL l) (p : Pr3) : VL (delW l p) :=
  ⟨Nat.le_trans (List.length_filter_le _ _) h.1, fun x hx => h.2.1 x (List.mem_filter.1 hx).1, List.Pairwise.filter _ h.2.2⟩
theorem delW_mem {l : List Wt} {p : Pr3} {x : Wt} : x ∈ delW l p ↔ x ∈ l ∧ x.1 ≠ p := by simp [delW]
theorem delW_none {l : List Wt} {p : Pr3} (h : ∀ x ∈ l, x.1 ≠ p) : delW l p = l := by
  unfold delW
  rw [List.filter_eq_self]
  intro x hx
  simp [h x hx]
theorem delW_put {l : List Wt} {w : Wt} {k : Nat} (hn : ∀ x ∈ l, x.1 ≠ w.1) : delW (putW l w k) w.1 = l.take k ++ (l.drop k).map bump := by
  have h1 : delW (l.take k) w.1 = l.take k := delW_none fun x hx => hn x (List.mem_of_mem_take hx)
  have h2 : delW ((l.drop k).map bump) w.1 = (l.drop k).map bump := delW_none fun y hy => by
    obtain ⟨x, hx, rfl⟩ := List.mem_map.1 hy
    exact hn x (List.mem_of_mem_drop hx)
  unfold putW
  unfold delW at *
  rw [List.filter_append, h1, List.filter_cons, if_neg (by simp), h2]
theorem findW_put {l : List Wt} {w : Wt} {k : Nat} (hk : k ≤ l.length) (hn : ∀ x ∈ l, x.1 ≠ w.1) : findW (putW l w k) w.1 = (k : Int) := by
  have h1 : ndxW (putW l w k) w.1 = k := by
    unfold putW
    rw [ndxW_append_none (fun x hx => hn x (List.mem_of_mem_take hx)), ndxW, if_pos rfl, List.length_take]
    omega
  unfold findW
  rw [h1, putW_len hk, if_pos (by omega)]
/-- A claim that stands ahead of the new one keeps its place. -/
theorem findW_front {l : List Wt} {w : Wt} {k : Nat} {p : Pr3} (hp : ∃ x ∈ l.take k, x.1 = p) : findW (putW l w k) p < (k : Int) := by
  have h1 : ndxW (putW l w k) p = ndxW (l.take k) p := ndxW_append_some hp
  have h2 := ndxW_lt hp
  rw [List.length_take] at h2
  rw [findW_some]
  · omega
  · obtain ⟨x, hx, e⟩ := hp
    exact ⟨x, putW_mem.2 (.inl hx), e⟩
/-- A claim that was passed stands behind it. -/
theorem findW_behind {l : List Wt} {w : Wt} {k : Nat} {p : Pr3} (hk : k ≤ l.length) (hw : w.1 ≠ p) (h1 : ∀ x ∈ l.take k, x.1 ≠ p) (hp : ∃ x ∈ l.drop k, x.1 = p) : (k : Int) < findW (putW l w k) p := by
  rw [findW_some]
  · have : ndxW (putW l w k) p = k + (ndxW ((l.drop k).map bump) p + 1) := by
      unfold putW
      rw [ndxW_append_none h1, ndxW, if_neg hw, List.length_take]
      omega
    omega
  · obtain ⟨x, hx, e⟩ := hp
    exact ⟨bump x, putW_mem.2 (.inr (.inr ⟨x, hx, rfl⟩)), e⟩
end Go.Proofs.Ytfcekfdoafpmoaa
