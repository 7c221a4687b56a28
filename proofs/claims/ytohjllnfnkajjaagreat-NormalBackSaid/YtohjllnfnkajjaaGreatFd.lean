/- Truth of an expression, in plain words. Nothing here speaks of a program. -/
import Derived.Test.YtohjllnfnkajjaaGreatRpp
namespace Go.Proofs.YtohjllnfnkajjaaGreat
open Go.RowKit
set_option linter.unusedVariables false

/-- Is the atom in the set, by its first place on the list? -/
def inS : List A3 → List Bool → A3 → Bool
  | [], _, _ => false
  | b :: r, s, a => if b = a then s.getD 0 false else inS r s.tail a
mutual
def Ex.hld (L : List A3) (S : List Bool) : Ex → Bool
  | .nd k a l => if k = 0 then inS L S a else decide (k ≤ (hldL L S l : Int))
def hldL (L : List A3) (S : List Bool) : List Ex → Nat
  | [] => 0
  | e :: r => (if e.hld L S = true then 1 else 0) + hldL L S r
end
theorem hldL_append (L : List A3) (S : List Bool) : ∀ x y : List Ex, hldL L S (x ++ y) = hldL L S x + hldL L S y
  | [], y => by simp [hldL]
  | e :: x, y => by rw [List.cons_append, hldL, hldL, hldL_append L S x y]; omega
theorem hldL_take {L : List A3} {S : List Bool} {l : List Ex} {k : Nat} (h : k < l.length) : hldL L S (l.take (k + 1)) = hldL L S (l.take k) + (if (l.getD k default).hld L S = true then 1 else 0) := by
  rw [take_snocX h, hldL_append, hldL, hldL]; omega
theorem hldL_le (L : List A3) (S : List Bool) : ∀ l : List Ex, hldL L S l ≤ l.length
  | [] => by simp [hldL]
  | e :: r => by
    rw [hldL, List.length_cons]
    have := hldL_le L S r
    split <;> omega
theorem tail_getD (S : List Bool) (i : Nat) : S.tail.getD i false = S.getD (i + 1) false := by
  cases S with
  | nil => rfl
  | cons a r => simp [List.getD_eq_getElem?_getD]
theorem inS_drop {L : List A3} {S : List Bool} {a : A3} {j : Nat} (h : j < L.length) : inS (L.drop j) (S.drop j) a = if L.getD j default = a then S.getD j false else inS (L.drop (j + 1)) (S.drop (j + 1)) a := by
  have e0 : L.getD j default = L[j] := by rw [List.getD_eq_getElem?_getD, List.getElem?_eq_getElem h]; rfl
  rw [List.drop_eq_getElem_cons h, inS, e0]
  have e1 : (S.drop j).getD 0 false = S.getD j false := by simp [List.getD_eq_getElem?_getD, List.getElem?_drop]
  have e2 : (S.drop j).tail = S.drop (j + 1) := by simp [List.tail_drop]
  rw [e1, e2]
/-- The first set lies within the second. -/
def SubS (S T : List Bool) : Prop := ∀ i, S.getD i false = true → T.getD i false = true
theorem inS_mono : ∀ (L : List A3) (S T : List Bool) (a : A3), SubS S T → inS L S a = true → inS L T a = true
  | [], S, T, a, h, h1 => by rw [inS] at h1; cases h1
  | b :: r, S, T, a, h, h1 => by
    rw [inS] at h1 ⊢
    by_cases hb : b = a
    · rw [if_pos hb] at h1 ⊢; exact h 0 h1
    · rw [if_neg hb] at h1 ⊢; exact inS_mono r S.tail T.tail a (fun i hi => by rw [tail_getD] at hi ⊢; exact h _ hi) h1
theorem hldL_mono {L : List A3} {S T : List Bool} : ∀ {l : List Ex}, (∀ e ∈ l, e.hld L S = true → e.hld L T = true) → hldL L S l ≤ hldL L T l
  | [], _ => by simp [hldL]
  | e :: r, h => by
    rw [hldL, hldL]
    have h1 := hldL_mono (l := r) (fun f hf => h f (by simp [hf]))
    have h2 := h e (by simp)
    by_cases hs : e.hld L S = true
    · rw [if_pos hs, if_pos (h2 hs)]; omega
    · rw [if_neg hs]; omega
/-- More atoms never make an expression false. -/
theorem hld_mono {L : List A3} {S T : List Bool} (hst : SubS S T) : ∀ e : Ex, e.hld L S = true → e.hld L T = true := by
  refine Ex.ind fun k a l ih => ?_
  intro h
  rw [Ex.hld] at h ⊢
  by_cases hk : k = 0
  · rw [if_pos hk] at h ⊢; exact inS_mono L S T a hst h
  · rw [if_neg hk] at h ⊢
    have h1 := hldL_mono (L := L) (S := S) (T := T) ih
    have h2 := of_decide_eq_true h
    exact decide_eq_true (by omega)
theorem inS_congr : ∀ (L : List A3) (S T : List Bool) (a : A3), (∀ i, i < L.length → S.getD i false = T.getD i false) → inS L S a = inS L T a
  | [], S, T, a, h => rfl
  | b :: r, S, T, a, h => by
    rw [inS, inS, h 0 (by simp), inS_congr r S.tail T.tail a (fun i hi => by rw [tail_getD, tail_getD]; exact h _ (by simp; omega))]
theorem hldL_congr {L : List A3} {S T : List Bool} : ∀ {l : List Ex}, (∀ e ∈ l, e.hld L S = e.hld L T) → hldL L S l = hldL L T l
  | [], _ => by simp [hldL]
  | e :: r, h => by rw [hldL, hldL, h e (by simp), hldL_congr (l := r) (fun f hf => h f (by simp [hf]))]
/-- What lies behind the last atom does not matter. -/
theorem hld_congr {L : List A3} {S T : List Bool} (h : ∀ i, i < L.length → S.getD i false = T.getD i false) : ∀ e : Ex, e.hld L S = e.hld L T := by
  refine Ex.ind fun k a l ih => ?_
  rw [Ex.hld, Ex.hld, inS_congr L S T a h, hldL_congr ih]
theorem inS_all : ∀ (L : List A3) (S : List Bool) (a : A3), a ∈ L → (∀ i, i < L.length → S.getD i false = true) → inS L S a = true
  | [], S, a, h, _ => by cases h
  | b :: r, S, a, h, hs => by
    rw [inS]
    split
    · exact hs 0 (by simp)
    · rename_i hne
      refine inS_all r S.tail a ?_ (fun i hi => by rw [tail_getD]; exact hs _ (by simp; omega))
      rcases List.mem_cons.1 h with e | e
      · exact absurd e.symm hne
      · exact e
theorem inS_none : ∀ (L : List A3) (S : List Bool) (a : A3), (∀ i, S.getD i false = false) → inS L S a = false
  | [], S, a, _ => rfl
  | b :: r, S, a, hs => by
    rw [inS]
    split
    · exact hs 0
    · exact inS_none r S.tail a (fun i => by rw [tail_getD]; exact hs _)
/-! ### The atoms of a valid expression -/
theorem incl_mem {l : List A3} {a : A3} (h : (incl l a).2 = 0) : (∀ b ∈ l, b ∈ (incl l a).1) ∧ a ∈ (incl l a).1 := by
  unfold incl at h ⊢
  rcases scan_cases l a with ⟨g1, g2⟩ | ⟨g1, b, g2, g3, g4⟩ | ⟨g1, g2⟩
  · rw [g1]; exact ⟨fun b hb => hb, g2⟩
  · rw [g1] at h; cases h
  · rw [g1] at h ⊢
    by_cases h8 : l.length = 8
    · rw [if_pos h8] at h; cases h
    · simp only [if_neg h8]
      exact ⟨fun b hb => by simp [hb], by simp⟩
/-- Each node is a group or an atom, and each atom is on the list. -/
theorem vld_mem : ∀ {x : List Ex} {l m : List A3}, vld x l = some m → (∀ a ∈ l, a ∈ m) ∧ ∀ f ∈ x, grp f = true ∨ (atm f = true ∧ f.a ∈ m)
  | [], l, m, h => by
    simp only [vld, Option.some.injEq] at h
    subst h
    exact ⟨fun a ha => ha, fun f hf => by cases hf⟩
  | e :: x, l, m, h => by
    rw [vld] at h
    split at h
    · rename_i hg
      obtain ⟨h1, h2⟩ := vld_mem h
      exact ⟨h1, fun f hf => by
        rcases List.mem_cons.1 hf with rfl | hf
        · exact .inl hg
        · exact h2 f hf⟩
    · split at h
      · rename_i ha
        split at h
        · rename_i h0
          obtain ⟨h1, h2⟩ := vld_mem h
          obtain ⟨g1, g2⟩ := incl_mem h0
          exact ⟨fun b hb => h1 b (g1 b hb), fun f hf => by
            rcases List.mem_cons.1 hf with rfl | hf
            · exact .inr ⟨ha, h1 _ g2⟩
            · exact h2 f hf⟩
        · cases h
      · cases h
def GoodE (L : List A3) (e : Ex) : Prop := ∀ f ∈ e.pre, grp f = true ∨ (atm f = true ∧ f.a ∈ L)
theorem GoodE.kid {L : List A3} {k : Int} {a : A3} {l : List Ex} (h : GoodE L (.nd k a l)) {e : Ex} (he : e ∈ l) : GoodE L e := fun f hf => h f (by
  rw [Ex.pre]
  refine List.mem_cons.2 (.inr ?_)
  have : ∀ {m : List Ex}, e ∈ m → f ∈ preL m := by
    intro m
    induction m with
    | nil => intro h; cases h
    | cons g r ih =>
      intro h
      rw [preL, List.mem_append]
      rcases List.mem_cons.1 h with rfl | h
      · exact .inl hf
      · exact .inr (ih h)
  exact this he)
theorem vld_good {e : Ex} {L : List A3} (h : vld e.pre [] = some L) : GoodE L e := (vld_mem h).2
theorem GoodE.self {L : List A3} {k : Int} {a : A3} {l : List Ex} (h : GoodE L (.nd k a l)) : grp (.nd k a l) = true ∨ (atm (.nd k a l) = true ∧ a ∈ L) := h _ (by rw [Ex.pre]; simp)
theorem hldL_all {L : List A3} {S : List Bool} : ∀ {l : List Ex}, (∀ e ∈ l, e.hld L S = true) → hldL L S l = l.length
  | [], _ => by simp [hldL]
  | e :: r, h => by rw [hldL, if_pos (h e (by simp)), hldL_all (l := r) (fun f hf => h f (by simp [hf])), List.length_cons]; omega
theorem hldL_none {L : List A3} {S : List Bool} : ∀ {l : List Ex}, (∀ e ∈ l, e.hld L S = false) → hldL L S l = 0
  | [], _ => by simp [hldL]
  | e :: r, h => by rw [hldL, h e (by simp), hldL_none (l := r) (fun f hf => h f (by simp [hf]))]; rfl
/-- All atoms make a valid expression true. -/
theorem hld_all {L : List A3} {S : List Bool} (hs : ∀ i, i < L.length → S.getD i false = true) : ∀ e : Ex, GoodE L e → e.hld L S = true := by
  refine Ex.ind fun k a l ih => ?_
  intro h
  rw [Ex.hld]
  rcases h.self with hg | ⟨ha, hm⟩
  · obtain ⟨_, h1, h2⟩ := grp_is hg
    have h1' : 1 ≤ k := h1
    have h2' : k ≤ (l.length : Int) := h2
    rw [if_neg (by omega), hldL_all (fun e he => ih e he (h.kid he))]
    exact decide_eq_true h2'
  · obtain ⟨h0, _⟩ := atm_is ha
    have h0' : k = 0 := h0
    rw [if_pos h0']
    exact inS_all L S a hm hs
/-- No atom at all makes it false. -/
theorem hld_none {L : List A3} {S : List Bool} (hs : ∀ i, S.getD i false = false) : ∀ e : Ex, GoodE L e → e.hld L S = false := by
  refine Ex.ind fun k a l ih => ?_
  intro h
  rw [Ex.hld]
  rcases h.self with hg | ⟨ha, hm⟩
  · obtain ⟨_, h1, h2⟩ := grp_is hg
    have h1' : 1 ≤ k := h1
    rw [if_neg (by omega), hldL_none (fun e he => ih e he (h.kid he))]
    exact decide_eq_false (by omega)
  · obtain ⟨h0, _⟩ := atm_is ha
    have h0' : k = 0 := h0
    rw [if_pos h0']
    exact inS_none L S a hs
/-! ### Prune -/
def cutS (n : Nat) (S : List Bool) : List Bool := (List.range n).map fun i => S.getD i false
theorem map_getD (n : Nat) (f : Nat → Bool) (i : Nat) : ((List.range n).map f).getD i false = (decide (i < n) && f i) := by
  rw [List.getD_eq_getElem?_getD, List.getElem?_map]
  by_cases h : i < n
  · rw [List.getElem?_range h]; simp [h]
  · rw [List.getElem?_eq_none (by simp; omega)]; simp [h]
def stepP (e : Ex) (L : List A3) (i : Nat) (o : List Bool) : List Bool := if o.getD i false = true then (if e.hld L (o.set i false) = true then o.set i false else o) else o
def prnG (e : Ex) (L : List A3) : Nat → List Bool → List Bool
  | 0, o => o
  | k + 1, o => prnG e L k (stepP e L k o)
def prn (e : Ex) (L : List A3) (S : List Bool) : List Bool := if e.hld L S = true then prnG e L L.length (cutS L.length S) else List.replicate L.length false
theorem set_getD (o : List Bool) (i j : Nat) : (o.set i false).getD j false = if i = j then false else o.getD j false := by
  rw [List.getD_eq_getElem?_getD, List.getElem?_set]
  by_cases h : i = j
  · rw [if_pos h, if_pos h]
    split <;> rfl
  · rw [if_neg h, if_neg h, List.getD_eq_getElem?_getD]
theorem stepP_len (e : Ex) (L : List A3) (i : Nat) (o : List Bool) : (stepP e L i o).length = o.length := by
  unfold stepP
  repeat (first | rfl | split | simp)
theorem prnG_len (e : Ex) (L : List A3) : ∀ (k : Nat) (o : List Bool), (prnG e L k o).length = o.length
  | 0, o => rfl
  | k + 1, o => by rw [prnG, prnG_len e L k, stepP_len]
theorem stepP_sub (e : Ex) (L : List A3) (i : Nat) (o : List Bool) : SubS (stepP e L i o) o := by
  intro j h
  unfold stepP at h
  split at h
  · split at h
    · rw [set_getD] at h
      split at h
      · cases h
      · exact h
    · exact h
  · exact h
theorem prnG_sub (e : Ex) (L : List A3) : ∀ (k : Nat) (o : List Bool), SubS (prnG e L k o) o
  | 0, o => fun i h => h
  | k + 1, o => fun i h => by
    rw [prnG] at h
    exact stepP_sub e L k o i (prnG_sub e L k _ i h)
theorem stepP_hi (e : Ex) (L : List A3) (i : Nat) (o : List Bool) {j : Nat} (h : j ≠ i) : (stepP e L i o).getD j false = o.getD j false := by
  unfold stepP
  split
  · split
    · rw [set_getD, if_neg (Ne.symm h)]
    · rfl
  · rfl
theorem prnG_hi (e : Ex) (L : List A3) : ∀ (k : Nat) (o : List Bool) (j : Nat), k ≤ j → (prnG e L k o).getD j false = o.getD j false
  | 0, o, j, _ => rfl
  | k + 1, o, j, h => by rw [prnG, prnG_hi e L k _ j (by omega), stepP_hi e L k o (by omega)]
theorem stepP_hld {e : Ex} {L : List A3} {o : List Bool} (i : Nat) (h : e.hld L o = true) : e.hld L (stepP e L i o) = true := by
  unfold stepP
  split
  · split
    · assumption
    · exact h
  · exact h
theorem prnG_hld {e : Ex} {L : List A3} : ∀ (k : Nat) (o : List Bool), e.hld L o = true → e.hld L (prnG e L k o) = true
  | 0, o, h => h
  | k + 1, o, h => by rw [prnG]; exact prnG_hld k _ (stepP_hld k h)
/-- What is left is minimal. -/
theorem prnG_min {e : Ex} {L : List A3} : ∀ (k : Nat) (o : List Bool) (i : Nat), i < k → (prnG e L k o).getD i false = true → e.hld L ((prnG e L k o).set i false) = false
  | 0, o, i, h, _ => by omega
  | k + 1, o, i, h, hi => by
    rw [prnG] at hi ⊢
    by_cases hk : i = k
    · subst hk
      have h1 := hi
      rw [prnG_hi e L i _ i (Nat.le_refl _)] at h1
      have h2 : o.getD i false = true := stepP_sub e L i o i h1
      have h3 : ¬ e.hld L (o.set i false) = true := by
        intro h4
        unfold stepP at h1
        rw [if_pos h2, if_pos h4, set_getD, if_pos rfl] at h1
        cases h1
      cases hx : e.hld L ((prnG e L i (stepP e L i o)).set i false) with
      | false => rfl
      | true =>
        refine absurd (hld_mono (fun j hj => ?_) e hx) h3
        rw [set_getD] at hj ⊢
        split at hj
        · cases hj
        · rename_i hne
          rw [if_neg hne]
          exact stepP_sub e L i o j (prnG_sub e L i _ j hj)
    · exact prnG_min k _ i (by omega) hi
theorem cutS_hld (e : Ex) (L : List A3) (S : List Bool) : e.hld L (cutS L.length S) = e.hld L S :=
  hld_congr (fun i hi => by unfold cutS; rw [map_getD, decide_eq_true hi, Bool.true_and]) e
theorem prn_len (e : Ex) (L : List A3) (S : List Bool) : (prn e L S).length = L.length := by
  unfold prn
  split
  · rw [prnG_len]; simp [cutS]
  · simp
/-! ### Class, Hopeless -/
def oneS (n i : Nat) : List Bool := (List.range n).map fun k => decide (k = i)
def restS (n i : Nat) : List Bool := (List.range n).map fun k => !decide (k = i)
def deadS (n : Nat) (D : List Bool) : List Bool := (List.range n).map fun i => !D.getD i false
def andB (e : Ex) (L : List A3) (m : Nat) : Bool := (List.range m).all fun i => !e.hld L (restS L.length i)
def orB (e : Ex) (L : List A3) (m : Nat) : Bool := (List.range m).all fun i => e.hld L (oneS L.length i)
def cls (e : Ex) (L : List A3) : Int := if L.length = 1 then 1 else if andB e L L.length = true then 2 else if orB e L L.length = true then 3 else 4
theorem andB_snoc (e : Ex) (L : List A3) (m : Nat) : andB e L (m + 1) = (andB e L m && !e.hld L (restS L.length m)) := by simp [andB, List.range_succ]
theorem orB_snoc (e : Ex) (L : List A3) (m : Nat) : orB e L (m + 1) = (orB e L m && e.hld L (oneS L.length m)) := by simp [orB, List.range_succ]
end Go.Proofs.YtohjllnfnkajjaaGreat
