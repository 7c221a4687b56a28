/- Small plain words on amounts. Nothing here speaks of a program. -/
import Derived.Test.YtfcekfdoafpmoaaMd
namespace Go.Proofs.Ytfcekfdoafpmoaa
open Go.RowKit
set_option linter.unusedVariables false

abbrev P2 := Int × Int
def shp (k u : Int) : Bool := decide ((k = 1 ∧ u = 1) ∨ (k = 2 ∧ 1 ≤ u ∧ u ≤ 8))
def zer (m n : Int) : Bool := decide (m = 0 ∧ n = 0)
def pu (n : Int) : Bool := decide (1 ≤ n ∧ n ≤ 8)
def fit (k u m n : Int) : Bool := decide ((k = 1 ∧ u = 1 ∧ 1 ≤ m ∧ m ≤ 5 ∧ n = 0) ∨ (k = 2 ∧ 1 ≤ u ∧ u ≤ 8 ∧ m = 0 ∧ 1 ≤ n ∧ n ≤ u))
def per (k u m n : Int) : Bool := decide ((k = 1 ∧ u = 1 ∧ 0 ≤ m ∧ m ≤ 5 ∧ n = 0) ∨ (k = 2 ∧ 1 ≤ u ∧ u ≤ 8 ∧ m = 0 ∧ 0 ≤ n ∧ n ≤ u))
def cvr (k u m n p q : Int) : Bool := decide ((k = 1 ∧ u = 1 ∧ 0 ≤ p ∧ p ≤ m ∧ m ≤ 5 ∧ ¬ (m = 3 ∧ p = 2) ∧ n = 0 ∧ q = 0) ∨ (k = 2 ∧ 1 ≤ u ∧ u ≤ 8 ∧ m = 0 ∧ p = 0 ∧ 0 ≤ q ∧ q ≤ n ∧ n ≤ u))
def jm (k u m n p q : Int) : Int := if per k u m n = true ∧ per k u p q = true then (if (m = 2 ∧ p = 3) ∨ (m = 3 ∧ p = 2) then 4 else max m p) else 0
def ju (k u m n p q : Int) : Int := if per k u m n = true ∧ per k u p q = true then max n q else 0

theorem shp_is {k u : Int} (h : shp k u = true) : (k = 1 ∧ u = 1) ∨ (k = 2 ∧ 1 ≤ u ∧ u ≤ 8) := of_decide_eq_true h
theorem per_is {k u m n : Int} (h : per k u m n = true) : (k = 1 ∧ u = 1 ∧ 0 ≤ m ∧ m ≤ 5 ∧ n = 0) ∨ (k = 2 ∧ 1 ≤ u ∧ u ≤ 8 ∧ m = 0 ∧ 0 ≤ n ∧ n ≤ u) := of_decide_eq_true h
theorem per_not {k u m n : Int} (h : per k u m n = false) : ¬ ((k = 1 ∧ u = 1 ∧ 0 ≤ m ∧ m ≤ 5 ∧ n = 0) ∨ (k = 2 ∧ 1 ≤ u ∧ u ≤ 8 ∧ m = 0 ∧ 0 ≤ n ∧ n ≤ u)) := of_decide_eq_false h
theorem cvr_is {k u m n p q : Int} (h : cvr k u m n p q = true) : (k = 1 ∧ u = 1 ∧ 0 ≤ p ∧ p ≤ m ∧ m ≤ 5 ∧ ¬ (m = 3 ∧ p = 2) ∧ n = 0 ∧ q = 0) ∨ (k = 2 ∧ 1 ≤ u ∧ u ≤ 8 ∧ m = 0 ∧ p = 0 ∧ 0 ≤ q ∧ q ≤ n ∧ n ≤ u) := of_decide_eq_true h
theorem per_shp {k u m n : Int} (h : per k u m n = true) : shp k u = true := by
  have := per_is h
  exact decide_eq_true (by omega)

/-! ### Lists of amounts -/
def fr (a b : P2) : Bool := decide (a.1 = 0 ∨ b.1 = 0 ∨ cpt a.1 b.1 = true)
theorem cpt_comm (a b : Int) : cpt a b = cpt b a := by unfold cpt; rw [decide_eq_decide]; omega
theorem fr_comm {a b : P2} (h : fr a b = true) : fr b a = true := by
  unfold fr at *
  rw [decide_eq_true_eq] at *
  rw [cpt_comm]
  exact h.elim (fun h => .inr (.inl h)) (fun h => h.elim .inl (fun h => .inr (.inr h)))
def frs (l : List P2) : Prop := l.Pairwise (fun a b => fr a b = true)
def usum : List P2 → Int
  | [] => 0
  | a :: l => a.2 + usum l
theorem usum_append : ∀ (l r : List P2), usum (l ++ r) = usum l + usum r
  | [], r => by simp [usum]
  | a :: l, r => by rw [List.cons_append, usum, usum, usum_append l r]; omega
def pers (k u : Int) (l : List P2) : Prop := ∀ a ∈ l, per k u a.1 a.2 = true
/-- What a list of amounts that may be held together is. -/
def Cmp (k u : Int) (l : List P2) : Prop := shp k u = true ∧ pers k u l ∧ (k = 1 → frs l) ∧ (k = 2 → usum l ≤ u)

theorem getD_mem2 {l : List P2} {i : Nat} (hi : i < l.length) : l.getD i default ∈ l := by
  rw [List.getD_eq_getElem?_getD, List.getElem?_eq_getElem hi]
  exact List.getElem_mem hi
theorem mem_getD2 {l : List P2} {p : P2} (h : p ∈ l) : ∃ i, i < l.length ∧ l.getD i default = p := by
  obtain ⟨i, hi, h⟩ := List.getElem_of_mem h
  exact ⟨i, hi, by rw [List.getD_eq_getElem?_getD, List.getElem?_eq_getElem hi]; exact h⟩
theorem take_snoc2 {l : List P2} {k : Nat} (h : k < l.length) : l.take (k + 1) = l.take k ++ [l.getD k default] := by
  rw [List.take_succ_eq_append_getElem h, List.getD_eq_getElem?_getD, List.getElem?_eq_getElem h]
  rfl
theorem mem_take2 {l : List P2} {k : Nat} {a : P2} (h : a ∈ l.take k) : ∃ j, j < k ∧ j < l.length ∧ l.getD j default = a := by
  obtain ⟨j, hj, e⟩ := mem_getD2 h
  rw [List.length_take] at hj
  refine ⟨j, by omega, by omega, ?_⟩
  rw [← e]
  simp [List.getD_eq_getElem?_getD, show j < k by omega]
theorem take_mem2 {l : List P2} {k j : Nat} (h : j < k) (hl : j < l.length) : l.getD j default ∈ l.take k := by
  have e : (l.take k).getD j default = l.getD j default := by simp [List.getD_eq_getElem?_getD, h]
  rw [← e]
  exact getD_mem2 (by rw [List.length_take]; omega)

theorem pers_nil (k u : Int) : pers k u [] := fun a h => by cases h
theorem pers_snoc {k u : Int} {l : List P2} {a : P2} : pers k u (l ++ [a]) ↔ pers k u l ∧ per k u a.1 a.2 = true := by
  unfold pers
  constructor
  · exact fun h => ⟨fun x hx => h x (by simp [hx]), h a (by simp)⟩
  · rintro ⟨h1, h2⟩ x hx
    rcases List.mem_append.1 hx with hx | hx
    · exact h1 x hx
    · rw [List.mem_singleton.1 hx]; exact h2
theorem frs_nil : frs [] := List.Pairwise.nil
theorem frs_snoc {l : List P2} {a : P2} : frs (l ++ [a]) ↔ frs l ∧ ∀ x ∈ l, fr x a = true := by
  unfold frs
  rw [List.pairwise_append]
  constructor
  · exact fun h => ⟨h.1, fun x hx => h.2.2 x hx a (by simp)⟩
  · rintro ⟨h1, h2⟩
    exact ⟨h1, by simp, fun x hx y hy => by rw [List.mem_singleton.1 hy]; exact h2 x hx⟩
theorem usum_snoc (l : List P2) (a : P2) : usum (l ++ [a]) = usum l + a.2 := by rw [usum_append, usum, usum]; omega
theorem pers_sub {k u : Int} {l r : List P2} (h : pers k u l) (hs : ∀ x ∈ r, x ∈ l) : pers k u r := fun x hx => h x (hs x hx)
theorem usum_nonneg {k u : Int} : ∀ {l : List P2}, pers k u l → 0 ≤ usum l
  | [], _ => by simp [usum]
  | a :: l, h => by
    have h1 := per_is (h a (List.mem_cons_self ..))
    have h2 := usum_nonneg (l := l) (pers_sub h (fun x hx => List.mem_cons_of_mem _ hx))
    rw [usum]
    omega
/-- A beginning of a list that may be held together may be, too. -/
theorem usum_take {k u : Int} {l : List P2} (h : pers k u l) (i : Nat) : usum (l.take i) ≤ usum l := by
  have e : usum l = usum (l.take i) + usum (l.drop i) := by rw [← usum_append, List.take_append_drop]
  have := usum_nonneg (pers_sub h (r := l.drop i) (fun x hx => List.mem_of_mem_drop hx))
  omega
theorem frs_take {l : List P2} (h : frs l) (i : Nat) : frs (l.take i) := List.Pairwise.sublist (List.take_sublist i l) h

/-! ### The order of a list -/
theorem Cmp.turn {k u : Int} {l r : List P2} (h : Cmp k u (l ++ r)) : Cmp k u (r ++ l) := by
  obtain ⟨h1, h2, h3, h4⟩ := h
  refine ⟨h1, pers_sub h2 (fun x hx => by rcases List.mem_append.1 hx with hx | hx <;> simp [hx]), fun hk => ?_, fun hk => ?_⟩
  · exact (List.pairwise_append_comm (fun hx => fr_comm hx)).1 (h3 hk)
  · have := h4 hk
    rw [usum_append] at *
    omega
theorem Cmp.turns {k u : Int} {l : List P2} (n : Nat) : Cmp k u (l.drop n ++ l.take n) ↔ Cmp k u l := by
  constructor
  · intro h
    have := h.turn
    rwa [List.take_append_drop] at this
  · intro h
    rw [← List.take_append_drop n l] at h
    exact h.turn
/-! ### Less of a list -/
theorem Cmp.less {k u : Int} {l r s : List P2} (h : Cmp k u (l ++ r ++ s)) : Cmp k u (l ++ s) := by
  obtain ⟨h1, h2, h3, h4⟩ := h
  refine ⟨h1, pers_sub h2 (fun x hx => by rcases List.mem_append.1 hx with hx | hx <;> simp [hx]), fun hk => ?_, fun hk => ?_⟩
  · refine List.Pairwise.sublist ?_ (h3 hk)
    rw [List.append_assoc]
    exact List.Sublist.append_left (List.sublist_append_right r s) l
  · have := h4 hk
    have := usum_nonneg (pers_sub h2 (r := r) (fun x hx => by simp [hx]))
    rw [usum_append] at *
    rw [usum_append] at *
    omega
theorem fr_less {k u m n p q : Int} {x : P2} (h : cvr k u m n p q = true) (hx : per k u x.1 x.2 = true) (hf : fr x (m, n) = true) : fr x (p, q) = true := by
  unfold fr cpt at *
  have h1 := cvr_is h
  have h2 := per_is hx
  simp only [decide_eq_true_eq] at *
  omega
theorem cvr_per {k u m n p q : Int} (h : cvr k u m n p q = true) : per k u m n = true ∧ per k u p q = true := by
  have h1 := cvr_is h
  exact ⟨decide_eq_true (by omega), decide_eq_true (by omega)⟩
theorem Cmp.lower {k u m n p q : Int} {l r : List P2} (h : Cmp k u (l ++ (m, n) :: r)) (hc : cvr k u m n p q = true) : Cmp k u (l ++ (p, q) :: r) := by
  obtain ⟨h1, h2, h3, h4⟩ := h
  have hl : pers k u l := pers_sub h2 (fun x hx => by simp [hx])
  have hr : pers k u r := pers_sub h2 (fun x hx => by simp [hx])
  refine ⟨h1, fun x hx => ?_, fun hk => ?_, fun hk => ?_⟩
  · rcases List.mem_append.1 hx with hx | hx
    · exact hl x hx
    · rcases List.mem_cons.1 hx with rfl | hx
      · exact (cvr_per hc).2
      · exact hr x hx
  · have h5 := h3 hk
    unfold frs at *
    rw [List.pairwise_append, List.pairwise_cons] at *
    obtain ⟨g1, ⟨g2, g3⟩, g4⟩ := h5
    refine ⟨g1, ⟨fun x hx => fr_comm (fr_less hc (hr x hx) (fr_comm (g2 x hx))), g3⟩, fun x hx y hy => ?_⟩
    rcases List.mem_cons.1 hy with rfl | hy
    · exact fr_less hc (hl x hx) (g4 x hx _ (List.mem_cons_self ..))
    · exact g4 x hx y (List.mem_cons_of_mem _ hy)
  · have h5 := h4 hk
    have h6 := cvr_is hc
    rw [usum_append, usum] at *
    simp only at *
    omega
theorem Cmp.head {k u : Int} {l r : List P2} (h : Cmp k u (l ++ r)) : Cmp k u l := by
  have := Cmp.less (l := l) (r := r) (s := []) (by simpa using h)
  simpa using this
end Go.Proofs.Ytfcekfdoafpmoaa
