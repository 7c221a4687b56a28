/- Small plain words on names, resources and catalogs. Nothing here speaks of a program. -/
import Derived.Test.YtohjllnfnkajjaaGreatAd
namespace Go.Proofs.YtohjllnfnkajjaaGreat
open Go.RowKit
set_option linter.unusedVariables false

/-- A resource: name, kind, units, home. -/
abbrev P4 := ByteArray × Int × Int × Int

/-! ### Strings -/
def ltS (a b : ByteArray) : Bool := Op.bytesLess a.toList b.toList
def eqS (a b : ByteArray) : Bool := a.toList == b.toList
theorem less_lex : ∀ (x y : List UInt8), Op.bytesLess x y = decide (x < y)
  | [], [] => by simp [Op.bytesLess]
  | _ :: _, [] => by simp [Op.bytesLess]
  | [], _ :: _ => by simp [Op.bytesLess]
  | a :: x, b :: y => by
    rw [Op.bytesLess, less_lex x y, Bool.eq_iff_iff, decide_eq_true_iff, List.cons_lt_cons_iff]
    simp
theorem ba_ext {a b : ByteArray} (h : a.data.toList = b.data.toList) : a = b := ByteArray.ext (Array.toList_inj.1 h)
theorem eqS_iff {a b : ByteArray} : eqS a b = true ↔ a = b := by
  unfold eqS
  rw [ByteArray.toList_eq, ByteArray.toList_eq, beq_iff_eq]
  exact ⟨ba_ext, fun h => by rw [h]⟩
theorem eqS_self (a : ByteArray) : eqS a a = true := eqS_iff.2 rfl
theorem eqS_no {a b : ByteArray} : eqS a b = false ↔ a ≠ b := by rw [← Bool.not_eq_true, eqS_iff]
theorem ltS_iff {a b : ByteArray} : ltS a b = true ↔ a.data.toList < b.data.toList := by
  unfold ltS
  rw [ByteArray.toList_eq, ByteArray.toList_eq, less_lex, decide_eq_true_iff]
theorem u8_irr (a : UInt8) : ¬ a < a := UInt8.lt_irrefl a
theorem ltS_irr (a : ByteArray) : ltS a a = false := by
  rw [← Bool.not_eq_true, ltS_iff]
  exact List.lt_irrefl _
theorem ltS_trans {a b c : ByteArray} (h : ltS a b = true) (k : ltS b c = true) : ltS a c = true := by
  rw [ltS_iff] at *
  exact List.lt_trans h k
theorem ltS_asymm {a b : ByteArray} (h : ltS a b = true) : ltS b a = false := by
  rw [← Bool.not_eq_true]
  intro k
  have := ltS_trans h k
  rw [ltS_irr] at this
  cases this
theorem ltS_tri {a b : ByteArray} (h : ltS a b = false) (k : a ≠ b) : ltS b a = true := by
  rw [← Bool.not_eq_true, ltS_iff] at h
  rw [ltS_iff]
  have h1 := List.not_lt.1 h
  rcases List.le_iff_lt_or_eq.1 h1 with h2 | h2
  · exact h2
  · exact absurd (ba_ext h2).symm k
theorem ltS_ne {a b : ByteArray} (h : ltS a b = true) : a ≠ b := by
  rintro rfl
  rw [ltS_irr] at h
  cases h

/-! ### Names and resources -/
def rsv (s : ByteArray) : Bool := eqS s ⟨#[97, 108, 108]⟩ || eqS s ⟨#[97, 110, 121]⟩ || eqS s ⟨#[111, 102]⟩ || eqS s ⟨#[112, 114, 105, 111]⟩ || eqS s ⟨#[108, 105, 109, 105, 116]⟩
def ltr (c : Int) : Bool := decide (97 ≤ c ∧ c ≤ 122)
def prt (c : Int) : Bool := decide ((97 ≤ c ∧ c ≤ 122) ∨ (48 ≤ c ∧ c ≤ 57) ∨ c = 95 ∨ c = 45)
def byt (s : ByteArray) (i : Nat) : Int := (s.data.toList.getD i 0).toNat
/-- What a name is. -/
def Nam (s : ByteArray) : Prop := 1 ≤ s.size ∧ s.size ≤ 12 ∧ ltr (byt s 0) = true ∧ (∀ i, i < s.size → prt (byt s i) = true) ∧ rsv s = false
def Rsr (s : ByteArray) (k u h : Int) : Prop := Nam s ∧ shp k u = true ∧ 0 ≤ h ∧ h < 4
def RsR (r : P4) : Prop := Rsr r.1 r.2.1 r.2.2.1 r.2.2.2
/-- What a catalog is. -/
def Vcat (l : List P4) : Prop := l.length ≤ 8 ∧ (∀ i, i < l.length → RsR (l.getD i default)) ∧ ∀ i, i + 1 < l.length → ltS (l.getD i default).1 (l.getD (i + 1) default).1 = true

theorem Vcat.nil : Vcat [] := ⟨by simp, fun i h => by simp at h, fun i h => by simp at h⟩
/-- Ascending names. -/
def Asc (l : List P4) : Prop := ∀ i j, i < j → j < l.length → ltS (l.getD i default).1 (l.getD j default).1 = true
theorem Vcat.asc {l : List P4} (h : Vcat l) : Asc l := by
  intro i j hij
  obtain ⟨d, rfl⟩ : ∃ d, j = i + 1 + d := ⟨j - i - 1, by omega⟩
  clear hij
  induction d with
  | zero => exact fun hj => h.2.2 i hj
  | succ d ih => exact fun hj => ltS_trans (ih (by omega)) (h.2.2 (i + 1 + d) hj)
theorem Vcat.mk {l : List P4} (h8 : l.length ≤ 8) (hr : ∀ r ∈ l, RsR r) (ha : Asc l) : Vcat l :=
  ⟨h8, fun i hi => hr _ (by rw [List.getD_eq_getElem?_getD, List.getElem?_eq_getElem hi]; exact List.getElem_mem hi), fun i hi => ha i (i + 1) (by omega) hi⟩
theorem getD_mem4 {l : List P4} {i : Nat} (hi : i < l.length) : l.getD i default ∈ l := by
  rw [List.getD_eq_getElem?_getD, List.getElem?_eq_getElem hi]
  exact List.getElem_mem hi
theorem mem_getD4 {l : List P4} {p : P4} (h : p ∈ l) : ∃ i, i < l.length ∧ l.getD i default = p := by
  obtain ⟨i, hi, h⟩ := List.getElem_of_mem h
  exact ⟨i, hi, by rw [List.getD_eq_getElem?_getD, List.getElem?_eq_getElem hi]; exact h⟩
theorem Vcat.res {l : List P4} (h : Vcat l) {r : P4} (hr : r ∈ l) : RsR r := by
  obtain ⟨i, hi, rfl⟩ := mem_getD4 hr
  exact h.2.1 i hi
theorem take_snoc4 {l : List P4} {k : Nat} (h : k < l.length) : l.take (k + 1) = l.take k ++ [l.getD k default] := by
  rw [List.take_succ_eq_append_getElem h, List.getD_eq_getElem?_getD, List.getElem?_eq_getElem h]
  rfl
theorem drop_cons4 {l : List P4} {k : Nat} (h : k < l.length) : l.drop k = l.getD k default :: l.drop (k + 1) := by
  rw [List.drop_eq_getElem_cons h, List.getD_eq_getElem?_getD, List.getElem?_eq_getElem h]
  rfl
theorem Asc.pw {l : List P4} (h : Asc l) : l.Pairwise (fun a b => ltS a.1 b.1 = true) := by
  rw [List.pairwise_iff_getElem]
  intro i j hi hj hij
  have := h i j hij hj
  simpa [List.getD_eq_getElem?_getD, List.getElem?_eq_getElem hi, List.getElem?_eq_getElem hj] using this
theorem Asc.of {l : List P4} (h : l.Pairwise (fun a b => ltS a.1 b.1 = true)) : Asc l := by
  rw [List.pairwise_iff_getElem] at h
  intro i j hij hj
  have := h i j (by omega) hj hij
  simpa [List.getD_eq_getElem?_getD, List.getElem?_eq_getElem hj, List.getElem?_eq_getElem (show i < l.length by omega)] using this
/-- Two ascending lists of the same resources are one. -/
theorem pw_ext : ∀ {a b : List P4}, a.Pairwise (fun x y => ltS x.1 y.1 = true) → b.Pairwise (fun x y => ltS x.1 y.1 = true) → (∀ x, x ∈ a ↔ x ∈ b) → a = b
  | [], [], _, _, _ => rfl
  | [], y :: b, _, _, h => by have := (h y).2 (by simp); cases this
  | x :: a, [], _, _, h => by have := (h x).1 (by simp); cases this
  | x :: a, y :: b, ha, hb, h => by
    rw [List.pairwise_cons] at ha hb
    have hxy : x = y := by
      rcases List.mem_cons.1 ((h x).1 (by simp)) with e | hx
      · exact e
      · rcases List.mem_cons.1 ((h y).2 (by simp)) with e | hy
        · exact e.symm
        · have h1 := ltS_asymm (hb.1 x hx)
          rw [ha.1 y hy] at h1
          cases h1
    subst hxy
    congr 1
    refine pw_ext ha.2 hb.2 fun z => ⟨fun hz => ?_, fun hz => ?_⟩
    · rcases List.mem_cons.1 ((h z).1 (by simp [hz])) with e | hz'
      · subst e
        have := ha.1 z hz
        rw [ltS_irr] at this
        cases this
      · exact hz'
    · rcases List.mem_cons.1 ((h z).2 (by simp [hz])) with e | hz'
      · subst e
        have := hb.1 z hz
        rw [ltS_irr] at this
        cases this
      · exact hz'

/-! ### The place of a name -/
def At4 (l : List P4) (s : ByteArray) (i : Nat) : Prop := i < l.length ∧ (l.getD i default).1 = s ∧ ∀ k, k < i → (l.getD k default).1 ≠ s
def No4 (l : List P4) (s : ByteArray) : Prop := ∀ k, k < l.length → (l.getD k default).1 ≠ s
theorem at_or : ∀ (l : List P4) (s : ByteArray), (∃ i, At4 l s i) ∨ No4 l s := by
  intro l s
  by_cases h : ∃ k, k < l.length ∧ (l.getD k default).1 = s
  · left
    obtain ⟨k, hk⟩ := h
    have : ∀ n, (k < n) → (∃ i, At4 l s i) := by
      induction k using Nat.strongRecOn with
      | ind k ih =>
        intro n hn
        by_cases h2 : ∃ j, j < k ∧ (l.getD j default).1 = s
        · obtain ⟨j, hj, hj2⟩ := h2
          exact ih j hj ⟨by omega, hj2⟩ (j + 1) (by omega)
        · exact ⟨k, hk.1, hk.2, fun j hj e => h2 ⟨j, hj, e⟩⟩
    exact this (k + 1) (by omega)
  · right
    exact fun k hk e => h ⟨k, hk, e⟩
theorem At4.not {l : List P4} {s : ByteArray} {i : Nat} (h : At4 l s i) : ¬ No4 l s := fun k => k i h.1 h.2.1
/-- Where a name stands, or would stand. -/
def Plc (l : List P4) (s : ByteArray) (p : Nat) : Prop := p ≤ l.length ∧ (∀ i, i < p → ltS (l.getD i default).1 s = true) ∧ ∀ i, p ≤ i → i < l.length → ltS (l.getD i default).1 s = false
def cnt4 (l : List P4) (s : ByteArray) : Nat := (List.range l.length).countP (fun i => ltS (l.getD i default).1 s)
theorem plc_ex {l : List P4} (h : Asc l) (s : ByteArray) : ∃ p, Plc l s p := by
  suffices H : ∀ n, n ≤ l.length → ∃ p, p ≤ n ∧ (∀ i, i < p → ltS (l.getD i default).1 s = true) ∧ ∀ i, p ≤ i → i < n → ltS (l.getD i default).1 s = false by
    obtain ⟨p, h1, h2, h3⟩ := H l.length (Nat.le_refl _)
    exact ⟨p, h1, h2, h3⟩
  intro n
  induction n with
  | zero => exact fun _ => ⟨0, by omega, fun i hi => by omega, fun i _ hi => by omega⟩
  | succ n ih =>
    intro hn
    obtain ⟨p, h1, h2, h3⟩ := ih (by omega)
    cases hl : ltS (l.getD n default).1 s with
    | true =>
      refine ⟨n + 1, by omega, fun i hi => ?_, fun i _ hi => by omega⟩
      by_cases e : i = n
      · subst e; exact hl
      · exact ltS_trans (h i n (by omega) (by omega)) hl
    | false =>
      refine ⟨p, by omega, h2, fun i hi hi2 => ?_⟩
      by_cases e : i = n
      · subst e; exact hl
      · exact h3 i hi (by omega)
theorem Plc.at_ {l : List P4} {s : ByteArray} {p : Nat} (h : Plc l s p) (ha : Asc l) {i : Nat} (hi : At4 l s i) : i = p := by
  rcases Nat.lt_trichotomy i p with h1 | h1 | h1
  · have := h.2.1 i h1
    rw [hi.2.1, ltS_irr] at this
    cases this
  · exact h1
  · have h2 := h.2.2 p (Nat.le_refl _) (by have := hi.1; omega)
    have h3 := ha p i h1 hi.1
    rw [hi.2.1, h2] at h3
    cases h3
theorem Plc.no {l : List P4} {s : ByteArray} {p : Nat} (h : Plc l s p) (hp : p < l.length) (hn : No4 l s) : ltS s (l.getD p default).1 = true := ltS_tri (h.2.2 p (Nat.le_refl _) hp) (hn p hp)
theorem countP_cut {f : Nat → Bool} : ∀ {n p : Nat}, p ≤ n → (∀ i, i < p → f i = true) → (∀ i, p ≤ i → i < n → f i = false) → (List.range n).countP f = p
  | 0, p, hp, _, _ => by obtain rfl : p = 0 := by omega
                         rfl
  | n + 1, p, hp, h1, h2 => by
    rw [List.range_succ, List.countP_append]
    by_cases e : p = n + 1
    · subst e
      rw [countP_cut (p := n) (Nat.le_refl _) (fun i hi => h1 i (by omega)) (fun i hi hi2 => by omega)]
      simp [h1 n (by omega)]
    · rw [countP_cut (p := p) (by omega) h1 (fun i hi hi2 => h2 i hi (by omega))]
      simp [h2 n (by omega) (by omega)]
theorem Plc.cnt {l : List P4} {s : ByteArray} {p : Nat} (h : Plc l s p) : (List.range l.length).countP (fun i => ltS (l.getD i default).1 s) = p := countP_cut h.1 h.2.1 h.2.2

/-! ### What Insert and Remove make -/
def putL (l : List P4) (p : Nat) (r : P4) : List P4 := l.take p ++ r :: l.drop p
def cutL (l : List P4) (p : Nat) : List P4 := l.take p ++ l.drop (p + 1)
theorem putL_length (l : List P4) {p : Nat} (r : P4) (h : p ≤ l.length) : (putL l p r).length = l.length + 1 := by simp [putL]; omega
theorem cutL_length (l : List P4) {p : Nat} (h : p < l.length) : (cutL l p).length + 1 = l.length := by simp [cutL]; omega
theorem putL_mem {l : List P4} {p : Nat} {r x : P4} : x ∈ putL l p r ↔ x = r ∨ x ∈ l := by
  unfold putL
  have : x ∈ l ↔ x ∈ l.take p ∨ x ∈ l.drop p := by rw [← List.mem_append, List.take_append_drop]
  rw [this, List.mem_append, List.mem_cons]
  constructor
  · rintro (h | h | h) <;> simp [h]
  · rintro (h | h | h) <;> simp [h]
theorem mem_take4 {l : List P4} {k : Nat} {a : P4} (h : a ∈ l.take k) : ∃ j, j < k ∧ j < l.length ∧ l.getD j default = a := by
  obtain ⟨j, hj, e⟩ := mem_getD4 h
  rw [List.length_take] at hj
  refine ⟨j, by omega, by omega, ?_⟩
  rw [← e]
  simp [List.getD_eq_getElem?_getD, show j < k by omega]
theorem mem_drop4 {l : List P4} {k : Nat} {a : P4} (h : a ∈ l.drop k) : ∃ j, k ≤ j ∧ j < l.length ∧ l.getD j default = a := by
  obtain ⟨j, hj, e⟩ := mem_getD4 h
  rw [List.length_drop] at hj
  exact ⟨k + j, by omega, by omega, by rw [← e]; simp [List.getD_eq_getElem?_getD]⟩
theorem putL_pw {l : List P4} {p : Nat} {r : P4} (ha : Asc l) (hp : Plc l r.1 p) (hn : No4 l r.1) : (putL l p r).Pairwise (fun a b => ltS a.1 b.1 = true) := by
  unfold putL
  have hpw := ha.pw
  rw [← List.take_append_drop p l, List.pairwise_append] at hpw
  rw [List.pairwise_append, List.pairwise_cons]
  refine ⟨hpw.1, ⟨fun x hx => ?_, hpw.2.1⟩, fun x hx y hy => ?_⟩
  · obtain ⟨j, h1, h2, rfl⟩ := mem_drop4 hx
    exact ltS_tri (hp.2.2 j h1 h2) (hn j h2)
  · rcases List.mem_cons.1 hy with rfl | hy
    · obtain ⟨j, h1, h2, rfl⟩ := mem_take4 hx
      exact hp.2.1 j h1
    · exact hpw.2.2 x hx y hy
theorem cutL_pw {l : List P4} (p : Nat) (ha : Asc l) : (cutL l p).Pairwise (fun a b => ltS a.1 b.1 = true) := by
  refine List.Pairwise.sublist ?_ ha.pw
  unfold cutL
  conv => rhs; rw [← List.take_append_drop p l]
  exact List.Sublist.append_left (List.drop_sublist_drop_left l (Nat.le_succ p)) _
theorem Vcat.put {l : List P4} {p : Nat} {r : P4} (h : Vcat l) (h8 : ¬ l.length = 8) (hr : RsR r) (hp : Plc l r.1 p) (hn : No4 l r.1) : Vcat (putL l p r) := by
  refine Vcat.mk (by rw [putL_length l r hp.1]; have := h.1; omega) (fun x hx => ?_) (Asc.of (putL_pw h.asc hp hn))
  rcases putL_mem.1 hx with rfl | hx
  · exact hr
  · exact h.res hx
theorem cutL_mem {l : List P4} {p : Nat} {x : P4} (h : x ∈ cutL l p) : x ∈ l := by
  rcases List.mem_append.1 h with h | h
  · exact List.mem_of_mem_take h
  · exact List.mem_of_mem_drop h
theorem Vcat.cut {l : List P4} {p : Nat} (h : Vcat l) : Vcat (cutL l p) :=
  Vcat.mk (by have := h.1; simp [cutL]; omega) (fun x hx => h.res (cutL_mem hx)) (Asc.of (cutL_pw p h.asc))
theorem putL_at {l : List P4} {p : Nat} (r : P4) (hp : p ≤ l.length) : (putL l p r).getD p default = r := by
  unfold putL
  rw [List.getD_eq_getElem?_getD, List.getElem?_append_right (by rw [List.length_take]; omega), List.length_take, Nat.min_eq_left hp, Nat.sub_self]
  rfl
theorem putL_At {l : List P4} {p : Nat} {r : P4} (ha : Asc l) (hp : Plc l r.1 p) (hn : No4 l r.1) : At4 (putL l p r) r.1 p := by
  have hA := Asc.of (putL_pw ha hp hn)
  have hl := putL_length l r hp.1
  have e := putL_at r hp.1
  refine ⟨by have := hp.1; omega, by rw [e], fun k hk => ?_⟩
  have := hA k p hk (by have := hp.1; omega)
  rw [e] at this
  exact ltS_ne this
theorem cut_put {l : List P4} {p : Nat} (r : P4) (hp : p ≤ l.length) : cutL (putL l p r) p = l := by
  unfold cutL putL
  have h1 : (l.take p).length = p := by rw [List.length_take]; omega
  rw [List.take_append_of_le_length (by omega), List.take_take, Nat.min_self, show p + 1 = (l.take p).length + 1 by omega, List.drop_append, Nat.add_sub_cancel_left, List.drop_eq_nil_of_le (by omega)]
  simp

/-- What Insert answers: the error, and the list. -/
def Ins (l : List P4) (r : P4) (e : Int) (x : List P4) : Prop :=
  (¬ Vcat l ∧ e = 2 ∧ x = []) ∨ (Vcat l ∧ ¬ Nam r.1 ∧ e = 9 ∧ x = []) ∨ (Vcat l ∧ Nam r.1 ∧ ¬ RsR r ∧ e = 1 ∧ x = []) ∨ (Vcat l ∧ RsR r ∧ (∃ i, At4 l r.1 i) ∧ e = 11 ∧ x = []) ∨
  (Vcat l ∧ RsR r ∧ No4 l r.1 ∧ l.length = 8 ∧ e = 4 ∧ x = []) ∨ (Vcat l ∧ RsR r ∧ No4 l r.1 ∧ ¬ l.length = 8 ∧ e = 0 ∧ ∃ p, Plc l r.1 p ∧ x = putL l p r)
theorem ins_ex (l : List P4) (r : P4) : ∃ e x, Ins l r e x := by
  by_cases h1 : Vcat l
  · by_cases h2 : Nam r.1
    · by_cases h3 : RsR r
      · rcases at_or l r.1 with h4 | h4
        · exact ⟨11, [], .inr (.inr (.inr (.inl ⟨h1, h3, h4, rfl, rfl⟩)))⟩
        · by_cases h5 : l.length = 8
          · exact ⟨4, [], .inr (.inr (.inr (.inr (.inl ⟨h1, h3, h4, h5, rfl, rfl⟩))))⟩
          · obtain ⟨p, hp⟩ := plc_ex h1.asc r.1
            exact ⟨0, _, .inr (.inr (.inr (.inr (.inr ⟨h1, h3, h4, h5, rfl, p, hp, rfl⟩))))⟩
      · exact ⟨1, [], .inr (.inr (.inl ⟨h1, h2, h3, rfl, rfl⟩))⟩
    · exact ⟨9, [], .inr (.inl ⟨h1, h2, rfl, rfl⟩)⟩
  · exact ⟨2, [], .inl ⟨h1, rfl, rfl⟩⟩
/-- What Remove answers. -/
def Rem (l : List P4) (s : ByteArray) (e : Int) (x : List P4) : Prop :=
  (¬ Vcat l ∧ e = 2 ∧ x = []) ∨ (Vcat l ∧ No4 l s ∧ e = 10 ∧ x = []) ∨ (Vcat l ∧ e = 0 ∧ ∃ p, At4 l s p ∧ x = cutL l p)
theorem rem_ex (l : List P4) (s : ByteArray) : ∃ e x, Rem l s e x := by
  by_cases h1 : Vcat l
  · rcases at_or l s with ⟨p, hp⟩ | h
    · exact ⟨0, _, .inr (.inr ⟨h1, rfl, p, hp, rfl⟩)⟩
    · exact ⟨10, [], .inr (.inl ⟨h1, h, rfl, rfl⟩)⟩
  · exact ⟨2, [], .inl ⟨h1, rfl, rfl⟩⟩
/-- What Resolve answers. -/
def Rsv (l : List P4) (s : ByteArray) (m n : Int) (e : Int) : Prop :=
  (¬ Vcat l ∧ e = 2) ∨ (Vcat l ∧ No4 l s ∧ e = 10) ∨ (Vcat l ∧ ∃ p, At4 l s p ∧ ((fit (l.getD p default).2.1 (l.getD p default).2.2.1 m n = false ∧ e = 12) ∨ (fit (l.getD p default).2.1 (l.getD p default).2.2.1 m n = true ∧ e = 0)))
theorem rsv_ex (l : List P4) (s : ByteArray) (m n : Int) : ∃ e, Rsv l s m n e := by
  by_cases h1 : Vcat l
  · rcases at_or l s with ⟨p, hp⟩ | h
    · cases hf : fit (l.getD p default).2.1 (l.getD p default).2.2.1 m n
      · exact ⟨12, .inr (.inr ⟨h1, p, hp, .inl ⟨hf, rfl⟩⟩)⟩
      · exact ⟨0, .inr (.inr ⟨h1, p, hp, .inr ⟨hf, rfl⟩⟩)⟩
    · exact ⟨10, .inr (.inl ⟨h1, h, rfl⟩)⟩
  · exact ⟨2, .inl ⟨h1, rfl⟩⟩
/-- The resources of a site. -/
def atL (l : List P4) (site : Int) : List P4 := l.filter (fun r => decide (r.2.2.2 = site))
theorem atL_snoc_yes {l : List P4} {a : P4} {site : Int} (h : a.2.2.2 = site) : atL (l ++ [a]) site = atL l site ++ [a] := by simp [atL, h]
theorem atL_snoc_no {l : List P4} {a : P4} {site : Int} (h : ¬ a.2.2.2 = site) : atL (l ++ [a]) site = atL l site := by simp [atL, h]
theorem atL_le (l : List P4) (site : Int) : (atL l site).length ≤ l.length := List.length_filter_le _ _
end Go.Proofs.YtohjllnfnkajjaaGreat
