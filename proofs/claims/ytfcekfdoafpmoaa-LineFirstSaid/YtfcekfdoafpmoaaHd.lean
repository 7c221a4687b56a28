/- Grants in plain words: lists of processes with amounts. Nothing here speaks of a program. -/
import Derived.Test.YtfcekfdoafpmoaaAd
import Derived.Test.YtfcekfdoafpmoaaIdn
namespace Go.Proofs.Ytfcekfdoafpmoaa
open Go.RowKit
set_option linter.unusedVariables false

abbrev Pr3 := Int × Int × Int
/-- A process and what it holds. -/
abbrev Hd := Pr3 × P2
def ltP (p q : Pr3) : Prop := p.1 < q.1 ∨ (p.1 = q.1 ∧ (p.2.1 < q.2.1 ∨ (p.2.1 = q.2.1 ∧ p.2.2 < q.2.2)))
instance (p q : Pr3) : Decidable (ltP p q) := by unfold ltP; infer_instance
theorem ltP_cmp (p q : Pr3) : cmp3 p.1 p.2.1 p.2.2 q.1 q.2.1 q.2.2 < 0 ↔ ltP p q := by
  unfold cmp3 ltP
  rcases ord_cases p.1 q.1 with ⟨h1, e1⟩ | ⟨h1, e1⟩ | ⟨h1, e1⟩ <;> rcases ord_cases p.2.1 q.2.1 with ⟨h2, e2⟩ | ⟨h2, e2⟩ | ⟨h2, e2⟩ <;> rcases ord_cases p.2.2 q.2.2 with ⟨h3, e3⟩ | ⟨h3, e3⟩ | ⟨h3, e3⟩ <;> rw [e1, e2, e3] <;> simp <;> omega
theorem ltP_cmp' (p q : Pr3) : 0 < cmp3 p.1 p.2.1 p.2.2 q.1 q.2.1 q.2.2 ↔ ltP q p := by
  unfold cmp3 ltP
  rcases ord_cases p.1 q.1 with ⟨h1, e1⟩ | ⟨h1, e1⟩ | ⟨h1, e1⟩ <;> rcases ord_cases p.2.1 q.2.1 with ⟨h2, e2⟩ | ⟨h2, e2⟩ | ⟨h2, e2⟩ <;> rcases ord_cases p.2.2 q.2.2 with ⟨h3, e3⟩ | ⟨h3, e3⟩ | ⟨h3, e3⟩ <;> rw [e1, e2, e3] <;> simp <;> omega
theorem ltP_irr (p : Pr3) : ¬ ltP p p := by unfold ltP; omega
theorem ltP_trans {p q r : Pr3} (h : ltP p q) (k : ltP q r) : ltP p r := by unfold ltP at *; omega
theorem ltP_total {p q : Pr3} (h : p ≠ q) : ltP p q ∨ ltP q p := by
  obtain ⟨a, b, c⟩ := p
  obtain ⟨x, y, z⟩ := q
  unfold ltP
  simp only [ne_eq, Prod.mk.injEq] at *
  omega
abbrev AscH (l : List Hd) : Prop := l.Pairwise fun a b => ltP a.1 b.1
def amtH (l : List Hd) : List P2 := l.map fun h => h.2
def vpP (p : Pr3) : Bool := vpB p.1 p.2.1 p.2.2
/-- Valid grants of a resource. -/
def VH (k u : Int) (l : List Hd) : Prop := shp k u = true ∧ l.length ≤ 8 ∧ (∀ h ∈ l, vpP h.1 = true ∧ fit k u h.2.1 h.2.2 = true) ∧ AscH l ∧ Cmp k u (amtH l)
def getH : List Hd → Pr3 → P2
  | [], _ => (0, 0)
  | h :: r, p => if h.1 = p then h.2 else getH r p
def delH (l : List Hd) (p : Pr3) : List Hd := l.filter fun h => !decide (h.1 = p)
def insH (p : Pr3) (a : P2) : List Hd → List Hd
  | [] => [(p, a)]
  | h :: r => if ltP p h.1 then (p, a) :: h :: r else h :: insH p a r
def setH (l : List Hd) (p : Pr3) (a : P2) : List Hd := if zer a.1 a.2 = true then delH l p else insH p a (delH l p)
theorem delH_mem {l : List Hd} {p : Pr3} {h : Hd} : h ∈ delH l p ↔ h ∈ l ∧ h.1 ≠ p := by simp [delH]
theorem insH_mem {p : Pr3} {a : P2} {h : Hd} : ∀ {l : List Hd}, h ∈ insH p a l ↔ h = (p, a) ∨ h ∈ l
  | [] => by simp [insH]
  | x :: r => by
    rw [insH]
    by_cases hx : ltP p x.1
    · rw [if_pos hx]; simp
    · rw [if_neg hx, List.mem_cons, insH_mem, List.mem_cons]
      constructor
      · rintro (h | h | h)
        · exact .inr (.inl h)
        · exact .inl h
        · exact .inr (.inr h)
      · rintro (h | h | h)
        · exact .inr (.inl h)
        · exact .inl h
        · exact .inr (.inr h)
theorem insH_len {p : Pr3} {a : P2} : ∀ l : List Hd, (insH p a l).length = l.length + 1
  | [] => rfl
  | x :: r => by
    rw [insH]
    by_cases hx : ltP p x.1
    · rw [if_pos hx]; rfl
    · rw [if_neg hx, List.length_cons, insH_len r, List.length_cons]
theorem zer_is {a : P2} (h : zer a.1 a.2 = true) : a = (0, 0) := by
  have := of_decide_eq_true h
  exact Prod.ext this.1 this.2
/-! ### What is held behind Set -/
theorem getH_none : ∀ {l : List Hd} {p : Pr3}, (∀ h ∈ l, h.1 ≠ p) → getH l p = (0, 0)
  | [], _, _ => rfl
  | h :: r, p, hn => by rw [getH, if_neg (hn h (by simp)), getH_none (fun x hx => hn x (by simp [hx]))]
theorem getH_ins {p : Pr3} {a : P2} : ∀ {l : List Hd}, (∀ h ∈ l, h.1 ≠ p) → getH (insH p a l) p = a
  | [], _ => by simp [insH, getH]
  | x :: r, hn => by
    rw [insH]
    by_cases hx : ltP p x.1
    · rw [if_pos hx, getH, if_pos rfl]
    · rw [if_neg hx, getH, if_neg (hn x (by simp)), getH_ins (fun y hy => hn y (by simp [hy]))]
theorem getH_ins_other {p q : Pr3} {a : P2} (hq : p ≠ q) : ∀ l : List Hd, getH (insH p a l) q = getH l q
  | [] => by simp [insH, getH, hq]
  | x :: r => by
    rw [insH]
    by_cases hx : ltP p x.1
    · rw [if_pos hx, getH, if_neg hq]
    · rw [if_neg hx, getH, getH, getH_ins_other hq r]
theorem getH_del_other {p q : Pr3} (hq : p ≠ q) : ∀ l : List Hd, getH (delH l p) q = getH l q
  | [] => rfl
  | x :: r => by
    unfold delH
    rw [List.filter_cons]
    by_cases hx : x.1 = p
    · rw [if_neg (by simp [hx]), getH, if_neg (by rw [hx]; exact hq)]
      exact getH_del_other hq r
    · rw [if_pos (by simp [hx]), getH, getH]
      have := getH_del_other hq r
      unfold delH at this
      rw [this]
theorem get_set (l : List Hd) (p : Pr3) (a : P2) : getH (setH l p a) p = a := by
  have hn : ∀ h ∈ delH l p, h.1 ≠ p := fun h hh => (delH_mem.1 hh).2
  unfold setH
  by_cases hz : zer a.1 a.2 = true
  · rw [if_pos hz, getH_none hn, zer_is hz]
  · rw [if_neg hz, getH_ins hn]
theorem get_set_other {p q : Pr3} (hq : p ≠ q) (l : List Hd) (a : P2) : getH (setH l p a) q = getH l q := by
  unfold setH
  by_cases hz : zer a.1 a.2 = true
  · rw [if_pos hz, getH_del_other hq]
  · rw [if_neg hz, getH_ins_other hq, getH_del_other hq]
/-! ### Order -/
theorem AscH.del {l : List Hd} (h : AscH l) (p : Pr3) : AscH (delH l p) := List.Pairwise.filter _ h
theorem AscH.ins {p : Pr3} {a : P2} : ∀ {l : List Hd}, AscH l → (∀ h ∈ l, h.1 ≠ p) → AscH (insH p a l)
  | [], _, _ => List.pairwise_singleton _ _
  | x :: r, h, hn => by
    have h' := List.pairwise_cons.1 h
    rw [insH]
    by_cases hx : ltP p x.1
    · rw [if_pos hx]
      refine List.pairwise_cons.2 ⟨fun y hy => ?_, h⟩
      rcases List.mem_cons.1 hy with rfl | hy
      · exact hx
      · exact ltP_trans hx (h'.1 y hy)
    · rw [if_neg hx]
      refine List.pairwise_cons.2 ⟨fun y hy => ?_, AscH.ins h'.2 (fun y hy => hn y (by simp [hy]))⟩
      rcases insH_mem.1 hy with rfl | hy
      · exact (ltP_total (hn x (by simp))).resolve_right hx
      · exact h'.1 y hy
/-! ### Fewer grants -/
theorem Cmp.sub {k u : Int} {l r : List P2} (h : Cmp k u l) (hs : List.Sublist r l) : Cmp k u r := by
  obtain ⟨h1, h2, h3, h4⟩ := h
  refine ⟨h1, pers_sub h2 (fun x hx => hs.subset hx), fun hk => List.Pairwise.sublist hs (h3 hk), fun hk => ?_⟩
  have h5 := h4 hk
  have : usum r ≤ usum l := by
    clear h5
    induction hs with
    | slnil => exact Int.le_refl _
    | cons a hs ih =>
      rw [usum]
      have h6 := ih (pers_sub h2 (fun x hx => by simp [hx])) (fun hk => List.Pairwise.sublist (List.sublist_cons_self _ _) (h3 hk)) (fun hk => by
        have h7 := h4 hk
        rw [usum] at h7
        have h8 := per_is (h2 a (by simp))
        omega)
      have h8 := per_is (h2 a (by simp))
      omega
    | cons_cons a hs ih =>
      rw [usum, usum]
      have h8 := per_is (h2 a (by simp))
      have h6 := ih (pers_sub h2 (fun x hx => by simp [hx])) (fun hk => List.Pairwise.sublist (List.sublist_cons_self _ _) (h3 hk)) (fun hk => by
        have h7 := h4 hk
        rw [usum] at h7
        omega)
      omega
  omega
theorem VH.sub {k u : Int} {l r : List Hd} (h : VH k u l) (hs : List.Sublist r l) : VH k u r :=
  ⟨h.1, Nat.le_trans hs.length_le h.2.1, fun x hx => h.2.2.1 x (hs.subset hx), List.Pairwise.sublist hs h.2.2.2.1, h.2.2.2.2.sub (hs.map _)⟩
theorem VH.del {k u : Int} {l : List Hd} (h : VH k u l) (p : Pr3) : VH k u (delH l p) := h.sub List.filter_sublist
/-! ### Room -/
theorem insH_perm {p : Pr3} {a : P2} : ∀ l : List Hd, (insH p a l).Perm ((p, a) :: l)
  | [] => .refl _
  | x :: r => by
    rw [insH]
    by_cases hx : ltP p x.1
    · rw [if_pos hx]
    · rw [if_neg hx]
      exact ((insH_perm r).cons x).trans (List.Perm.swap _ _ _)
theorem usum_perm {l r : List P2} (h : List.Perm l r) : usum l = usum r := by
  induction h with
  | nil => rfl
  | cons x _ ih => rw [usum, usum, ih]
  | swap x y l => rw [usum, usum, usum, usum]; omega
  | trans _ _ h k => rw [h, k]
theorem Cmp.perm {k u : Int} {l r : List P2} (h : Cmp k u l) (hp : List.Perm l r) : Cmp k u r := by
  obtain ⟨h1, h2, h3, h4⟩ := h
  refine ⟨h1, pers_sub h2 (fun x hx => hp.mem_iff.2 hx), fun hk => (List.Perm.pairwise_iff (fun h => fr_comm h) hp).1 (h3 hk), fun hk => ?_⟩
  rw [← usum_perm hp]
  exact h4 hk
theorem fit_not_zer {k u m n : Int} (h : fit k u m n = true) : ¬ zer m n = true := by
  have := of_decide_eq_true h
  intro hz
  have := of_decide_eq_true hz
  omega
theorem fit_per {k u m n : Int} (h : fit k u m n = true) : per k u m n = true := by
  have := of_decide_eq_true h
  exact decide_eq_true (by omega)
theorem setH_fit {k u : Int} {l : List Hd} {p : Pr3} {a : P2} (ha : fit k u a.1 a.2 = true) : setH l p a = insH p a (delH l p) := by
  unfold setH
  rw [if_neg (fit_not_zer ha)]
/-- There is room for an amount in the place of what a process holds. -/
def RoomH (k u : Int) (l : List Hd) (p : Pr3) (a : P2) : Prop := VH k u l ∧ vpP p = true ∧ fit k u a.1 a.2 = true ∧ VH k u (setH l p a)
theorem VH.set {k u : Int} {l : List Hd} {p : Pr3} {a : P2} (h : VH k u l) (hp : vpP p = true) (ha : fit k u a.1 a.2 = true) (hn : (delH l p).length ≤ 7) (hc : Cmp k u (a :: amtH (delH l p))) : VH k u (setH l p a) := by
  rw [setH_fit ha]
  have hd := h.del p
  refine ⟨h.1, by rw [insH_len]; omega, fun x hx => ?_, hd.2.2.2.1.ins (fun y hy => (delH_mem.1 hy).2), hc.perm ((insH_perm (delH l p)).map Prod.snd).symm⟩
  rcases insH_mem.1 hx with rfl | hx
  · exact ⟨hp, ha⟩
  · exact hd.2.2.1 x hx
theorem VH.set_inv {k u : Int} {l : List Hd} {p : Pr3} {a : P2} (ha : fit k u a.1 a.2 = true) (h : VH k u (setH l p a)) : (delH l p).length ≤ 7 ∧ Cmp k u (a :: amtH (delH l p)) := by
  rw [setH_fit ha] at h
  have h1 := h.2.1
  rw [insH_len] at h1
  exact ⟨by omega, h.2.2.2.2.perm ((insH_perm (delH l p)).map Prod.snd)⟩
theorem RoomH.shrink {k u : Int} {l r : List Hd} {p : Pr3} {a : P2} (h : RoomH k u l p a) (hs : List.Sublist r l) : RoomH k u r p a := by
  obtain ⟨h1, h2, h3, h4⟩ := h
  have h5 := VH.set_inv h3 h4
  have h6 : List.Sublist (delH r p) (delH l p) := hs.filter _
  exact ⟨h1.sub hs, h2, h3, (h1.sub hs).set h2 h3 (Nat.le_trans h6.length_le h5.1) (h5.2.sub ((h6.map Prod.snd).cons_cons a))⟩
/-- Who is against, where there is no room. -/
def agnH (k : Int) (l : List Hd) (p : Pr3) (a : P2) : List Hd := (delH l p).filter fun h => decide (k = 2) || !fr h.2 a
theorem Cmp.put {k u : Int} {l : List P2} {a : P2} (h : Cmp k u l) (ha : per k u a.1 a.2 = true) (h1 : k = 1 → ∀ x ∈ l, fr x a = true) (h2 : k = 2 → a.2 + usum l ≤ u) : Cmp k u (a :: l) := by
  refine ⟨h.1, fun x hx => ?_, fun hk => List.pairwise_cons.2 ⟨fun x hx => fr_comm (h1 hk x hx), h.2.2.1 hk⟩, fun hk => by rw [usum]; exact h2 hk⟩
  rcases List.mem_cons.1 hx with rfl | hx
  · exact ha
  · exact h.2.1 x hx
theorem room_of {k u : Int} {l : List Hd} {p : Pr3} {a : P2} (h : VH k u l) (hp : vpP p = true) (ha : fit k u a.1 a.2 = true) (hn : (delH l p).length ≤ 7) (hg : agnH k l p a = []) : RoomH k u l p a := by
  refine ⟨h, hp, ha, h.set hp ha hn ((h.del p).2.2.2.2.put (fit_per ha) (fun hk x hx => ?_) (fun hk => ?_))⟩
  · obtain ⟨y, hy, rfl⟩ := List.mem_map.1 hx
    by_cases hf : fr y.2 a = true
    · exact hf
    · have : y ∈ agnH k l p a := List.mem_filter.2 ⟨hy, by simp [hf]⟩
      rw [hg] at this
      exact absurd this (by simp)
  · have h0 : delH l p = [] := by
      rcases hd : delH l p with _ | ⟨y, r⟩
      · rfl
      · have : y ∈ agnH k l p a := List.mem_filter.2 ⟨by rw [hd]; simp, by simp [hk]⟩
        rw [hg] at this
        exact absurd this (by simp)
    rw [h0]
    have := of_decide_eq_true ha
    simp only [amtH, List.map_nil, usum]
    omega
/-- Grants without those of some processes. -/
def delsH (l : List Hd) (ps : List Pr3) : List Hd := ps.foldl delH l
theorem delsH_sub (ps : List Pr3) : ∀ l : List Hd, List.Sublist (delsH l ps) l := by
  induction ps with
  | nil => exact fun l => List.Sublist.refl _
  | cons p ps ih => exact fun l => (ih (delH l p)).trans List.filter_sublist
theorem delsH_mem (ps : List Pr3) : ∀ {l : List Hd} {h : Hd}, h ∈ delsH l ps ↔ h ∈ l ∧ h.1 ∉ ps := by
  induction ps with
  | nil => intro l h; simp [delsH]
  | cons p ps ih =>
    intro l h
    show h ∈ delsH (delH l p) ps ↔ _
    rw [ih, delH_mem, List.mem_cons, not_or, and_assoc]
theorem agnH_yield {k u : Int} {l : List Hd} {p : Pr3} {a : P2} (h : VH k u l) (hp : vpP p = true) (ha : fit k u a.1 a.2 = true) (hn : (delH l p).length ≤ 7) : RoomH k u (delsH l ((agnH k l p a).map fun x => x.1)) p a := by
  have hs := delsH_sub ((agnH k l p a).map fun x => x.1) l
  refine room_of (h.sub hs) hp ha (Nat.le_trans (hs.filter _).length_le hn) (List.eq_nil_iff_forall_not_mem.2 fun x hx => ?_)
  have h1 := List.mem_filter.1 hx
  have h2 := delH_mem.1 h1.1
  have h3 := (delsH_mem _).1 h2.1
  exact h3.2 (List.mem_map.2 ⟨x, List.mem_filter.2 ⟨delH_mem.2 ⟨h3.1, h2.2⟩, h1.2⟩, rfl⟩)
theorem room_iff {k u : Int} {l : List Hd} {p : Pr3} {a : P2} (h : VH k u l) (hp : vpP p = true) (ha : fit k u a.1 a.2 = true) (hn : (delH l p).length ≤ 7) : ¬ RoomH k u l p a → agnH k l p a ≠ [] := fun hr hg => hr (room_of h hp ha hn hg)
/-- Set by zero is to leave out. -/
theorem setH_zero (l : List Hd) (p : Pr3) : setH l p (0, 0) = delH l p := by unfold setH; rw [if_pos (by decide)]
theorem len_le_of_sub : ∀ {l r : List Pr3}, l.Pairwise (fun a b => a ≠ b) → (∀ x ∈ l, x ∈ r) → l.length ≤ r.length
  | [], _, _, _ => Nat.zero_le _
  | x :: l, r, hn, hs => by
    have h1 := List.pairwise_cons.1 hn
    have hx : x ∈ r := hs x (by simp)
    have h2 := len_le_of_sub (l := l) (r := r.erase x) h1.2 (fun y hy => (List.mem_erase_of_ne (fun h => h1.1 y hy h.symm)).2 (hs y (by simp [hy])))
    rw [List.length_erase_of_mem hx] at h2
    have := List.length_pos_of_mem hx
    rw [List.length_cons]
    omega
/-- Of processes out of eight, one that is not there leaves seven. -/
theorem room_len {l : List Hd} {p : Pr3} {qs : List Pr3} (hq : qs.length ≤ 8) (hl : AscH l) (hs : ∀ h ∈ l, h.1 ∈ qs) (hp : p ∈ qs) : (delH l p).length ≤ 7 := by
  have hnd : ((delH l p).map fun x => x.1).Pairwise (fun a b => a ≠ b) := by
    rw [List.pairwise_map]
    refine List.Pairwise.imp (fun {a b} h he => ?_) (hl.del p)
    rw [he] at h
    exact ltP_irr _ h
  have hsub : ∀ x ∈ ((delH l p).map fun x => x.1), x ∈ qs.erase p := fun x hx => by
    obtain ⟨y, hy, rfl⟩ := List.mem_map.1 hx
    have h1 := delH_mem.1 hy
    exact (List.mem_erase_of_ne h1.2).2 (hs y h1.1)
  have hle := len_le_of_sub hnd hsub
  rw [List.length_map, List.length_erase_of_mem hp] at hle
  omega
end Go.Proofs.Ytfcekfdoafpmoaa
