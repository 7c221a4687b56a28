/- Requests in plain words: expressions as trees, what is valid, the grammar. Nothing here speaks of a program. -/
import Derived.Test.YtohjllnfnkajjaaGreatLd
namespace Go.Proofs.YtohjllnfnkajjaaGreat
open Go.RowKit
set_option linter.unusedVariables false

/-- What an atom claims: name, mode, units. -/
abbrev A3 := ByteArray × Int × Int
/-- An expression. -/
inductive Ex where
  | nd (k : Int) (a : A3) (l : List Ex)
abbrev z3 : A3 := (⟨#[]⟩, 0, 0)
/-- The expression that nothing was written into. -/
abbrev Ex.zero : Ex := .nd 0 z3 []
instance : Inhabited Ex := ⟨Ex.zero⟩
def Ex.k : Ex → Int | .nd k _ _ => k
def Ex.a : Ex → A3 | .nd _ a _ => a
def Ex.l : Ex → List Ex | .nd _ _ l => l
theorem Ex.ind {P : Ex → Prop} (h : ∀ k a l, (∀ e ∈ l, P e) → P (.nd k a l)) : ∀ e, P e := by
  intro e
  refine Ex.rec (motive_1 := P) (motive_2 := fun l => ∀ e ∈ l, P e) (fun k a l ih => h k a l ih) (fun e he => by cases he) (fun e l h1 h2 f hf => ?_) e
  rcases List.mem_cons.1 hf with rfl | hf
  · exact h1
  · exact h2 f hf
mutual
def Ex.cnt : Ex → Nat
  | .nd _ _ l => 1 + cntL l
def cntL : List Ex → Nat
  | [] => 0
  | e :: r => e.cnt + cntL r
end
mutual
def Ex.dp : Ex → Nat
  | .nd _ _ l => 1 + dpL l
def dpL : List Ex → Nat
  | [] => 0
  | e :: r => max e.dp (dpL r)
end
mutual
/-- All nodes, each ahead of its kids. -/
def Ex.pre : Ex → List Ex
  | .nd k a l => .nd k a l :: preL l
def preL : List Ex → List Ex
  | [] => []
  | e :: r => e.pre ++ preL r
end
theorem Ex.pre_eq (e : Ex) : e.pre = e :: preL e.l := by cases e; rw [Ex.pre]; rfl
theorem Ex.cnt_eq (e : Ex) : e.cnt = 1 + cntL e.l := by cases e; rw [Ex.cnt]; rfl
theorem Ex.dp_eq (e : Ex) : e.dp = 1 + dpL e.l := by cases e; rw [Ex.dp]; rfl
theorem pre_len : (∀ e : Ex, e.pre.length = e.cnt) ∧ ∀ l : List Ex, (preL l).length = cntL l := by
  have h1 : ∀ e : Ex, e.pre.length = e.cnt := by
    refine Ex.ind fun k a l ih => ?_
    have : ∀ m : List Ex, (∀ e ∈ m, e ∈ l) → (preL m).length = cntL m := by
      intro m
      induction m with
      | nil => intro _; rw [preL, cntL]; rfl
      | cons e r ihr =>
        intro hm
        rw [preL, cntL, List.length_append, ih e (hm e (by simp)), ihr (fun f hf => hm f (by simp [hf]))]
    rw [Ex.pre, Ex.cnt, List.length_cons, this l (fun _ h => h)]
    omega
  refine ⟨h1, fun l => ?_⟩
  induction l with
  | nil => rw [preL, cntL]; rfl
  | cons e r ih => rw [preL, cntL, List.length_append, h1, ih]
theorem cntL_append : ∀ x y : List Ex, cntL (x ++ y) = cntL x + cntL y
  | [], y => by simp [cntL]
  | e :: x, y => by rw [List.cons_append, cntL, cntL, cntL_append x y]; omega
theorem dpL_append : ∀ x y : List Ex, dpL (x ++ y) = max (dpL x) (dpL y)
  | [], y => by simp [dpL]
  | e :: x, y => by rw [List.cons_append, dpL, dpL, dpL_append x y]; omega
theorem preL_append : ∀ x y : List Ex, preL (x ++ y) = preL x ++ preL y
  | [], y => by simp [preL]
  | e :: x, y => by rw [List.cons_append, preL, preL, preL_append x y, List.append_assoc]
theorem cnt_pos (e : Ex) : 1 ≤ e.cnt := by rw [e.cnt_eq]; omega
theorem dp_pos (e : Ex) : 1 ≤ e.dp := by rw [e.dp_eq]; omega
theorem cntL_le : ∀ {l : List Ex} {e : Ex}, e ∈ l → e.cnt ≤ cntL l
  | [], e, h => by cases h
  | f :: r, e, h => by
    rw [cntL]
    rcases List.mem_cons.1 h with rfl | h
    · omega
    · have := cntL_le h; omega
theorem dpL_le : ∀ {l : List Ex} {e : Ex}, e ∈ l → e.dp ≤ dpL l
  | [], e, h => by cases h
  | f :: r, e, h => by
    rw [dpL]
    rcases List.mem_cons.1 h with rfl | h
    · omega
    · have := dpL_le h; omega
theorem cntL_len : ∀ l : List Ex, l.length ≤ cntL l
  | [] => by simp [cntL]
  | e :: r => by rw [cntL, List.length_cons]; have := cntL_len r; have := cnt_pos e; omega
theorem getD_memX {l : List Ex} {i : Nat} (hi : i < l.length) : l.getD i default ∈ l := by
  rw [List.getD_eq_getElem?_getD, List.getElem?_eq_getElem hi]
  exact List.getElem_mem hi
theorem take_snocX {l : List Ex} {k : Nat} (h : k < l.length) : l.take (k + 1) = l.take k ++ [l.getD k default] := by
  rw [List.take_succ_eq_append_getElem h, List.getD_eq_getElem?_getD, List.getElem?_eq_getElem h]
  rfl
theorem cntL_take {l : List Ex} {k : Nat} (h : k < l.length) : cntL (l.take (k + 1)) = cntL (l.take k) + (l.getD k default).cnt := by
  rw [take_snocX h, cntL_append, cntL, cntL]; omega
theorem dpL_take {l : List Ex} {k : Nat} (h : k < l.length) : dpL (l.take (k + 1)) = max (dpL (l.take k)) (l.getD k default).dp := by
  rw [take_snocX h, dpL_append, dpL, dpL]; omega
theorem preL_take {l : List Ex} {k : Nat} (h : k < l.length) : preL (l.take (k + 1)) = preL (l.take k) ++ (l.getD k default).pre := by
  rw [take_snocX h, preL_append, preL, preL, List.append_nil]
theorem cntL_take_le (l : List Ex) (k : Nat) : cntL (l.take k) ≤ cntL l := by
  have := congrArg cntL (List.take_append_drop k l)
  rw [cntL_append] at this
  omega
theorem dpL_take_le (l : List Ex) (k : Nat) : dpL (l.take k) ≤ dpL l := by
  have := congrArg dpL (List.take_append_drop k l)
  rw [dpL_append] at this
  omega

/-! ### What is valid -/
/-- Within the limits, where so many nodes have begun and so many levels stand above. -/
def lim (d n : Nat) (e : Ex) : Bool := decide (d + e.dp ≤ 5 ∧ n + e.cnt ≤ 24)
def limL (d n : Nat) (l : List Ex) : Bool := decide (d + dpL l ≤ 5 ∧ n + cntL l ≤ 24)
theorem lim_is {d n : Nat} {e : Ex} (h : lim d n e = true) : d + e.dp ≤ 5 ∧ n + e.cnt ≤ 24 := of_decide_eq_true h
theorem lim_no {d n : Nat} {e : Ex} (h : lim d n e = false) : ¬ (d + e.dp ≤ 5 ∧ n + e.cnt ≤ 24) := of_decide_eq_false h
def usb (m u : Int) : Bool := decide ((1 ≤ m ∧ m ≤ 5 ∧ u = 0) ∨ (m = 0 ∧ 1 ≤ u ∧ u ≤ 8))
/-- A group, whatever its kids are. -/
def grp (e : Ex) : Bool := decide (e.a = z3 ∧ 1 ≤ e.k ∧ e.k ≤ (e.l.length : Int))
noncomputable def atm (e : Ex) : Bool := @decide (e.k = 0 ∧ e.l = [] ∧ Nam e.a.1 ∧ usb e.a.2.1 e.a.2.2 = true) (Classical.propDecidable _)
theorem atm_is {e : Ex} (h : atm e = true) : e.k = 0 ∧ e.l = [] ∧ Nam e.a.1 ∧ usb e.a.2.1 e.a.2.2 = true := by
  unfold atm at h; exact @of_decide_eq_true _ (Classical.propDecidable _) h
theorem atm_mk {e : Ex} (h : e.k = 0 ∧ e.l = [] ∧ Nam e.a.1 ∧ usb e.a.2.1 e.a.2.2 = true) : atm e = true := by
  unfold atm; exact @decide_eq_true _ (Classical.propDecidable _) h
theorem grp_is {e : Ex} (h : grp e = true) : e.a = z3 ∧ 1 ≤ e.k ∧ e.k ≤ (e.l.length : Int) := of_decide_eq_true h
/-- Is an atom on a list of different atoms; does it conflict with one? -/
def scan : List A3 → A3 → Option Bool
  | [], _ => none
  | b :: r, a => if b = a then some true else if b.1 = a.1 then some false else scan r a
/-- The list with the atom, or the error. -/
def incl (l : List A3) (a : A3) : List A3 × Int :=
  match scan l a with
  | some true => (l, 0)
  | some false => ([], 13)
  | none => if l.length = 8 then ([], 4) else (l ++ [a], 0)
/-- The different atoms behind some nodes, if all is well. -/
noncomputable def vld : List Ex → List A3 → Option (List A3)
  | [], l => some l
  | e :: r, l => if grp e = true then vld r l else if atm e = true then (if (incl l e.a).2 = 0 then vld r (incl l e.a).1 else none) else none
theorem vld_append : ∀ (x y : List Ex) (l : List A3), vld (x ++ y) l = (vld x l).bind (vld y)
  | [], y, l => rfl
  | e :: x, y, l => by
    rw [List.cons_append, vld, vld]
    split
    · exact vld_append x y l
    · split
      · split
        · exact vld_append x y _
        · rfl
      · rfl
/-- A valid expression. -/
def Vex (e : Ex) : Prop := e.dp ≤ 4 ∧ e.cnt ≤ 24 ∧ ∃ l, vld e.pre [] = some l
/-- A request: expression, priority, limit. -/
abbrev R3 := Ex × Int × Int
def Vrq (r : R3) : Prop := Vex r.1 ∧ 0 ≤ r.2.1 ∧ r.2.1 ≤ 7 ∧ 0 ≤ r.2.2 ∧ r.2.2 ≤ 1000

/-! ### The reference's way: first the different atoms, then the conflicts -/
noncomputable def coll : List Ex → List A3 → Option (List A3)
  | [], l => some l
  | e :: r, l => if grp e = true then coll r l else if atm e = true then coll r (@ite _ (e.a ∈ l) (Classical.propDecidable _) l (l ++ [e.a])) else none
theorem coll_append : ∀ (x y : List Ex) (l : List A3), coll (x ++ y) l = (coll x l).bind (coll y)
  | [], y, l => rfl
  | e :: x, y, l => by
    rw [List.cons_append, coll, coll]
    split
    · exact coll_append x y l
    · split
      · exact coll_append x y _
      · rfl
theorem coll_pre : ∀ (x : List Ex) (l m : List A3), coll x l = some m → ∃ t, m = l ++ t
  | [], l, m, h => by
    simp only [coll, Option.some.injEq] at h
    exact ⟨[], by simp [h]⟩
  | e :: x, l, m, h => by
    rw [coll] at h
    split at h
    · exact coll_pre x l m h
    · split at h
      · obtain ⟨t, ht⟩ := coll_pre x _ m h
        split at ht
        · exact ⟨t, ht⟩
        · exact ⟨[e.a] ++ t, by rw [ht, List.append_assoc]⟩
      · cases h
/-- No two have the same name. -/
def Dist (l : List A3) : Prop := l.Pairwise fun a b => a.1 ≠ b.1
theorem scan_cases : ∀ (l : List A3) (a : A3), (scan l a = some true ∧ a ∈ l) ∨ (scan l a = some false ∧ ∃ b ∈ l, b.1 = a.1 ∧ b ≠ a) ∨ (scan l a = none ∧ ∀ b ∈ l, b.1 ≠ a.1)
  | [], a => .inr (.inr ⟨rfl, fun b h => by cases h⟩)
  | c :: l, a => by
    rw [scan]
    by_cases h1 : c = a
    · exact .inl ⟨by rw [if_pos h1], by simp [h1]⟩
    · rw [if_neg h1]
      by_cases h2 : c.1 = a.1
      · exact .inr (.inl ⟨by rw [if_pos h2], c, by simp, h2, h1⟩)
      · rw [if_neg h2]
        rcases scan_cases l a with ⟨g1, g2⟩ | ⟨g1, b, g2, g3⟩ | ⟨g1, g2⟩
        · exact .inl ⟨g1, by simp [g2]⟩
        · exact .inr (.inl ⟨g1, b, by simp [g2], g3⟩)
        · refine .inr (.inr ⟨g1, fun b hb => ?_⟩)
          rcases List.mem_cons.1 hb with rfl | hb
          · exact h2
          · exact g2 b hb
theorem Dist.mem {l : List A3} (h : Dist l) {a b : A3} (ha : a ∈ l) (hb : b ∈ l) (e : a.1 = b.1) : a = b := by
  induction l with
  | nil => cases ha
  | cons c l ih =>
    have h' := List.pairwise_cons.1 h
    rcases List.mem_cons.1 ha with h1 | h1 <;> rcases List.mem_cons.1 hb with h2 | h2
    · rw [h1, h2]
    · rw [h1] at e; exact absurd e (h'.1 b h2)
    · rw [h2] at e; exact absurd e.symm (h'.1 a h1)
    · exact ih h'.2 h1 h2
/-- Both ways are one. -/
theorem vld_coll : ∀ (x : List Ex) (l : List A3), Dist l → l.length ≤ 8 → (∀ m, vld x l = some m → coll x l = some m ∧ Dist m ∧ m.length ≤ 8) ∧ (vld x l = none → ∀ m, coll x l = some m → ¬ (Dist m ∧ m.length ≤ 8))
  | [], l, hd, h8 => ⟨fun m h => by simp only [vld, Option.some.injEq] at h; subst h; exact ⟨rfl, hd, h8⟩, fun h => by simp [vld] at h⟩
  | e :: x, l, hd, h8 => by
    rw [vld, coll]
    by_cases hg : grp e = true
    · rw [if_pos hg, if_pos hg]; exact vld_coll x l hd h8
    · rw [if_neg hg, if_neg hg]
      by_cases ha : atm e = true
      · rw [if_pos ha, if_pos ha]
        rcases scan_cases l e.a with ⟨g1, g2⟩ | ⟨g1, b, g2, g3, g4⟩ | ⟨g1, g2⟩
        · have hi : incl l e.a = (l, 0) := by unfold incl; rw [g1]
          rw [hi, if_pos rfl, if_pos g2]
          exact vld_coll x l hd h8
        · have hi : incl l e.a = ([], 13) := by unfold incl; rw [g1]
          rw [hi, if_neg (by decide)]
          refine ⟨(fun m h => by cases h), fun _ m hm => ?_⟩
          have hne : e.a ∉ l := fun hh => g4 (hd.mem g2 hh g3)
          rw [if_neg hne] at hm
          obtain ⟨t, rfl⟩ := coll_pre _ _ _ hm
          rintro ⟨hD, _⟩
          exact g4 (hD.mem (by simp [g2]) (by simp) g3)
        · have hne : e.a ∉ l := fun hh => g2 _ hh rfl
          rw [if_neg hne]
          by_cases h9 : l.length = 8
          · have hi : incl l e.a = ([], 4) := by unfold incl; rw [g1]; simp [h9]
            rw [hi, if_neg (by decide)]
            refine ⟨(fun m h => by cases h), fun _ m hm => ?_⟩
            obtain ⟨t, rfl⟩ := coll_pre _ _ _ hm
            rintro ⟨_, hl⟩
            simp at hl
            omega
          · have hi : incl l e.a = (l ++ [e.a], 0) := by unfold incl; rw [g1]; simp [h9]
            rw [hi, if_pos rfl]
            refine vld_coll x _ ?_ (by simp; omega)
            unfold Dist
            rw [List.pairwise_append]
            exact ⟨hd, by simp, fun a h1 b h2 => by rw [List.mem_singleton] at h2; subst h2; exact g2 a h1⟩
      · rw [if_neg ha, if_neg ha]
        exact ⟨(fun m h => by cases h), fun _ m h => by cases h⟩
theorem vld_dist {x : List Ex} {m : List A3} (h : vld x [] = some m) : Dist m ∧ m.length ≤ 8 := ((vld_coll x [] List.Pairwise.nil (by simp)).1 m h).2

/-! ### The grammar -/
abbrev wAll : ByteArray := ⟨#[97, 108, 108]⟩
abbrev wAny : ByteArray := ⟨#[97, 110, 121]⟩
abbrev wOf : ByteArray := ⟨#[111, 102]⟩
abbrev wPrio : ByteArray := ⟨#[112, 114, 105, 111]⟩
abbrev wLim : ByteArray := ⟨#[108, 105, 109, 105, 116]⟩
abbrev wOpen : ByteArray := ⟨#[40]⟩
abbrev wCls : ByteArray := ⟨#[41]⟩
abbrev wCom : ByteArray := ⟨#[44]⟩
abbrev wCol : ByteArray := ⟨#[58]⟩
abbrev wStar : ByteArray := ⟨#[42]⟩
/-- Where an expression may begin. -/
def mayB (t : T4) : Bool := decide (t.1 = 3 ∨ (t.1 = 1 ∧ (t.2.1 = wAll ∨ t.2.1 = wAny ∨ rsv t.2.1 = false)))
/-- What a part of the parser answers: what it made, the tokens that are left, the nodes, the atoms; or an offset and an error. -/
inductive PR (α : Type) where
  | ok (x : α) (t : List T4) (n : Nat) (l : List A3)
  | no (p e : Int)
abbrev hd (t : List T4) : T4 := t.headD default
def atEnd (h : T4) (a : A3) (t : List T4) (n : Nat) (l : List A3) : PR Ex :=
  if (incl l a).2 = 0 then .ok (.nd 0 a []) t n (incl l a).1 else .no h.2.2.2 (incl l a).2
/-- An atom, from its name on. -/
def pA (t : List T4) (n : Nat) (l : List A3) : PR Ex :=
  if (hd t.tail).2.1 = wStar then
    (if (hd t.tail.tail).1 = 3 then
      (if 1 ≤ (hd t.tail.tail).2.2.1 ∧ (hd t.tail.tail).2.2.1 ≤ 8 then atEnd (hd t) ((hd t).2.1, 0, (hd t.tail.tail).2.2.1) t.tail.tail.tail n l
       else .no (hd t.tail.tail).2.2.2 12)
     else .no (hd t.tail.tail).2.2.2 8)
  else if (hd t.tail).2.1 = wCol then
    (if (hd t.tail.tail).1 = 2 then atEnd (hd t) ((hd t).2.1, (hd t.tail.tail).2.2.1, 0) t.tail.tail.tail n l
     else .no (hd t.tail.tail).2.2.2 8)
  else .no (hd t.tail).2.2.2 8
def PR.grp (f : List Ex → Int) : PR (List Ex) → PR Ex
  | .ok ks t n l => .ok (.nd (f ks) z3 ks) t n l
  | .no p e => .no p e
def PR.num (v p : Int) : PR (List Ex) → PR Ex
  | .ok ks t n l => if 1 ≤ v ∧ v ≤ (ks.length : Int) then .ok (.nd v z3 ks) t n l else .no p 1
  | .no p e => .no p e
mutual
/-- An expression at a depth; so many nodes have begun. -/
def pE : Nat → Nat → List T4 → Nat → List A3 → PR Ex
  | 0, _, _, _, _ => .no 0 0
  | f + 1, d, t, n, l =>
    if mayB (hd t) = false then .no (hd t).2.2.2 8
    else if 4 < d ∨ 24 < n + 1 then .no (hd t).2.2.2 4
    else if (hd t).2.1 = wAll then (pK f d t.tail (n + 1) l).grp (fun ks => ks.length)
    else if (hd t).2.1 = wAny then (pK f d t.tail (n + 1) l).grp (fun _ => 1)
    else if (hd t).1 = 3 then
      (if (hd t.tail).2.1 = wOf then (pK f d t.tail.tail (n + 1) l).num (hd t).2.2.1 (hd t).2.2.2 else .no (hd t.tail).2.2.2 8)
    else pA t (n + 1) l
/-- The kids, in brackets. -/
def pK : Nat → Nat → List T4 → Nat → List A3 → PR (List Ex)
  | 0, _, _, _, _ => .no 0 0
  | f + 1, d, t, n, l =>
    if (hd t).2.1 = wOpen then
      (match pE f (d + 1) t.tail n l with
       | .ok e t1 n1 l1 => pM f d [e] t1 n1 l1
       | .no p e => .no p e)
    else .no (hd t).2.2.2 8
/-- More kids, up to the bracket. -/
def pM : Nat → Nat → List Ex → List T4 → Nat → List A3 → PR (List Ex)
  | 0, _, _, _, _, _ => .no 0 0
  | f + 1, d, acc, t, n, l =>
    if (hd t).2.1 = wCom then
      (match pE f (d + 1) t.tail n l with
       | .ok e t1 n1 l1 => pM f d (acc ++ [e]) t1 n1 l1
       | .no p e => .no p e)
    else if (hd t).2.1 = wCls then .ok acc t.tail n l
    else .no (hd t).2.2.2 8
end
/-- A word and its number. -/
def pS (w : ByteArray) (g : Int) (t : List T4) : PR Int :=
  if (hd t).2.1 = w then
    (if (hd t.tail).1 = 3 then (if g < (hd t.tail).2.2.1 then .no (hd t.tail).2.2.2 1 else .ok (hd t.tail).2.2.1 t.tail.tail 0 [])
     else .no (hd t.tail).2.2.2 8)
  else .ok 0 t 0 []
inductive QR where
  | ok (r : R3)
  | no (p e : Int)
def pLim (e : Ex) (p : Int) (t : List T4) : QR :=
  match pS wLim 1000 t with
  | .ok m t2 _ _ => if (hd t2).1 = 5 then .ok (e, p, m) else .no (hd t2).2.2.2 8
  | .no p e => .no p e
def pPri (e : Ex) (t : List T4) : QR :=
  match pS wPrio 7 t with
  | .ok p t1 _ _ => pLim e p t1
  | .no p e => .no p e
def pQ (t : List T4) : QR :=
  match pE (t.length + 1) 1 t 0 [] with
  | .ok e t0 _ _ => pPri e t0
  | .no p e => .no p e
/-- What Parse answers. -/
def pR (s : ByteArray) : QR := if (lexR s).2.2 = 0 then pQ (lexR s).1 else .no (lexR s).2.1 (lexR s).2.2
end Go.Proofs.YtohjllnfnkajjaaGreat
