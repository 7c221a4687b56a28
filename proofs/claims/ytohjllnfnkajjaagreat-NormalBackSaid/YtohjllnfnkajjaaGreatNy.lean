/- Contracts of the reference: simplify. -/
import Derived.Test.YtohjllnfnkajjaaGreatNv
import Derived.Test.YtohjllnfnkajjaaGreatQ1
namespace Go.Proofs.YtohjllnfnkajjaaGreat
open Go.RowKit
set_option linter.unusedVariables false
set_option linter.unusedSimpArgs false

theorem flt_snoc (one all : Bool) (y : Ex) : ∀ l : List Ex, flt one all (l ++ [y]) = flt one all l ++ (if mrg one all y = true then y.l else [y])
  | [] => by rw [List.nil_append, flt, flt, flt, List.append_nil, List.nil_append]
  | x :: r => by rw [List.cons_append, flt, flt_snoc one all y r, flt, List.append_assoc]
theorem ddp_snoc (y : Ex) : ∀ (l acc : List Ex), (y ∈ ddp acc l → ddp acc (l ++ [y]) = ddp acc l) ∧ (¬ y ∈ ddp acc l → ddp acc (l ++ [y]) = ddp acc l ++ [y])
  | [], acc => ⟨fun h => by rw [ddp] at h; rw [List.nil_append, ddp_yes h, ddp], fun h => by rw [ddp] at h; rw [List.nil_append, ddp_no h, ddp, ddp]⟩
  | x :: r, acc => by
    rcases Ex.dec_mem x acc with h | h
    · rw [List.cons_append, ddp_yes h, ddp_yes h]; exact ddp_snoc y r acc
    · rw [List.cons_append, ddp_no h, ddp_no h]; exact ddp_snoc y r _
theorem flt_len {one all : Bool} {l : List Ex} (j : Nat) : (flt one all ((l.take j).map smp)).length ≤ cntL l := by
  have h1 := flt_cnt one all ((l.take j).map smp)
  have h2 := cntL_len (flt one all ((l.take j).map smp))
  have h3 : cntL ((l.take j).map smp) ≤ cntL (l.take j) := by
    generalize l.take j = r
    induction r with
    | nil => exact Nat.le_refl _
    | cons e r ih => rw [List.map_cons, cntL, cntL]; have := smp_cnt e; omega
  have h4 : cntL (l.take j) ≤ cntL l := by
    have h := cntL_append (l.take j) (l.drop j)
    rw [List.take_append_drop] at h
    omega
  omega
theorem ddp_len_le : ∀ (x acc : List Ex), (ddp acc x).length ≤ acc.length + x.length
  | [], acc => by rw [ddp]; simp
  | y :: x, acc => by
    rcases Ex.dec_mem y acc with h | h
    · rw [ddp_yes h, List.length_cons]; have := ddp_len_le x acc; omega
    · rw [ddp_no h, List.length_cons]; have := ddp_len_le x (acc ++ [y]); rw [List.length_append, List.length_singleton] at this; omega
/-- Is it among the first j? -/
noncomputable def amB (y : Ex) (l : List Ex) (j : Nat) : Bool := @decide (y ∈ l.take j) (Classical.propDecidable _)
theorem amB_yes {y : Ex} {l : List Ex} {j : Nat} : amB y l j = true ↔ y ∈ l.take j := @decide_eq_true_iff _ (Classical.propDecidable _)
theorem amB_no {y : Ex} {l : List Ex} {j : Nat} : amB y l j = false ↔ ¬ y ∈ l.take j := by rw [← amB_yes, Bool.not_eq_true]
theorem amB_zero (y : Ex) (l : List Ex) : amB y l 0 = false := by rw [amB_no, List.take_zero]; simp
theorem amB_succ {y : Ex} {l : List Ex} {j : Nat} (hj : j < l.length) : amB y l (j + 1) = (amB y l j || sameB (l.getD j default) y) := by
  rw [Bool.eq_iff_iff, Bool.or_eq_true, amB_yes, amB_yes, sameB_iff, take_snocX hj, List.mem_append, List.mem_singleton]
  exact or_congr Iff.rfl ⟨fun h => h.symm, fun h => h.symm⟩
theorem amB_all {y : Ex} {l : List Ex} : amB y l l.length = true ↔ y ∈ l := by rw [amB_yes, List.take_length]
/-- The kids of a tree, as cells. -/
theorem KRd.rows {D : Nat → Prop} {w : World} {A : Option Addr} {l : List Ex} (h : KRd D w A l) : ∃ us : List XV, us.length = l.length ∧ XRd w A us ∧ ∀ i, i < l.length → TIn D w (us.getD i default) (l.getD i default) := by
  cases h with
  | nil => exact ⟨[], rfl, XRd.nil _ _, fun i hi => by simp at hi⟩
  | row b o _ vs h1 h2 h3 h4 h5 h6 => exact ⟨vs, h3, fun _ => ⟨b, o, rfl, h2, fun i hi => h4 i (by rw [← h3]; exact hi)⟩, fun i hi => ⟨h5 i hi, h6 i hi⟩⟩
theorem XRd.up {w w' : World} {A : Option Addr} {l : List XV} (h : XRd w A l) (hb : Below w.heap.size w w') : XRd w' A l := fun hx => by
  obtain ⟨b, o, hA, hlt, hc⟩ := h hx
  exact ⟨b, o, hA, Nat.lt_of_lt_of_le hlt hb.size, fun i hi => (hc i hi).of (hb.block b hlt)⟩
/-- Trees more than one put behind. -/
theorem KT.appL {lo x : Nat} {V V' : Value} {es ys : List Ex} {vs us : List XV} {w w' : World} (h : KT lo x V es vs w) (hx : x < w.heap.size) (ho : OwnX w' lo V' (vs ++ us)) (hg : w.grownBy w' V.ownBlock) (hn : V'.ownBlock = V.ownBlock ∨ V'.ownBlock = some w.heap.size)
    (hu : us.length = ys.length) (ht : ∀ i, i < ys.length → TIn (fun k => Snc lo w k ∧ V.ownBlock ≠ some k ∧ k ≠ x) w (us.getD i default) (ys.getD i default)) : KT lo x V' (es ++ ys) (vs ++ us) w' := by
  have tr : ∀ {u : XV} {y : Ex}, TIn (fun k => Snc lo w k ∧ V.ownBlock ≠ some k ∧ k ≠ x) w u y → TIn (fun k => Snc lo w' k ∧ V'.ownBlock ≠ some k ∧ k ≠ x) w' u y := fun hu =>
    hu.of (fun k ⟨⟨h1, h2⟩, h4, h5⟩ => ⟨⟨h1, Nat.lt_of_lt_of_le h2 hg.size⟩, fun e => by
      rcases hn with h | h
      · exact h4 (by rw [← h]; exact e)
      · rw [h] at e; injection e with e; omega, h5⟩) (fun k ⟨⟨h1, h2⟩, h4, h5⟩ _ => hg.block k h2 (fun e => h4 e.symm)) hg.size
  refine ⟨ho, by rw [List.length_append, List.length_append, h.len, hu], fun g hg' => ?_, fun i hi => ?_⟩
  · rcases hn with h1 | h1
    · exact h.apart g (by rw [← h1]; exact hg')
    · rw [h1] at hg'
      injection hg' with hg'
      omega
  · rcases Nat.lt_or_ge i es.length with h1 | h1
    · have e1 : (vs ++ us).getD i default = vs.getD i default := by simp [List.getD_eq_getElem?_getD, List.getElem?_append_left (show i < vs.length by rw [h.len]; exact h1)]
      have e2 : (es ++ ys).getD i default = es.getD i default := by simp [List.getD_eq_getElem?_getD, List.getElem?_append_left h1]
      rw [e1, e2]
      exact tr (h.tree i h1)
    · have hi2 : i - es.length < ys.length := by rw [List.length_append] at hi; omega
      have e1 : (vs ++ us).getD i default = us.getD (i - es.length) default := by simp [List.getD_eq_getElem?_getD, List.getElem?_append_right (show vs.length ≤ i by rw [h.len]; exact h1), h.len]
      have e2 : (es ++ ys).getD i default = ys.getD (i - es.length) default := by simp [List.getD_eq_getElem?_getD, List.getElem?_append_right h1]
      rw [e1, e2]
      exact tr (ht _ hi2)
theorem app_ex9 {w : World} {ops : Array Oper} {rest : List Oper} {o : Oper} {a : Act} {Q : Exit → Act → World → Prop} (hgd : Region.wanted o (yielded ops a.tmps) = true) (s y : Operand)
    (ho : o.op = .call { callee := .builtin .append, args := #[s, y], argTypes := #[26, 26] })
    (base : Nat) (V : Value) (xs : List XV) (A : Option Addr) (ys : List XV) (n c : Nat) (hn : Hid (ys.length = n)) (hv : a.eval s = V) (hx : a.eval y = .slice A n c)
    (hd : OwnX w base V xs) (hs : XRd w A ys) (hlen : Hid (xs.length + n ≤ 1000000)) (hbase : base ≤ w.heap.size)
    (h : ∀ V' w', OwnX w' base V' (xs ++ ys) → w.grownBy w' V.ownBlock → (V'.ownBlock = V.ownBlock ∨ V'.ownBlock = some w.heap.size) → wpList Tryz.prog ops Q rest (a.put o.dst V') w') :
    wpList Tryz.prog ops Q (o :: rest) a w := by
  have hn' := hn.out
  subst hn'
  obtain ⟨i0, hi, hz0, hz1, hz2⟩ := info_parts expr_info
  have hl := hlen.out
  refine wpList_app w hgd s y 26 26 ho base 28 i0 _ 5 64 Tryz.underlying26 hi hz0 hz1 hz2 rfl V xs.length (xvs xs) _ ys.length (xvs ys) hv hx (.inl hd)
    (Src.exprs Tryz.underlying26 c hs) (by simp only [maxLen]; omega) (fits_half (by omega)) hbase (fun V' w' h1 h2 h3 h4 => h V' w' ?_ (h3 hd) h4)
  unfold OwnX
  rw [List.length_append, xvs_append]
  exact h1
theorem fin2_fin (k : Int) (one all : Bool) (x m : List Ex) (hm : (if (one || all) = true then ddp [] x else x) = m) : (m.length = 1 → fin2 k one all x = m.getD 0 default) ∧ (m.length ≠ 1 → fin2 k one all x = .nd (if all = true then (m.length : Int) else k) z3 m) := by
  have h := fin2_cases k one all x
  rw [hm] at h
  rcases h with ⟨y, hy, he⟩ | ⟨hne, he⟩
  · refine ⟨fun _ => ?_, fun h => absurd (by rw [hy]; rfl) h⟩
    rw [he, hy]; rfl
  · exact ⟨fun h => absurd h hne, fun _ => he⟩
theorem KRd.grownK {lo x : Nat} {V V' : Value} {w w' : World} {A : Option Addr} {l : List Ex} (h : KRd (fun k => Snc lo w k ∧ V.ownBlock ≠ some k ∧ k ≠ x) w A l) (hg : w.grownBy w' V.ownBlock) (hn : V'.ownBlock = V.ownBlock ∨ V'.ownBlock = some w.heap.size) : KRd (fun k => Snc lo w' k ∧ V'.ownBlock ≠ some k ∧ k ≠ x) w' A l :=
  h.of (fun k ⟨⟨h1, h2⟩, h4, h5⟩ => ⟨⟨h1, Nat.lt_of_lt_of_le h2 hg.size⟩, fun e => by
      rcases hn with h | h
      · exact h4 (by rw [← h]; exact e)
      · rw [h] at e; injection e with e; omega, h5⟩) (fun k ⟨⟨h1, h2⟩, h4, h5⟩ _ => hg.block k h2 (fun e => h4 e.symm)) hg.size
theorem KRd.upK {lo x : Nat} {V : Value} {w w' : World} {A : Option Addr} {l : List Ex} (h : KRd (fun k => Snc lo w k ∧ V.ownBlock ≠ some k ∧ k ≠ x) w A l) (hb : Below w.heap.size w w') : KRd (fun k => Snc lo w' k ∧ V.ownBlock ≠ some k ∧ k ≠ x) w' A l :=
  h.of (fun k ⟨⟨h1, h2⟩, h3⟩ => ⟨⟨h1, Nat.lt_of_lt_of_le h2 hb.size⟩, h3⟩) (fun k ⟨⟨h1, h2⟩, h3⟩ _ => hb.block k h2) hb.size
end Go.Proofs.YtohjllnfnkajjaaGreat
