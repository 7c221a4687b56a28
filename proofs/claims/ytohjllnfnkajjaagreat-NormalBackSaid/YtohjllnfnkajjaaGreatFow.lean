/- Rows of bools of the call's own, append. -/
import Derived.Test.YtohjllnfnkajjaaGreatFbo
import Derived.Test.YtohjllnfnkajjaaGreatHeap
namespace Go.Proofs.YtohjllnfnkajjaaGreat
open Go.RowKit
set_option linter.unusedVariables false

abbrev OwnB (w : World) (base : Nat) (v : Value) (l : List Bool) : Prop := w.ownsRow base 4 1 v l.length (bvs l)
theorem OwnB.form {w : World} {base : Nat} {v : Value} {l : List Bool} (h : OwnB w base v l) : ∃ A c, v = .slice A l.length c ∧ l.length ≤ c ∧ BR w A l := by
  rcases h.2 with ⟨rfl, hn⟩ | ⟨g, cap, cur, rfl, hb, hg, hnc, hcm, _, _⟩
  · exact ⟨none, 0, by rw [hn], by omega, fun hx => absurd (List.eq_nil_of_length_eq_zero hn) hx⟩
  · have hlt : g < w.heap.size := (Array.getElem?_eq_some_iff.1 hg).1
    refine ⟨_, cap, rfl, hnc, fun _ => ⟨g, 0, rfl, hlt, fun i hi => ?_⟩⟩
    have := h.cellAt i (by rw [Nat.mul_one]; exact hi)
    rw [Nat.zero_add, this, bvs_at hi]
theorem OwnB.own {w : World} {base : Nat} {v : Value} {l : List Bool} (h : OwnB w base v l) (hne : l ≠ []) :
    ∃ g c, v = .slice (some ⟨g, 0, none⟩) l.length c ∧ base ≤ g ∧ g < w.heap.size ∧ (∀ i, i < l.length → w.cell? ⟨g, i, none⟩ = some (.bool (l.getD i false))) ∧ ∀ o, w.frozen? ⟨g, o, none⟩ = false := by
  rcases h.2 with ⟨rfl, hn⟩ | ⟨g, cap, cur, rfl, hb, hg, hnc, hcm, _, _⟩
  · exact absurd (List.eq_nil_of_length_eq_zero hn) hne
  · have hlt : g < w.heap.size := (Array.getElem?_eq_some_iff.1 hg).1
    refine ⟨g, cap, rfl, hb, hlt, fun i hi => ?_, fun o => by simp [World.frozen?, hg]⟩
    rw [h.cellAt i (by rw [Nat.mul_one]; exact hi), bvs_at hi]
theorem OwnB.set {w : World} {base g n c : Nat} {l : List Bool} (h : OwnB w base (.slice (some ⟨g, 0, none⟩) n c) l) (i : Nat) (v : Bool) : OwnB (w.setCell ⟨g, i, none⟩ (.bool v)) base (.slice (some ⟨g, 0, none⟩) n c) (l.set i v) := by
  have h1 : n = l.length := by
    obtain ⟨A, c', hV, _⟩ := h.form
    injection hV
  subst h1
  have h2 := row_set (p := i) h (.bool v)
  unfold OwnB
  rw [← bvs_set, List.length_set]
  exact h2
theorem Src.bools {w : World} {tx e' : TypeId} (hk : Tryz.prog.underlying tx = some (.slice e')) {A : Option Addr} {ys : List Bool} (c : Nat) (h : BR w A ys) : Src Tryz.prog 1 tx (.slice A ys.length c) ys.length (bvs ys) w := by
  have h1 : ∀ u ∈ bvs ys, u.oneCell' = true := by
    intro u hu
    simp only [bvs, List.mem_map] at hu
    obtain ⟨b, _, rfl⟩ := hu
    rfl
  cases A with
  | none =>
    have hx : ys = [] := by
      rcases ys with _ | ⟨x, r⟩
      · rfl
      · obtain ⟨_, _, h, _⟩ := h (by simp)
        cases h
    subst hx
    exact Src.ofNil w hk c
  | some a =>
    rcases ys with _ | ⟨x, r⟩
    · exact Src.ofSlice w hk a 0 c [] rfl (fun j u h => by simp at h) (fun u h => by cases h)
    · obtain ⟨b, o, hA, _, hc⟩ := h (by simp)
      injection hA with hA
      subst hA
      refine Src.ofSlice w hk _ _ c _ (by rw [bvs_len, Nat.mul_one]) (fun j u hu => ?_) h1
      have hj : j < (x :: r).length := by rw [← bvs_len]; exact (List.getElem?_eq_some_iff.1 hu).1
      rw [bvs_at hj] at hu
      rw [add_at]
      exact (hc j hj).trans hu
theorem app_bools {w : World} {ops : Array Oper} {rest : List Oper} {o : Oper} {a : Act} {Q : Exit → Act → World → Prop} (hgd : Region.wanted o (yielded ops a.tmps) = true) (s y : Operand)
    (ho : o.op = .call { callee := .builtin .append, args := #[s, y], argTypes := #[39, 39] })
    (base : Nat) (V : Value) (xs : List Bool) (A : Option Addr) (ys : List Bool) (n c : Nat) (hn : Hid (ys.length = n)) (hv : a.eval s = V) (hx : a.eval y = .slice A n c)
    (hd : OwnB w base V xs) (hs : BR w A ys) (hlen : Hid (xs.length + n ≤ 1000000)) (hbase : base ≤ w.heap.size)
    (h : ∀ V' w', OwnB w' base V' (xs ++ ys) → Below base w w' → wpList Tryz.prog ops Q rest (a.put o.dst V') w') :
    wpList Tryz.prog ops Q (o :: rest) a w := by
  have hn' := hn.out
  subst hn'
  obtain ⟨i0, hi, hz0, hz1, hz2⟩ := info_parts bool_info
  have hl := hlen.out
  refine wpList_app w hgd s y 39 39 ho base 4 i0 _ 1 1 Tryz.underlying39 hi hz0 hz1 hz2 rfl V xs.length (bvs xs) _ ys.length (bvs ys) hv hx (.inl hd)
    (Src.bools Tryz.underlying39 c hs) (by simp only [maxLen]; omega) (fits_half (by omega)) hbase (fun V' w' h1 h2 h3 h4 => h V' w' ?_ h2)
  unfold OwnB
  rw [List.length_append, bvs, bvs, List.map_append] at *
  exact h1
end Go.Proofs.YtohjllnfnkajjaaGreat
