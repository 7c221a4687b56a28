/- Minimal sets, duals, implication, simplified expressions, expressions of sets, in plain words. Nothing here speaks of a program. Duals, implication, valid expressions over known atoms, in plain words. Nothing here speaks of a program. Simplified expressions in plain words. Nothing here speaks of a program. Implication, expressions of sets, in plain words. Nothing here speaks of a program. Operations on bits of small numbers. -/
import Derived.Test.YtohjllnfnkajjaaGreatFpt
import Derived.Test.YtohjllnfnkajjaaGreatFbo
namespace Go.Proofs.YtohjllnfnkajjaaGreat
open Go.RowKit
set_option linter.unusedVariables false

/-! ### Sets as numbers -/
def bitS (n b : Nat) : List Bool := (List.range n).map fun i => b.testBit i
def bitL (n b : Nat) : List Nat := (List.range n).filter fun i => b.testBit i
theorem bitS_len (n b : Nat) : (bitS n b).length = n := by simp [bitS]
theorem bitS_at (n b i : Nat) : (bitS n b).getD i false = (decide (i < n) && b.testBit i) := map_getD n _ i
theorem bitL_mem {n b i : Nat} : i ∈ bitL n b ↔ i < n ∧ b.testBit i = true := by simp [bitL]
theorem bitL_len (n b : Nat) : (bitL n b).length ≤ n := by
  have := List.length_filter_le (fun i => b.testBit i) (List.range n)
  rw [List.length_range] at this
  exact this
theorem bitL_succ (n b : Nat) : bitL (n + 1) b = bitL n b ++ (if b.testBit n = true then [n] else []) := by
  unfold bitL
  rw [List.range_succ, List.filter_append]
  congr 1
  by_cases h : b.testBit n = true <;> simp [h]
theorem bits_ex : ∀ T : List Bool, ∃ b, b < 2 ^ T.length ∧ ∀ i, i < T.length → b.testBit i = T.getD i false
  | [] => ⟨0, by simp, fun i h => by simp at h⟩
  | x :: r => by
    obtain ⟨b, hb, hi⟩ := bits_ex r
    refine ⟨2 * b + x.toNat, ?_, fun i h => ?_⟩
    · rw [List.length_cons, Nat.pow_succ]
      cases x <;> simp <;> omega
    · cases i with
      | zero =>
        rw [Nat.testBit_zero]
        cases x <;> simp <;> omega
      | succ i =>
        rw [Nat.testBit_succ, show (2 * b + x.toNat) / 2 = b by cases x <;> simp <;> omega, hi i (by simpa using h)]
        rfl
theorem bits_inj {n b c : Nat} (hb : b < 2 ^ n) (hc : c < 2 ^ n) (h : ∀ i, i < n → b.testBit i = c.testBit i) : b = c := by
  refine Nat.eq_of_testBit_eq fun i => ?_
  by_cases hi : i < n
  · exact h i hi
  · rw [Nat.testBit_lt_two_pow (Nat.lt_of_lt_of_le hb (Nat.pow_le_pow_right (by omega) (by omega))), Nat.testBit_lt_two_pow (Nat.lt_of_lt_of_le hc (Nat.pow_le_pow_right (by omega) (by omega)))]
theorem bitL_inj {n b c : Nat} (hb : b < 2 ^ n) (hc : c < 2 ^ n) (h : bitL n b = bitL n c) : b = c := by
  refine bits_inj hb hc fun i hi => ?_
  have h1 : i ∈ bitL n b ↔ i ∈ bitL n c := by rw [h]
  rw [bitL_mem, bitL_mem] at h1
  rw [Bool.eq_iff_iff]
  constructor
  · intro h2; exact (h1.1 ⟨hi, h2⟩).2
  · intro h2; exact (h1.2 ⟨hi, h2⟩).2
/-! ### The order of sets -/
def lexB : List Nat → List Nat → Bool
  | a :: r, b :: s => if a = b then lexB r s else decide (a < b)
  | _, _ => false
def lessB (a b : List Nat) : Bool := if a.length = b.length then lexB a b else decide (a.length < b.length)
theorem lexB_irr : ∀ a, lexB a a = false
  | [] => rfl
  | a :: r => by rw [lexB, if_pos rfl, lexB_irr r]
theorem lexB_trans : ∀ {a b c : List Nat}, lexB a b = true → lexB b c = true → lexB a c = true
  | [], _, _, h, _ => by rw [lexB] at h; cases h; simp
  | _ :: _, [], _, h, _ => by rw [lexB] at h; cases h; simp
  | _ :: _, _ :: _, [], _, h => by rw [lexB] at h; cases h; simp
  | x :: a, y :: b, z :: c, h, k => by
    rw [lexB] at h k ⊢
    by_cases h1 : x = y
    · subst h1
      rw [if_pos rfl] at h
      by_cases h2 : x = z
      · subst h2
        rw [if_pos rfl] at k ⊢
        exact lexB_trans h k
      · rw [if_neg h2] at k ⊢; exact k
    · rw [if_neg h1] at h
      have h := of_decide_eq_true h
      by_cases h2 : y = z
      · subst h2
        rw [if_neg h1]
        exact decide_eq_true h
      · rw [if_neg h2] at k
        have k := of_decide_eq_true k
        rw [if_neg (by omega)]
        exact decide_eq_true (by omega)
theorem lexB_total : ∀ {a b : List Nat}, a.length = b.length → a ≠ b → lexB a b = true ∨ lexB b a = true
  | [], [], _, h => absurd rfl h
  | [], _ :: _, h, _ => by simp at h
  | _ :: _, [], h, _ => by simp at h
  | x :: a, y :: b, h, hne => by
    rw [lexB, lexB]
    by_cases h1 : x = y
    · subst h1
      rw [if_pos rfl, if_pos rfl]
      exact lexB_total (by simpa using h) (fun e => hne (by rw [e]))
    · rw [if_neg h1, if_neg (Ne.symm h1)]
      rcases Nat.lt_or_ge x y with h2 | h2
      · exact .inl (decide_eq_true h2)
      · exact .inr (decide_eq_true (by omega))
theorem lessB_irr (a : List Nat) : lessB a a = false := by unfold lessB; rw [if_pos rfl, lexB_irr]
theorem lessB_trans {a b c : List Nat} (h : lessB a b = true) (k : lessB b c = true) : lessB a c = true := by
  unfold lessB at h k ⊢
  by_cases h1 : a.length = b.length
  · rw [if_pos h1] at h
    by_cases h2 : b.length = c.length
    · rw [if_pos h2] at k
      rw [if_pos (by omega)]
      exact lexB_trans h k
    · rw [if_neg h2] at k
      rw [if_neg (by omega), h1]
      exact k
  · rw [if_neg h1] at h
    have h := of_decide_eq_true h
    by_cases h2 : b.length = c.length
    · rw [if_neg (by omega)]
      exact decide_eq_true (by omega)
    · rw [if_neg h2] at k
      have k := of_decide_eq_true k
      rw [if_neg (by omega)]
      exact decide_eq_true (by omega)
theorem lessB_total {a b : List Nat} (hne : a ≠ b) : lessB a b = true ∨ lessB b a = true := by
  unfold lessB
  by_cases h1 : a.length = b.length
  · rw [if_pos h1, if_pos h1.symm]
    exact lexB_total h1 hne
  · rw [if_neg h1, if_neg (Ne.symm h1)]
    rcases Nat.lt_or_ge a.length b.length with h2 | h2
    · exact .inl (decide_eq_true h2)
    · exact .inr (decide_eq_true (by omega))
abbrev Srt (X : List (List Nat)) : Prop := X.Pairwise fun a b => lessB a b = true
/-- Sorted lists of the same sets are one. -/
theorem srt_uniq : ∀ {X Y : List (List Nat)}, Srt X → Srt Y → (∀ s, s ∈ X ↔ s ∈ Y) → X = Y
  | [], [], _, _, _ => rfl
  | [], y :: Y, _, _, h => by have := (h y).2 (by simp); cases this
  | x :: X, [], _, _, h => by have := (h x).1 (by simp); cases this
  | x :: X, y :: Y, hX, hY, h => by
    have hX' := List.pairwise_cons.1 hX
    have hY' := List.pairwise_cons.1 hY
    have hxy : x = y := by
      rcases List.mem_cons.1 ((h x).1 (by simp)) with e | e
      · exact e
      · rcases List.mem_cons.1 ((h y).2 (by simp)) with e2 | e2
        · exact e2.symm
        · have h1 := lessB_trans (hX'.1 y e2) (hY'.1 x e)
          rw [lessB_irr] at h1
          cases h1
    subst hxy
    have hnX : x ∉ X := fun hm => by have := hX'.1 x hm; rw [lessB_irr] at this; cases this
    have hnY : x ∉ Y := fun hm => by have := hY'.1 x hm; rw [lessB_irr] at this; cases this
    rw [srt_uniq hX'.2 hY'.2 (fun s => ?_)]
    constructor
    · intro hs
      rcases List.mem_cons.1 ((h s).1 (by simp [hs])) with e | e
      · subst e; exact absurd hs hnX
      · exact e
    · intro hs
      rcases List.mem_cons.1 ((h s).2 (by simp [hs])) with e | e
      · subst e; exact absurd hs hnY
      · exact e
/-! ### Minimal sets -/
/-- Is the set of the bits one of the smallest for which f holds? -/
def minB (f : List Bool → Bool) (n b : Nat) : Bool := f (bitS n b) && (List.range n).all fun i => !(b.testBit i && f ((bitS n b).set i false))
/-- The sorted list of the smallest sets. -/
def MinOf (f : List Bool → Bool) (n : Nat) (X : List (List Nat)) : Prop := Srt X ∧ ∀ s, s ∈ X ↔ ∃ b, b < 2 ^ n ∧ minB f n b = true ∧ s = bitL n b
theorem MinOf.uniq {f : List Bool → Bool} {n : Nat} {X Y : List (List Nat)} (h : MinOf f n X) (k : MinOf f n Y) : X = Y := srt_uniq h.1 k.1 fun s => (h.2 s).trans (k.2 s).symm
theorem MinOf.congr {f g : List Bool → Bool} {n : Nat} {X : List (List Nat)} (hfg : ∀ S, S.length = n → f S = g S) (h : MinOf f n X) : MinOf g n X := by
  refine ⟨h.1, fun s => (h.2 s).trans ?_⟩
  have : ∀ b, minB f n b = minB g n b := fun b => by
    unfold minB
    rw [hfg _ (bitS_len n b)]
    congr 1
    refine congrArg (fun p => (List.range n).all p) (funext fun i => ?_)
    rw [hfg _ (by rw [List.length_set, bitS_len])]
  simp only [this]
/-- The part of the list that the numbers below m give. -/
def MinUp (f : List Bool → Bool) (n m : Nat) (X : List (List Nat)) : Prop := Srt X ∧ ∀ s, s ∈ X ↔ ∃ b, b < m ∧ minB f n b = true ∧ s = bitL n b
theorem MinUp.zero (f : List Bool → Bool) (n : Nat) : MinUp f n 0 [] := ⟨List.Pairwise.nil, fun s => by simp⟩
theorem MinUp.skip {f : List Bool → Bool} {n m : Nat} {X : List (List Nat)} (h : MinUp f n m X) (hm : minB f n m = false) : MinUp f n (m + 1) X := by
  refine ⟨h.1, fun s => (h.2 s).trans ?_⟩
  constructor
  · rintro ⟨b, h1, h2, h3⟩; exact ⟨b, by omega, h2, h3⟩
  · rintro ⟨b, h1, h2, h3⟩
    by_cases hb : b = m
    · subst hb; rw [hm] at h2; cases h2
    · exact ⟨b, by omega, h2, h3⟩
/-- One more set, put where it belongs. -/
theorem MinUp.put {f : List Bool → Bool} {n m : Nat} {A B : List (List Nat)} (h : MinUp f n m (A ++ B)) (hm : minB f n m = true) (hn : m < 2 ^ n) (hB : ∀ t ∈ B, lessB (bitL n m) t = true) (hA : ∀ t ∈ A.getLast?, lessB (bitL n m) t = false) : MinUp f n (m + 1) (A ++ bitL n m :: B) := by
  have hnew : bitL n m ∉ A ++ B := fun hmem => by
    obtain ⟨b, h1, h2, h3⟩ := (h.2 _).1 hmem
    have := bitL_inj hn (by omega) h3
    omega
  obtain ⟨p1, p2, p3⟩ := List.pairwise_append.1 h.1
  have hlast : ∀ t ∈ A, lessB t (bitL n m) = true := by
    intro t ht
    rcases List.eq_nil_or_concat A with rfl | ⟨A', u, rfl⟩
    · cases ht
    · have hu : lessB (bitL n m) u = false := hA u (by simp)
      have hun : u ≠ bitL n m := by rintro rfl; exact hnew (by simp)
      have hu2 : lessB u (bitL n m) = true := by
        rcases lessB_total hun with h1 | h1
        · exact h1
        · rw [hu] at h1; cases h1
      rw [List.concat_eq_append] at ht p1
      rcases List.mem_append.1 ht with h1 | h1
      · exact lessB_trans ((List.pairwise_append.1 p1).2.2 t h1 u (by simp)) hu2
      · rw [List.mem_singleton.1 h1]; exact hu2
  refine ⟨List.pairwise_append.2 ⟨p1, List.pairwise_cons.2 ⟨hB, p2⟩, fun t ht u hu => ?_⟩, fun s => ?_⟩
  · rcases List.mem_cons.1 hu with rfl | hu
    · exact hlast t ht
    · exact p3 t ht u hu
  · have h0 := h.2 s
    rw [List.mem_append] at h0
    rw [List.mem_append, List.mem_cons]
    constructor
    · rintro (h1 | rfl | h1)
      · obtain ⟨b, a1, a2, a3⟩ := h0.1 (.inl h1); exact ⟨b, by omega, a2, a3⟩
      · exact ⟨m, by omega, hm, rfl⟩
      · obtain ⟨b, a1, a2, a3⟩ := h0.1 (.inr h1); exact ⟨b, by omega, a2, a3⟩
    · rintro ⟨b, a1, a2, rfl⟩
      by_cases hb : b = m
      · subst hb; exact .inr (.inl rfl)
      · rcases h0.2 ⟨b, by omega, a2, rfl⟩ with h1 | h1
        · exact .inl h1
        · exact .inr (.inr h1)
theorem minB_iff {f : List Bool → Bool} {n b : Nat} : minB f n b = true ↔ f (bitS n b) = true ∧ ∀ i, i < n → b.testBit i = true → f ((bitS n b).set i false) = false := by
  unfold minB
  rw [Bool.and_eq_true, List.all_eq_true]
  constructor
  · rintro ⟨h1, h2⟩
    refine ⟨h1, fun i hi hb => ?_⟩
    have := h2 i (List.mem_range.2 hi)
    rw [hb, Bool.true_and, Bool.not_eq_true'] at this
    exact this
  · rintro ⟨h1, h2⟩
    refine ⟨h1, fun i hi => ?_⟩
    cases hb : b.testBit i with
    | false => rfl
    | true => rw [h2 i (List.mem_range.1 hi) hb]; rfl
theorem set_in {X : List Bool} {i j : Nat} : (X.set i false).getD j false = (X.getD j false && !decide (i = j)) := by
  rw [set_getD]
  by_cases h : i = j
  · rw [if_pos h]; simp [h]
  · rw [if_neg h]; simp [h]
/-- An expression holds for a set exactly if a minimal set lies within. -/
theorem covers {e : Ex} {L : List A3} {X : List (List Nat)} (hX : MinOf (e.hld L) L.length X) (S : List Bool) : e.hld L S = true ↔ ∃ s ∈ X, ∀ i ∈ s, S.getD i false = true := by
  constructor
  · intro h
    have h1 : e.hld L (cutS L.length S) = true := by rw [cutS_hld]; exact h
    obtain ⟨T, hT⟩ : ∃ T, T = prnG e L L.length (cutS L.length S) := ⟨_, rfl⟩
    have hl : T.length = L.length := by rw [hT, prnG_len]; simp [cutS]
    obtain ⟨b, hb, hbi⟩ := bits_ex T
    rw [hl] at hb
    have hbT : bitS L.length b = T := by
      refine List.ext_getElem (by rw [bitS_len, hl]) fun i h1 h2 => ?_
      have h3 := hbi i h2
      rw [List.getD_eq_getElem?_getD, List.getElem?_eq_getElem h2] at h3
      simp only [Option.getD_some] at h3
      rw [← h3]
      simp [bitS]
    refine ⟨bitL L.length b, (hX.2 _).2 ⟨b, hb, minB_iff.2 ⟨by rw [hbT, hT]; exact prnG_hld _ _ h1, fun i hi hbit => ?_⟩, rfl⟩, fun i hi => ?_⟩
    · rw [hbT, hT]
      refine prnG_min _ _ i hi ?_
      rw [← hT, ← hbi i (by omega)]
      exact hbit
    · obtain ⟨hi1, hi2⟩ := bitL_mem.1 hi
      rw [hbi i (by omega), hT] at hi2
      have := prnG_sub e L _ _ i hi2
      unfold cutS at this
      rw [map_getD, decide_eq_true hi1, Bool.true_and] at this
      exact this
  · rintro ⟨s, hs, hsub⟩
    obtain ⟨b, hb, hm, rfl⟩ := (hX.2 s).1 hs
    refine hld_mono (fun i hi => ?_) e (minB_iff.1 hm).1
    rw [bitS_at, Bool.and_eq_true, decide_eq_true_iff] at hi
    exact hsub i (bitL_mem.2 hi)
end Go.Proofs.YtohjllnfnkajjaaGreat

namespace Go.Proofs.YtohjllnfnkajjaaGreat
open Go.RowKit
set_option linter.unusedVariables false

/-! ### Valid over known atoms -/
theorem dist_sub_len : ∀ {l M : List A3}, Dist l → (∀ a ∈ l, a ∈ M) → l.length ≤ M.length
  | [], M, _, _ => by simp
  | a :: l, M, hd, h => by
    have hd' := List.pairwise_cons.1 hd
    obtain ⟨A, B, rfl⟩ := List.append_of_mem (h a (by simp))
    have h2 : l.length ≤ (A ++ B).length := dist_sub_len hd'.2 (fun b hb => by
      have h3 := h b (by simp [hb])
      rw [List.mem_append, List.mem_cons] at h3
      rw [List.mem_append]
      rcases h3 with h3 | h3 | h3
      · exact .inl h3
      · subst h3; exact absurd rfl (hd'.1 b hb)
      · exact .inr h3)
    rw [List.length_append] at h2
    rw [List.length_append, List.length_cons, List.length_cons]
    omega
theorem dist_snoc {l : List A3} {a : A3} (h : Dist l) (hn : ∀ b ∈ l, b.1 ≠ a.1) : Dist (l ++ [a]) :=
  List.pairwise_append.2 ⟨h, List.pairwise_singleton _ _, fun b hb c hc => by rw [List.mem_singleton.1 hc]; exact hn b hb⟩
theorem vld_over {M : List A3} (hM : Dist M) (h8 : M.length ≤ 8) : ∀ (x : List Ex) (l : List A3), (∀ f ∈ x, grp f = true ∨ (atm f = true ∧ f.a ∈ M)) → Dist l → (∀ a ∈ l, a ∈ M) → ∃ m, vld x l = some m ∧ Dist m ∧ ∀ a ∈ m, a ∈ M
  | [], l, _, hd, hs => ⟨l, rfl, hd, hs⟩
  | e :: x, l, hx, hd, hs => by
    have hx' := fun f hf => hx f (List.mem_cons_of_mem _ hf)
    rw [vld]
    rcases hx e (by simp) with hg | ⟨ha, hm⟩
    · rw [if_pos hg]; exact vld_over hM h8 x l hx' hd hs
    · by_cases hg : grp e = true
      · rw [if_pos hg]; exact vld_over hM h8 x l hx' hd hs
      · rw [if_neg hg, if_pos ha]
        rcases scan_cases l e.a with ⟨g1, g2⟩ | ⟨g1, b, g2, g3, g4⟩ | ⟨g1, g2⟩
        · have hi : incl l e.a = (l, 0) := by unfold incl; rw [g1]
          rw [hi, if_pos rfl]
          exact vld_over hM h8 x l hx' hd hs
        · exact absurd (hM.mem (hs b g2) hm g3) g4
        · have hd2 := dist_snoc hd g2
          have hs2 : ∀ a ∈ l ++ [e.a], a ∈ M := fun a h => by
            rcases List.mem_append.1 h with h | h
            · exact hs a h
            · rw [List.mem_singleton.1 h]; exact hm
          have hl := dist_sub_len hd2 hs2
          rw [List.length_append, List.length_singleton] at hl
          have hi : incl l e.a = (l ++ [e.a], 0) := by
            unfold incl; rw [g1]; simp only; rw [if_neg (by omega)]
          rw [hi, if_pos rfl]
          exact vld_over hM h8 x _ hx' hd2 hs2
theorem vex_over {M : List A3} {e : Ex} (hM : Dist M) (h8 : M.length ≤ 8) (hg : GoodE M e) (hd : e.dp ≤ 4) (hc : e.cnt ≤ 24) : Vex e := by
  obtain ⟨m, h1, _, _⟩ := vld_over hM h8 e.pre [] hg List.Pairwise.nil (fun a h => by cases h)
  exact ⟨hd, hc, m, h1⟩
/-- A valid expression's list holds each atom of it, and no other. -/
theorem vld_from : ∀ (x : List Ex) (l m : List A3), vld x l = some m → ∀ a ∈ m, a ∈ l ∨ ∃ f ∈ x, atm f = true ∧ f.a = a
  | [], l, m, h, a, ha => by
    simp only [vld, Option.some.injEq] at h
    subst h
    exact .inl ha
  | e :: x, l, m, h, a, ha => by
    rw [vld] at h
    split at h
    · rcases vld_from x l m h a ha with h1 | ⟨f, h1, h2⟩
      · exact .inl h1
      · exact .inr ⟨f, by simp [h1], h2⟩
    · split at h
      · rename_i hat
        split at h
        · rename_i h0
          rcases vld_from x _ m h a ha with h1 | ⟨f, h1, h2⟩
          · have hin : a ∈ l ∨ a = e.a := by
              unfold incl at h0 h1
              rcases scan_cases l e.a with ⟨g1, g2⟩ | ⟨g1, b, g2, g3, g4⟩ | ⟨g1, g2⟩
              · rw [g1] at h1; exact .inl h1
              · rw [g1] at h0; cases h0
              · rw [g1] at h0 h1
                by_cases h8 : l.length = 8
                · rw [if_pos h8] at h0; cases h0
                · simp only [if_neg h8] at h1
                  rcases List.mem_append.1 h1 with h1 | h1
                  · exact .inl h1
                  · exact .inr (List.mem_singleton.1 h1)
            rcases hin with h1 | h1
            · exact .inl h1
            · exact .inr ⟨e, by simp, hat, h1.symm⟩
          · exact .inr ⟨f, by simp [h1], h2⟩
        · cases h
      · cases h
/-! ### Trees of good nodes -/
/-- Each node is a group or an atom. -/
def Wf (e : Ex) : Prop := ∀ f ∈ e.pre, grp f = true ∨ atm f = true
theorem GoodE.wf {L : List A3} {e : Ex} (h : GoodE L e) : Wf e := fun f hf => (h f hf).imp id (fun h => h.1)
theorem mem_preL {f e : Ex} {l : List Ex} (he : e ∈ l) (hf : f ∈ e.pre) : f ∈ preL l := by
  induction l with
  | nil => cases he
  | cons g r ih =>
    rw [preL, List.mem_append]
    rcases List.mem_cons.1 he with rfl | h
    · exact .inl hf
    · exact .inr (ih h)
theorem preL_mem {f : Ex} : ∀ {l : List Ex}, f ∈ preL l → ∃ e ∈ l, f ∈ e.pre
  | [], h => by rw [preL] at h; cases h
  | e :: r, h => by
    rw [preL, List.mem_append] at h
    rcases h with h | h
    · exact ⟨e, by simp, h⟩
    · obtain ⟨g, h1, h2⟩ := preL_mem h
      exact ⟨g, by simp [h1], h2⟩
theorem Wf.kid {k : Int} {a : A3} {l : List Ex} (h : Wf (.nd k a l)) {e : Ex} (he : e ∈ l) : Wf e := fun f hf => h f (by rw [Ex.pre]; exact List.mem_cons_of_mem _ (mem_preL he hf))
theorem Wf.self {k : Int} {a : A3} {l : List Ex} (h : Wf (.nd k a l)) : grp (.nd k a l) = true ∨ atm (.nd k a l) = true := h _ (by rw [Ex.pre]; simp)
/-- A node: either an atom without kids, or a group. -/
theorem Wf.cases {k : Int} {a : A3} {l : List Ex} (h : Wf (.nd k a l)) : (k = 0 ∧ l = []) ∨ (a = z3 ∧ 1 ≤ k ∧ k ≤ (l.length : Int)) := by
  rcases h.self with hg | ha
  · exact .inr (grp_is hg)
  · obtain ⟨h0, h1, _⟩ := atm_is ha
    exact .inl ⟨h0, h1⟩
theorem good_of {L : List A3} {k : Int} {l : List Ex} (h1 : 1 ≤ k) (h2 : k ≤ (l.length : Int)) (h : ∀ e ∈ l, GoodE L e) : GoodE L (.nd k z3 l) := fun f hf => by
  rw [Ex.pre] at hf
  rcases List.mem_cons.1 hf with rfl | hf
  · exact .inl (decide_eq_true ⟨rfl, h1, h2⟩)
  · obtain ⟨e, he, hfe⟩ := preL_mem hf
    exact h e he f hfe
/-! ### Duals -/
mutual
def dual : Ex → Ex
  | .nd k a l => if k = 0 then .nd k a l else .nd ((l.length : Int) - k + 1) z3 (dualL l)
def dualL : List Ex → List Ex
  | [] => []
  | e :: r => dual e :: dualL r
end
theorem dualL_map : ∀ l : List Ex, dualL l = l.map dual
  | [] => by rw [dualL]; rfl
  | e :: r => by rw [dualL, dualL_map r]; rfl
theorem dualL_len (l : List Ex) : (dualL l).length = l.length := by rw [dualL_map, List.length_map]
theorem dual_good {L : List A3} : ∀ e : Ex, GoodE L e → GoodE L (dual e) := by
  refine Ex.ind fun k a l ih => ?_
  intro h
  rw [dual]
  rcases h.wf.cases with ⟨hk, hl⟩ | ⟨ha, h1, h2⟩
  · rw [if_pos hk]; exact h
  · rw [if_neg (by omega)]
    refine good_of (by omega) (by rw [dualL_len]; omega) (fun e he => ?_)
    rw [dualL_map] at he
    obtain ⟨f, hf, rfl⟩ := List.mem_map.1 he
    exact ih f hf (h.kid hf)
theorem cntL_map {f : Ex → Ex} : ∀ {l : List Ex}, (∀ e ∈ l, (f e).cnt = e.cnt) → cntL (l.map f) = cntL l
  | [], _ => rfl
  | e :: r, h => by rw [List.map_cons, cntL, cntL, h e (by simp), cntL_map (l := r) (fun g hg => h g (by simp [hg]))]
theorem dpL_map {f : Ex → Ex} : ∀ {l : List Ex}, (∀ e ∈ l, (f e).dp = e.dp) → dpL (l.map f) = dpL l
  | [], _ => rfl
  | e :: r, h => by rw [List.map_cons, dpL, dpL, h e (by simp), dpL_map (l := r) (fun g hg => h g (by simp [hg]))]
theorem dual_cnt : ∀ e : Ex, (dual e).cnt = e.cnt := by
  refine Ex.ind fun k a l ih => ?_
  rw [dual]
  split
  · rfl
  · rw [Ex.cnt, Ex.cnt, dualL_map, cntL_map ih]
theorem dual_dp : ∀ e : Ex, (dual e).dp = e.dp := by
  refine Ex.ind fun k a l ih => ?_
  rw [dual]
  split
  · rfl
  · rw [Ex.dp, Ex.dp, dualL_map, dpL_map ih]
theorem vld_grp9 {f : Ex} {x : List Ex} {l : List A3} (h : grp f = true) : vld (f :: x) l = vld x l := by rw [vld, if_pos h]
theorem vld_map {f : Ex → Ex} : ∀ {x : List Ex}, (∀ e ∈ x, ∀ l, vld (f e).pre l = vld e.pre l) → ∀ l, vld (preL (x.map f)) l = vld (preL x) l
  | [], _, l => rfl
  | e :: r, h, l => by
    rw [List.map_cons, preL, preL, vld_append, vld_append, h e (by simp)]
    cases vld e.pre l with
    | none => rfl
    | some m => exact vld_map (x := r) (fun g hg => h g (by simp [hg])) m
theorem dual_vld : ∀ e : Ex, Wf e → ∀ l, vld (dual e).pre l = vld e.pre l := by
  refine Ex.ind fun k a l ih => ?_
  intro h q
  rw [dual]
  rcases h.cases with ⟨hk, hl⟩ | ⟨ha, h1, h2⟩
  · rw [if_pos hk]
  · rw [if_neg (by omega), Ex.pre, Ex.pre, vld_grp9 (decide_eq_true ⟨rfl, by show 1 ≤ (l.length : Int) - k + 1; omega, by show (l.length : Int) - k + 1 ≤ ((dualL l).length : Int); rw [dualL_len]; omega⟩), vld_grp9 (f := .nd k a l) (decide_eq_true ⟨ha, h1, h2⟩), dualL_map, vld_map (fun e he => ih e he (h.kid he))]
theorem VL.dual {e : Ex} {L : List A3} (h : VL e L) : VL (dual e) L := by
  have hv := dual_vld e h.good.wf []
  exact ⟨⟨by rw [dual_dp]; exact h.1.1, by rw [dual_cnt]; exact h.1.2.1, L, by rw [hv]; exact h.2⟩, by rw [hv]; exact h.2⟩
theorem map_self {f : Ex → Ex} : ∀ {l : List Ex}, (∀ e ∈ l, f e = e) → l.map f = l
  | [], _ => rfl
  | e :: r, h => by rw [List.map_cons, h e (by simp), map_self (l := r) (fun g hg => h g (by simp [hg]))]
theorem dual_dual : ∀ e : Ex, Wf e → dual (dual e) = e := by
  refine Ex.ind fun k a l ih => ?_
  intro h
  rcases h.cases with ⟨hk, hl⟩ | ⟨ha, h1, h2⟩
  · rw [dual, if_pos hk, dual, if_pos hk]
  · rw [dual, if_neg (by omega), dual, if_neg (by omega), dualL_len, dualL_map, dualL_map, List.map_map, map_self (f := dual ∘ dual) (fun e he => ih e he (h.kid he)), ha]
    congr 1
    omega
theorem truL_neg {p q : A3 → Bool} : ∀ {l : List Ex}, (∀ e ∈ l, (dual e).tru p = !e.tru q) → truL p (l.map dual) + truL q l = l.length
  | [], _ => by simp [truL]
  | e :: r, h => by
    rw [List.map_cons, truL, truL, List.length_cons, h e (by simp)]
    have := truL_neg (l := r) (fun g hg => h g (by simp [hg]))
    cases e.tru q <;> simp <;> omega
/-- A dual holds exactly where the expression does not hold for the complement. -/
theorem dual_tru {p q : A3 → Bool} (hpq : ∀ a, p a = !q a) : ∀ e : Ex, Wf e → (dual e).tru p = !e.tru q := by
  refine Ex.ind fun k a l ih => ?_
  intro h
  rcases h.cases with ⟨hk, hl⟩ | ⟨ha, h1, h2⟩
  · rw [dual, if_pos hk, Ex.tru, if_pos hk, Ex.tru, if_pos hk]; exact hpq a
  · rw [dual, if_neg (by omega), Ex.tru, if_neg (by omega), Ex.tru, if_neg (by omega), dualL_map]
    have := truL_neg (l := l) (fun e he => ih e he (h.kid he))
    rw [Bool.eq_iff_iff, decide_eq_true_iff, Bool.not_eq_true', decide_eq_false_iff_not]
    omega
theorem tru_of {e : Ex} {L : List A3} (h : VL e L) (S : List Bool) : e.hld L S = e.tru (inS L S) := (tru_hld (fun a _ => rfl) e h.good).symm
theorem tru_congr {p q : A3 → Bool} : ∀ e : Ex, (∀ f ∈ e.pre, p f.a = q f.a) → e.tru p = e.tru q := by
  refine Ex.ind fun k a l ih => ?_
  intro h
  rw [Ex.tru, Ex.tru]
  split
  · exact h (.nd k a l) (by rw [Ex.pre]; simp)
  · have : ∀ m : List Ex, (∀ e ∈ m, e ∈ l) → truL p m = truL q m := by
      intro m
      induction m with
      | nil => intro _; rw [truL, truL]
      | cons e r ihr =>
        intro hm
        rw [truL, truL, ih e (hm e (by simp)) (fun f hf => h f (by rw [Ex.pre]; exact List.mem_cons_of_mem _ (mem_preL (hm e (by simp)) hf))), ihr (fun g hg => hm g (by simp [hg]))]
    rw [this l (fun _ h => h)]
theorem tru_hld_eq9 {L : List A3} {p q : A3 → Bool} (hpq : ∀ a ∈ L, p a = q a) (e : Ex) (hg : GoodE L e) : e.tru p = e.tru q := by
  have key : ∀ e : Ex, GoodE L e → e.tru p = e.tru q := by
    refine Ex.ind fun k a l ih => ?_
    intro h
    rw [Ex.tru, Ex.tru]
    by_cases hk : k = 0
    · rw [if_pos hk, if_pos hk]
      rcases h.self with hg | ⟨_, hm⟩
      · obtain ⟨_, h1, _⟩ := grp_is hg
        have h1' : 1 ≤ k := h1
        omega
      · exact hpq a hm
    · rw [if_neg hk, if_neg hk]
      have : ∀ m : List Ex, (∀ e ∈ m, e ∈ l) → truL p m = truL q m := by
        intro m
        induction m with
        | nil => intro _; rw [truL, truL]
        | cons e r ihr =>
          intro hm
          rw [truL, truL, ih e (hm e (by simp)) (h.kid (hm e (by simp))), ihr (fun g hg => hm g (by simp [hg]))]
      rw [this l (fun _ h => h)]
  exact key e hg
/-- The same, by sets. -/
theorem dual_hld {e : Ex} {L : List A3} (h : VL e L) (S : List Bool) : (dual e).hld L S = !e.hld L (deadS L.length S) := by
  rw [tru_of h.dual, dual_tru (q := fun a => !inS L S a) (fun a => by simp) e h.good.wf]
  congr 1
  rw [← lack_set h S]
  refine tru_hld_eq9 (fun a _ => ?_) e h.good
  have hx : hasP (memN L S L.length) a = inS L S a := by rw [Bool.eq_iff_iff, hasP_iff, mem_memN, inS_iff h.dist]
  unfold lackP
  rw [hx]
end Go.Proofs.YtohjllnfnkajjaaGreat

namespace Go.Proofs.YtohjllnfnkajjaaGreat
open Go.RowKit
set_option linter.unusedVariables false

theorem Ex.dec_mem (e : Ex) (l : List Ex) : e ∈ l ∨ ¬ e ∈ l := Classical.em _
/-- Each but the first of equal ones left out. -/
noncomputable def ddp : List Ex → List Ex → List Ex
  | acc, [] => acc
  | acc, e :: r => ddp (@ite _ (e ∈ acc) (Classical.propDecidable _) acc (acc ++ [e])) r
/-- Is a kid merged into its group? -/
def mrg (one all : Bool) (y : Ex) : Bool := decide (0 < y.k) && ((one && decide (y.k = 1)) || (all && decide (y.k = (y.l.length : Int))))
def flt (one all : Bool) : List Ex → List Ex
  | [] => []
  | y :: r => (if mrg one all y = true then y.l else [y]) ++ flt one all r
/-- A group of simplified kids: the last steps. -/
noncomputable def fin2 (k : Int) (one all : Bool) (x : List Ex) : Ex :=
  match (if (one || all) = true then ddp [] x else x) with
  | [y] => y
  | l => .nd (if all = true then (l.length : Int) else k) z3 l
mutual
noncomputable def smp : Ex → Ex
  | .nd k a l => if k = 0 then .nd k a l else if l.length = 1 then smp1 l else fin2 k (decide (k = 1)) (decide (k = (l.length : Int))) (flt (decide (k = 1)) (decide (k = (l.length : Int))) (smpL l))
noncomputable def smp1 : List Ex → Ex
  | [] => Ex.zero
  | e :: _ => smp e
noncomputable def smpL : List Ex → List Ex
  | [] => []
  | e :: r => smp e :: smpL r
end
theorem smpL_map : ∀ l : List Ex, smpL l = l.map smp
  | [] => by rw [smpL]; rfl
  | e :: r => by rw [smpL, smpL_map r]; rfl
/-! ### Parts -/
theorem ddp_cons (acc : List Ex) (e : Ex) (r : List Ex) : ddp acc (e :: r) = ddp (@ite _ (e ∈ acc) (Classical.propDecidable _) acc (acc ++ [e])) r := rfl
theorem ddp_yes {acc : List Ex} {e : Ex} {r : List Ex} (h : e ∈ acc) : ddp acc (e :: r) = ddp acc r := by rw [ddp_cons, if_pos h]
theorem ddp_no {acc : List Ex} {e : Ex} {r : List Ex} (h : ¬ e ∈ acc) : ddp acc (e :: r) = ddp (acc ++ [e]) r := by rw [ddp_cons, if_neg h]
theorem ddp_mem : ∀ (x acc : List Ex) (e : Ex), e ∈ ddp acc x ↔ e ∈ acc ∨ e ∈ x
  | [], acc, e => by rw [ddp]; simp
  | y :: x, acc, e => by
    rcases Ex.dec_mem y acc with h | h
    · rw [ddp_yes h, ddp_mem x acc e, List.mem_cons]
      constructor
      · rintro (h1 | h1)
        · exact .inl h1
        · exact .inr (.inr h1)
      · rintro (h1 | rfl | h1)
        · exact .inl h1
        · exact .inl h
        · exact .inr h1
    · rw [ddp_no h, ddp_mem x _ e, List.mem_append, List.mem_singleton, List.mem_cons, or_assoc]
theorem ddp_nodup : ∀ (x acc : List Ex), acc.Nodup → (ddp acc x).Nodup
  | [], acc, h => h
  | y :: x, acc, h => by
    rcases Ex.dec_mem y acc with h1 | h1
    · rw [ddp_yes h1]; exact ddp_nodup x acc h
    · rw [ddp_no h1]
      refine ddp_nodup x _ (List.nodup_append.2 ⟨h, List.pairwise_singleton _ _, fun a ha b hb => ?_⟩)
      rw [List.mem_singleton.1 hb]
      rintro rfl
      exact h1 ha
theorem ddp_self : ∀ (x acc : List Ex), (acc ++ x).Nodup → ddp acc x = acc ++ x
  | [], acc, h => by rw [ddp, List.append_nil]
  | y :: x, acc, h => by
    have h2 := List.nodup_append.1 h
    rw [ddp_no (fun hm => h2.2.2 y hm y (by simp) rfl), ddp_self x _ (by rw [List.append_assoc]; exact h), List.append_assoc]
    rfl
theorem cntL_sub : ∀ (x acc : List Ex), cntL (ddp acc x) ≤ cntL acc + cntL x
  | [], acc => by rw [ddp, cntL]; omega
  | y :: x, acc => by
    rw [cntL]
    rcases Ex.dec_mem y acc with h | h
    · rw [ddp_yes h]; have := cntL_sub x acc; omega
    · rw [ddp_no h]
      have := cntL_sub x (acc ++ [y])
      rw [cntL_append, cntL, cntL] at this
      omega
theorem dpL_of : ∀ {l : List Ex} {d : Nat}, (∀ e ∈ l, e.dp ≤ d) → dpL l ≤ d
  | [], d, _ => by rw [dpL]; omega
  | e :: r, d, h => by
    rw [dpL]
    have h1 := h e (by simp)
    have h2 := dpL_of (l := r) (d := d) (fun f hf => h f (by simp [hf]))
    omega
theorem ddp_len : ∀ (x acc : List Ex), acc.length ≤ (ddp acc x).length
  | [], acc => Nat.le_refl _
  | y :: x, acc => by
    rcases Ex.dec_mem y acc with h | h
    · rw [ddp_yes h]; exact ddp_len x acc
    · rw [ddp_no h]; have := ddp_len x (acc ++ [y]); rw [List.length_append] at this; omega
theorem flt_mem {one all : Bool} {e : Ex} : ∀ {l : List Ex}, e ∈ flt one all l ↔ ∃ y ∈ l, (mrg one all y = true ∧ e ∈ y.l) ∨ (mrg one all y = false ∧ e = y)
  | [] => by simp [flt]
  | y :: r => by
    rw [flt, List.mem_append, flt_mem (l := r)]
    constructor
    · rintro (h | ⟨z, h1, h2⟩)
      · cases hm : mrg one all y with
        | true => rw [hm, if_pos rfl] at h; exact ⟨y, by simp, .inl ⟨hm, h⟩⟩
        | false => rw [hm, if_neg (by decide)] at h; exact ⟨y, by simp, .inr ⟨hm, List.mem_singleton.1 h⟩⟩
      · exact ⟨z, by simp [h1], h2⟩
    · rintro ⟨z, h1, h2⟩
      rcases List.mem_cons.1 h1 with rfl | h1
      · left
        rcases h2 with ⟨hm, h2⟩ | ⟨hm, h2⟩
        · rw [hm, if_pos rfl]; exact h2
        · rw [hm, if_neg (by decide), h2]; simp
      · exact .inr ⟨z, h1, h2⟩
theorem mrg_is {one all : Bool} {y : Ex} (h : mrg one all y = true) : 0 < y.k ∧ ((one = true ∧ y.k = 1) ∨ (all = true ∧ y.k = (y.l.length : Int))) := by
  unfold mrg at h
  rw [Bool.and_eq_true, Bool.or_eq_true, Bool.and_eq_true, Bool.and_eq_true, decide_eq_true_iff, decide_eq_true_iff, decide_eq_true_iff] at h
  exact h
theorem flt_cnt (one all : Bool) : ∀ l : List Ex, cntL (flt one all l) ≤ cntL l
  | [] => Nat.le_refl _
  | y :: r => by
    rw [flt, cntL_append, cntL]
    have := flt_cnt one all r
    split
    · rw [y.cnt_eq]; omega
    · rw [cntL, cntL]; omega
theorem flt_none {one all : Bool} : ∀ {l : List Ex}, (∀ y ∈ l, mrg one all y = false) → flt one all l = l
  | [], _ => rfl
  | y :: r, h => by rw [flt, h y (by simp), if_neg (by decide), flt_none (l := r) (fun z hz => h z (by simp [hz]))]; rfl
theorem flt_ne {one all : Bool} {l : List Ex} (hl : l ≠ []) (h : ∀ y ∈ l, mrg one all y = true → y.l ≠ []) : flt one all l ≠ [] := by
  rcases l with _ | ⟨y, r⟩
  · exact absurd rfl hl
  · rw [flt]
    intro he
    have h1 := (List.append_eq_nil_iff.1 he).1
    cases hm : mrg one all y with
    | true => rw [hm, if_pos rfl] at h1; exact h y (by simp) hm h1
    | false => rw [hm, if_neg (by decide)] at h1; cases h1
/-- The last steps: one kid, or a group. -/
theorem fin2_cases (k : Int) (one all : Bool) (x : List Ex) : (∃ y, (if (one || all) = true then ddp [] x else x) = [y] ∧ fin2 k one all x = y) ∨ ((if (one || all) = true then ddp [] x else x).length ≠ 1 ∧ fin2 k one all x = .nd (if all = true then ((if (one || all) = true then ddp [] x else x).length : Int) else k) z3 (if (one || all) = true then ddp [] x else x)) := by
  unfold fin2
  generalize (if (one || all) = true then ddp [] x else x) = m
  rcases m with _ | ⟨y, _ | ⟨z, r⟩⟩
  · exact .inr ⟨by simp, rfl⟩
  · exact .inl ⟨y, rfl, rfl⟩
  · exact .inr ⟨by simp, rfl⟩
/-! ### Truth -/
theorem truL_le9 {p : A3 → Bool} : ∀ l : List Ex, truL p l ≤ l.length
  | [] => by simp [truL]
  | e :: r => by
    rw [truL, List.length_cons]
    have := truL_le9 (p := p) r
    split <;> omega
theorem truL_all_iff {p : A3 → Bool} : ∀ {l : List Ex}, ((l.length : Int) ≤ (truL p l : Int)) ↔ ∀ e ∈ l, e.tru p = true
  | [] => by simp [truL]
  | e :: r => by
    rw [truL, List.length_cons]
    have ih := truL_all_iff (p := p) (l := r)
    have hle : truL p r ≤ r.length := truL_le9 r
    constructor
    · intro h f hf
      cases he : e.tru p with
      | false => rw [he, if_neg (by decide)] at h; exfalso; omega
      | true =>
        rw [he, if_pos rfl] at h
        rcases List.mem_cons.1 hf with rfl | hf
        · exact he
        · exact ih.1 (by omega) f hf
    · intro h
      rw [if_pos (h e (by simp))]
      have := ih.2 (fun f hf => h f (by simp [hf]))
      omega
theorem truL_one_iff {p : A3 → Bool} : ∀ {l : List Ex}, ((1 : Int) ≤ (truL p l : Int)) ↔ ∃ e ∈ l, e.tru p = true
  | [] => by simp [truL]
  | e :: r => by
    rw [truL]
    have ih := truL_one_iff (p := p) (l := r)
    constructor
    · intro h
      cases he : e.tru p with
      | true => exact ⟨e, by simp, he⟩
      | false =>
        rw [he, if_neg (by decide)] at h
        obtain ⟨f, h1, h2⟩ := ih.1 (by omega)
        exact ⟨f, by simp [h1], h2⟩
    · rintro ⟨f, h1, h2⟩
      rcases List.mem_cons.1 h1 with rfl | h1
      · rw [if_pos h2]; omega
      · have := ih.2 ⟨f, h1, h2⟩
        split <;> omega
theorem tru_one {p : A3 → Bool} {a : A3} {l : List Ex} : (Ex.nd 1 a l).tru p = true ↔ ∃ e ∈ l, e.tru p = true := by
  rw [Ex.tru, if_neg (by decide), decide_eq_true_iff]; exact truL_one_iff
theorem tru_all {p : A3 → Bool} {a : A3} {k : Int} {l : List Ex} (hk : k = (l.length : Int)) (h0 : l ≠ []) : (Ex.nd k a l).tru p = true ↔ ∀ e ∈ l, e.tru p = true := by
  have h1 : 0 < l.length := List.length_pos_iff.2 h0
  rw [Ex.tru, if_neg (by omega), decide_eq_true_iff, hk]; exact truL_all_iff
theorem truL_map {p : A3 → Bool} {f : Ex → Ex} : ∀ {l : List Ex}, (∀ e ∈ l, (f e).tru p = e.tru p) → truL p (l.map f) = truL p l
  | [], _ => by simp [truL]
  | e :: r, h => by rw [List.map_cons, truL, truL, h e (by simp), truL_map (l := r) (fun g hg => h g (by simp [hg]))]
/-! ### What simplifying keeps -/
/-- A tree of atoms without kids and of groups. -/
inductive Tr : Ex → Prop
  | atom (a : A3) : Tr (.nd 0 a [])
  | group (k : Int) (l : List Ex) (h1 : 1 ≤ k) (h2 : k ≤ (l.length : Int)) (h : ∀ e ∈ l, Tr e) : Tr (.nd k z3 l)
theorem wf_tr : ∀ e : Ex, Wf e → Tr e := by
  refine Ex.ind fun k a l ih => ?_
  intro h
  rcases h.cases with ⟨rfl, rfl⟩ | ⟨rfl, h1, h2⟩
  · exact .atom a
  · exact .group k l h1 h2 (fun e he => ih e he (h.kid he))
theorem Tr.kids {e : Ex} (h : Tr e) {f : Ex} (hf : f ∈ e.l) : Tr f := by
  cases h with
  | atom a => cases hf
  | group k l h1 h2 h => exact h f hf
theorem Tr.pos {e : Ex} (h : Tr e) (hk : 0 < e.k) : e.l ≠ [] := by
  cases h with
  | atom a => cases hk
  | group k l h1 h2 h => intro he; have he' : l = [] := he; subst he'; simp at h2; omega
/-- A simplified expression. -/
inductive Nf : Ex → Prop
  | atom (a : A3) : Nf (.nd 0 a [])
  | group (k : Int) (l : List Ex) (h1 : 1 ≤ k) (h2 : k ≤ (l.length : Int)) (h3 : 2 ≤ l.length) (h4 : k = 1 → l.Nodup ∧ ∀ e ∈ l, e.k ≠ 1) (h5 : k = (l.length : Int) → l.Nodup ∧ ∀ e ∈ l, 0 < e.k → e.k ≠ (e.l.length : Int)) (h : ∀ e ∈ l, Nf e) : Nf (.nd k z3 l)
theorem Nf.kids {e : Ex} (h : Nf e) {f : Ex} (hf : f ∈ e.l) : Nf f := by
  cases h with
  | atom a => cases hf
  | group k l h1 h2 h3 h4 h5 h => exact h f hf
theorem Nf.tr {e : Ex} (h : Nf e) : Tr e := by
  induction h with
  | atom a => exact .atom a
  | group k l h1 h2 h3 h4 h5 h ih => exact .group k l h1 h2 ih
theorem smp_group {k : Int} {a : A3} {l : List Ex} (hk : k ≠ 0) (hl : l.length ≠ 1) : smp (.nd k a l) = fin2 k (decide (k = 1)) (decide (k = (l.length : Int))) (flt (decide (k = 1)) (decide (k = (l.length : Int))) (l.map smp)) := by
  rw [smp, if_neg hk, if_neg hl, smpL_map]
theorem smp_single {k : Int} {a : A3} {e : Ex} (hk : k ≠ 0) : smp (.nd k a [e]) = smp e := by
  rw [smp, if_neg hk, if_pos (by simp), smp1]
/-- The pieces of a group of simplified kids. -/
structure Pcs (k : Int) (n : Nat) (ys x : List Ex) : Prop where
  ne : x ≠ []
  each : ∀ e ∈ x, Nf e
  one : k = 1 → ∀ e ∈ x, e.k ≠ 1
  all : k = (n : Int) → ∀ e ∈ x, 0 < e.k → e.k ≠ (e.l.length : Int)
theorem pcs {k : Int} {n : Nat} {ys : List Ex} (h1 : 1 ≤ k) (hk2 : k = 1 → k ≠ (n : Int)) (hn : ys ≠ []) (h : ∀ y ∈ ys, Nf y) : Pcs k n ys (flt (decide (k = 1)) (decide (k = (n : Int))) ys) := by
  refine ⟨flt_ne hn (fun y hy hm => (h y hy).tr.pos (mrg_is hm).1), fun e he => ?_, fun hk e he => ?_, fun hk e he h0 => ?_⟩
  · obtain ⟨y, hy, ⟨_, h2⟩ | ⟨_, rfl⟩⟩ := flt_mem.1 he
    · exact (h y hy).kids h2
    · exact h _ hy
  · obtain ⟨y, hy, ⟨hm, h2⟩ | ⟨hm, rfl⟩⟩ := flt_mem.1 he
    · obtain ⟨hp, ⟨_, hy1⟩ | ⟨hall, _⟩⟩ := mrg_is hm
      · have hN := h y hy
        cases hN with
        | atom a => cases hp
        | group k' l' a1 a2 a3 a4 a5 a6 => exact (a4 hy1).2 e h2
      · exact absurd (of_decide_eq_true hall) (hk2 hk)
    · intro he1
      have : mrg (decide (k = 1)) (decide (k = (n : Int))) e = true := by
        unfold mrg
        rw [decide_eq_true (show 0 < e.k by omega), decide_eq_true hk, decide_eq_true he1]
        rfl
      rw [this] at hm
      cases hm
  · obtain ⟨y, hy, ⟨hm, h2⟩ | ⟨hm, rfl⟩⟩ := flt_mem.1 he
    · obtain ⟨hp, ⟨hone, _⟩ | ⟨_, hy1⟩⟩ := mrg_is hm
      · exact absurd hk (hk2 (of_decide_eq_true hone))
      · have hN := h y hy
        cases hN with
        | atom a => cases hp
        | group k' l' a1 a2 a3 a4 a5 a6 => exact (a5 hy1).2 e h2 h0
    · intro he1
      have : mrg (decide (k = 1)) (decide (k = (n : Int))) e = true := by
        unfold mrg
        rw [decide_eq_true h0, decide_eq_true hk, decide_eq_true he1]
        simp
      rw [this] at hm
      cases hm
theorem two_of {l : List Ex} (h0 : l ≠ []) (h1 : l.length ≠ 1) : 2 ≤ l.length := by
  have := List.length_pos_iff.2 h0; omega
theorem ddp_ne {x : List Ex} (h : x ≠ []) : ddp [] x ≠ [] := by
  rcases x with _ | ⟨y, r⟩
  · exact absurd rfl h
  · intro he
    have := (ddp_mem (y :: r) [] y).2 (.inr (by simp))
    rw [he] at this
    cases this
theorem smp_nf : ∀ e : Ex, Tr e → Nf (smp e) := by
  refine Ex.ind fun k a l ih => ?_
  intro h
  cases h with
  | atom a => rw [smp, if_pos rfl]; exact .atom a
  | group k l h1 h2 h =>
    by_cases hl : l.length = 1
    · obtain ⟨e, rfl⟩ := List.length_eq_one_iff.1 hl
      rw [smp_single (by omega)]
      exact ih e (by simp) (h e (by simp))
    · have hl0 : l ≠ [] := by rintro rfl; simp at h2; omega
      have hl2 := two_of hl0 hl
      rw [smp_group (by omega) hl]
      have hP := pcs (k := k) (n := l.length) (ys := l.map smp) h1 (by omega) (by simpa using hl0) (fun y hy => by obtain ⟨e, he, rfl⟩ := List.mem_map.1 hy; exact ih e he (h e he))
      obtain ⟨x, hx⟩ : ∃ x, x = flt (decide (k = 1)) (decide (k = (l.length : Int))) (l.map smp) := ⟨_, rfl⟩
      rw [← hx] at hP ⊢
      rcases fin2_cases k (decide (k = 1)) (decide (k = (l.length : Int))) x with ⟨y, hy, he⟩ | ⟨hne, he⟩
      · rw [he]
        have hm : y ∈ x := by
          split at hy
          · have : y ∈ ddp [] x := by rw [hy]; simp
            rcases (ddp_mem x [] y).1 this with h3 | h3
            · cases h3
            · exact h3
          · rw [hy]; simp
        exact hP.each y hm
      · rw [he]
        by_cases hoa : (decide (k = 1) || decide (k = (l.length : Int))) = true
        · rw [if_pos hoa] at hne ⊢
          have hd := ddp_nodup x [] List.Pairwise.nil
          have hm : ∀ e ∈ ddp [] x, e ∈ x := fun e he => ((ddp_mem x [] e).1 he).elim (fun h => by cases h) id
          have h2' := two_of (ddp_ne hP.ne) hne
          by_cases hk : k = (l.length : Int)
          · rw [if_pos (decide_eq_true hk)]
            refine .group _ _ (by omega) (Int.le_refl _) h2' (fun h3 => by omega) (fun _ => ⟨hd, fun e he h0 => hP.all hk e (hm e he) h0⟩) (fun e he => hP.each e (hm e he))
          · rw [if_neg (by simpa using hk)]
            have hk1 : k = 1 := by
              rw [decide_eq_false hk, Bool.or_false] at hoa
              exact of_decide_eq_true hoa
            refine .group _ _ h1 (by omega) h2' (fun h3 => ⟨hd, fun e he => hP.one hk1 e (hm e he)⟩) (fun h3 => by omega) (fun e he => hP.each e (hm e he))
        · rw [if_neg hoa] at hne ⊢
          have hk1 : k ≠ 1 := fun h3 => hoa (by rw [decide_eq_true h3]; rfl)
          have hk2 : k ≠ (l.length : Int) := fun h3 => hoa (by rw [decide_eq_true h3]; simp)
          rw [if_neg (by simpa using hk2)]
          have hxl : x = l.map smp := by
            rw [hx, decide_eq_false hk1, decide_eq_false hk2]
            exact flt_none (fun y _ => by unfold mrg; simp)
          have hlen : x.length = l.length := by rw [hxl, List.length_map]
          exact .group _ _ h1 (by omega) (by omega) (fun h3 => absurd h3 hk1) (fun h3 => absurd (by omega) hk2) hP.each
/-- What is simplified stays as it is. -/
theorem nf_smp : ∀ {e : Ex}, Nf e → smp e = e := by
  intro e h
  induction h with
  | atom a => rw [smp, if_pos rfl]
  | group k l h1 h2 h3 h4 h5 h ih =>
    rw [smp_group (by omega) (by omega), map_self ih]
    have hx : flt (decide (k = 1)) (decide (k = (l.length : Int))) l = l := flt_none (fun y hy => by
      cases hm : mrg (decide (k = 1)) (decide (k = (l.length : Int))) y with
      | false => rfl
      | true =>
        obtain ⟨hp, ⟨ho, hy1⟩ | ⟨ha, hy1⟩⟩ := mrg_is hm
        · exact absurd hy1 ((h4 (of_decide_eq_true ho)).2 y hy)
        · exact absurd hy1 ((h5 (of_decide_eq_true ha)).2 y hy hp))
    rw [hx]
    have hd : (if (decide (k = 1) || decide (k = (l.length : Int))) = true then ddp [] l else l) = l := by
      split
      · rename_i hoa
        have hn : l.Nodup := by
          rw [Bool.or_eq_true, decide_eq_true_iff, decide_eq_true_iff] at hoa
          rcases hoa with hk | hk
          · exact (h4 hk).1
          · exact (h5 hk).1
        rw [ddp_self l [] (by simpa using hn)]
        rfl
      · rfl
    rcases fin2_cases k (decide (k = 1)) (decide (k = (l.length : Int))) l with ⟨y, hy, he⟩ | ⟨hne, he⟩
    · rw [hd] at hy
      rw [hy] at h3
      simp at h3
    · rw [he, hd]
      by_cases hk : k = (l.length : Int)
      · rw [if_pos (decide_eq_true hk), ← hk]
      · rw [if_neg (by simpa using hk)]
theorem smp_idem {e : Ex} (h : Tr e) : smp (smp e) = smp e := nf_smp (smp_nf e h)
/-! ### Truth, size, depth, atoms -/
theorem fin2_tru {p : A3 → Bool} {k : Int} {n : Nat} {x : List Ex} (hx : x ≠ []) (hk2 : k = 1 → k ≠ (n : Int)) (hn : (decide (k = 1) || decide (k = (n : Int))) = false → n = x.length) (h1 : 1 ≤ k) (h2n : k ≤ (n : Int)) :
    (fin2 k (decide (k = 1)) (decide (k = (n : Int))) x).tru p = true ↔ (if k = 1 then ∃ e ∈ x, e.tru p = true else if k = (n : Int) then ∀ e ∈ x, e.tru p = true else k ≤ (truL p x : Int)) := by
  have hmem : ∀ e, e ∈ ddp [] x ↔ e ∈ x := fun e => by rw [ddp_mem]; simp
  rcases fin2_cases k (decide (k = 1)) (decide (k = (n : Int))) x with ⟨y, hy, he⟩ | ⟨hne, he⟩
  · rw [he]
    by_cases hoa : (decide (k = 1) || decide (k = (n : Int))) = true
    · rw [if_pos hoa] at hy
      have hm : ∀ e, e ∈ x ↔ e = y := fun e => by rw [← hmem, hy, List.mem_singleton]
      by_cases hk : k = 1
      · rw [if_pos hk]
        constructor
        · intro h; exact ⟨y, (hm y).2 rfl, h⟩
        · rintro ⟨e, h2, h3⟩; rw [← (hm e).1 h2]; exact h3
      · rw [if_neg hk, if_pos (by simpa [hk] using hoa)]
        constructor
        · intro h e h2; rw [(hm e).1 h2]; exact h
        · intro h; exact h y ((hm y).2 rfl)
    · rw [if_neg hoa] at hy
      have hk : k ≠ 1 := fun h3 => hoa (by rw [decide_eq_true h3]; rfl)
      have hk3 : k ≠ (n : Int) := fun h3 => hoa (by rw [decide_eq_true h3]; simp)
      rw [if_neg hk, if_neg hk3, hy, truL, truL]
      have hkn : 2 ≤ k := by omega
      constructor
      · intro h
        exfalso
        have h9 := hn (by simp [hk, hk3])
        rw [hy] at h9
        simp at h9
        omega
      · intro h
        split at h <;> omega
  · rw [he]
    by_cases hk : k = 1
    · rw [if_pos hk, if_neg (by simpa using hk2 hk), hk]
      rw [if_pos (by simp), tru_one]
      simp only [hmem]
    · rw [if_neg hk]
      by_cases hk3 : k = (n : Int)
      · rw [if_pos hk3, if_pos (decide_eq_true hk3), if_pos (by simp [hk3])]
        rw [tru_all rfl (ddp_ne hx)]
        simp only [hmem]
      · rw [if_neg hk3, if_neg (by simpa using hk3), if_neg (by simp [hk, hk3]), Ex.tru, if_neg (by omega), decide_eq_true_iff]
theorem smp_tru {p : A3 → Bool} : ∀ e : Ex, Tr e → (smp e).tru p = e.tru p := by
  refine Ex.ind fun k a l ih => ?_
  intro h
  cases h with
  | atom a => rw [smp, if_pos rfl]
  | group k l h1 h2 h =>
    by_cases hl : l.length = 1
    · obtain ⟨e, rfl⟩ := List.length_eq_one_iff.1 hl
      have hk : k = 1 := by rw [hl] at h2; omega
      rw [smp_single (by omega), ih e (by simp) (h e (by simp)), Bool.eq_iff_iff, hk, tru_one]
      simp
    · have hl0 : l ≠ [] := by rintro rfl; simp at h2; omega
      have hl2 := two_of hl0 hl
      have ht : ∀ y ∈ l.map smp, Tr y := fun y hy => by obtain ⟨e, he, rfl⟩ := List.mem_map.1 hy; exact (smp_nf e (h e he)).tr
      have hf0 : (decide (k = 1) || decide (k = (l.length : Int))) = false → flt (decide (k = 1)) (decide (k = (l.length : Int))) (l.map smp) = l.map smp := fun hh => by
        rw [Bool.or_eq_false_iff] at hh
        rw [hh.1, hh.2]
        exact flt_none (fun y _ => by unfold mrg; simp)
      rw [smp_group (by omega) hl, Bool.eq_iff_iff, fin2_tru (flt_ne (by simpa using hl0) (fun y hy hm => (ht y hy).pos (mrg_is hm).1)) (by omega) (fun hh => by rw [hf0 hh, List.length_map]) h1 h2]
      by_cases hk : k = 1
      · subst hk
        rw [if_pos rfl, tru_one]
        constructor
        · rintro ⟨e, he, h3⟩
          obtain ⟨y, hy, h4⟩ := flt_mem.1 he
          obtain ⟨z, hz, rfl⟩ := List.mem_map.1 hy
          refine ⟨z, hz, ?_⟩
          rw [← ih z hz (h z hz)]
          rcases h4 with ⟨hm, h5⟩ | ⟨_, rfl⟩
          · obtain ⟨hp, ⟨_, hy1⟩ | ⟨ha, _⟩⟩ := mrg_is hm
            · generalize smp z = y at hy1 h5
              obtain ⟨k', a', l'⟩ := y
              have hy1' : k' = 1 := hy1
              subst hy1'
              exact tru_one.2 ⟨e, h5, h3⟩
            · have := of_decide_eq_true ha; omega
          · exact h3
        · rintro ⟨z, hz, h3⟩
          rw [← ih z hz (h z hz)] at h3
          have hy : smp z ∈ l.map smp := List.mem_map.2 ⟨z, hz, rfl⟩
          cases hm : mrg (decide ((1 : Int) = 1)) (decide ((1 : Int) = (l.length : Int))) (smp z) with
          | false => exact ⟨_, flt_mem.2 ⟨_, hy, .inr ⟨hm, rfl⟩⟩, h3⟩
          | true =>
            obtain ⟨hp, ⟨_, hy1⟩ | ⟨ha, _⟩⟩ := mrg_is hm
            · have : ∃ e ∈ (smp z).l, e.tru p = true := by
                generalize smp z = y at hy1 h3
                obtain ⟨k', a', l'⟩ := y
                have hy1' : k' = 1 := hy1
                subst hy1'
                exact tru_one.1 h3
              obtain ⟨e, he, h5⟩ := this
              exact ⟨e, flt_mem.2 ⟨_, hy, .inl ⟨hm, he⟩⟩, h5⟩
            · have := of_decide_eq_true ha; omega
      · rw [if_neg hk]
        by_cases hk3 : k = (l.length : Int)
        · rw [if_pos hk3, tru_all hk3 hl0]
          constructor
          · intro h3 z hz
            rw [← ih z hz (h z hz)]
            have hy : smp z ∈ l.map smp := List.mem_map.2 ⟨z, hz, rfl⟩
            cases hm : mrg (decide (k = 1)) (decide (k = (l.length : Int))) (smp z) with
            | false => exact h3 _ (flt_mem.2 ⟨_, hy, .inr ⟨hm, rfl⟩⟩)
            | true =>
              obtain ⟨hp, ⟨ho, _⟩ | ⟨_, hy1⟩⟩ := mrg_is hm
              · exact absurd (of_decide_eq_true ho) hk
              · have hne := (ht _ hy).pos hp
                have h6 : ∀ e ∈ (smp z).l, e.tru p = true := fun e he => h3 e (flt_mem.2 ⟨_, hy, .inl ⟨hm, he⟩⟩)
                generalize smp z = y at hy1 hne h6
                obtain ⟨k', a', l'⟩ := y
                exact (tru_all hy1 hne).2 h6
          · intro h3 e he
            obtain ⟨y, hy, h4⟩ := flt_mem.1 he
            obtain ⟨z, hz, rfl⟩ := List.mem_map.1 hy
            have h7 := h3 z hz
            rw [← ih z hz (h z hz)] at h7
            rcases h4 with ⟨hm, h5⟩ | ⟨_, rfl⟩
            · obtain ⟨hp, ⟨ho, _⟩ | ⟨_, hy1⟩⟩ := mrg_is hm
              · exact absurd (of_decide_eq_true ho) hk
              · have hne := (ht _ hy).pos hp
                generalize smp z = y at hy1 hne h5 h7
                obtain ⟨k', a', l'⟩ := y
                exact (tru_all hy1 hne).1 h7 e h5
            · exact h7
        · rw [if_neg hk3, hf0 (by simp [hk, hk3]), truL_map (fun z hz => ih z hz (h z hz)), Ex.tru, if_neg (by omega), decide_eq_true_iff]
/-- What the last steps' parts are: some of the pieces. -/
theorem fin2_parts {k : Int} {one all : Bool} {x : List Ex} : (∃ y ∈ x, fin2 k one all x = y) ∨ ∃ m : List Ex, (∀ e ∈ m, e ∈ x) ∧ cntL m ≤ cntL x ∧ fin2 k one all x = .nd (if all = true then (m.length : Int) else k) z3 m ∧ ((one || all) = false → m = x) ∧ (x ≠ [] → m ≠ []) := by
  have hm : ∀ e, e ∈ (if (one || all) = true then ddp [] x else x) → e ∈ x := fun e he => by
    split at he
    · rw [ddp_mem] at he; simpa using he
    · exact he
  rcases fin2_cases k one all x with ⟨y, hy, he⟩ | ⟨hne, he⟩
  · exact .inl ⟨y, hm y (by rw [hy]; simp), he⟩
  · refine .inr ⟨_, hm, ?_, he, fun h => by rw [h, if_neg (by decide)], fun h => ?_⟩
    · split
      · have := cntL_sub x []; rw [cntL] at this; omega
      · exact Nat.le_refl _
    · split
      · exact ddp_ne h
      · exact h
theorem cntL_map_le {f : Ex → Ex} : ∀ {l : List Ex}, (∀ e ∈ l, (f e).cnt ≤ e.cnt) → cntL (l.map f) ≤ cntL l
  | [], _ => Nat.le_refl _
  | e :: r, h => by
    rw [List.map_cons, cntL, cntL]
    have := h e (by simp)
    have := cntL_map_le (l := r) (fun g hg => h g (by simp [hg]))
    omega
theorem smp_cnt : ∀ e : Ex, (smp e).cnt ≤ e.cnt := by
  refine Ex.ind fun k a l ih => ?_
  by_cases hk : k = 0
  · rw [smp, if_pos hk]; exact Nat.le_refl _
  · by_cases hl : l.length = 1
    · obtain ⟨e, rfl⟩ := List.length_eq_one_iff.1 hl
      rw [smp_single hk, Ex.cnt, cntL]
      have := ih e (by simp)
      omega
    · rw [smp_group hk hl, Ex.cnt]
      have h1 := flt_cnt (decide (k = 1)) (decide (k = (l.length : Int))) (l.map smp)
      have h2 := cntL_map_le (f := smp) ih
      rcases fin2_parts (k := k) (one := decide (k = 1)) (all := decide (k = (l.length : Int))) (x := flt (decide (k = 1)) (decide (k = (l.length : Int))) (l.map smp)) with ⟨y, hy, he⟩ | ⟨m, _, hc, he, _⟩
      · rw [he]
        have := cntL_le hy
        omega
      · rw [he, Ex.cnt]; omega
theorem dp_kid {y f : Ex} (h : f ∈ y.l) : f.dp < y.dp := by rw [y.dp_eq]; have := dpL_le h; omega
theorem smp_dp : ∀ e : Ex, (smp e).dp ≤ e.dp := by
  refine Ex.ind fun k a l ih => ?_
  by_cases hk : k = 0
  · rw [smp, if_pos hk]; exact Nat.le_refl _
  · by_cases hl : l.length = 1
    · obtain ⟨e, rfl⟩ := List.length_eq_one_iff.1 hl
      rw [smp_single hk, Ex.dp, dpL]
      have := ih e (by simp)
      omega
    · rw [smp_group hk hl, Ex.dp]
      have hx : ∀ e ∈ flt (decide (k = 1)) (decide (k = (l.length : Int))) (l.map smp), e.dp ≤ dpL l := fun e he => by
        obtain ⟨y, hy, h4⟩ := flt_mem.1 he
        obtain ⟨z, hz, rfl⟩ := List.mem_map.1 hy
        have h1 := ih z hz
        have h2 := dpL_le hz
        rcases h4 with ⟨_, h5⟩ | ⟨_, rfl⟩
        · have := dp_kid h5; omega
        · omega
      rcases fin2_parts (k := k) (one := decide (k = 1)) (all := decide (k = (l.length : Int))) (x := flt (decide (k = 1)) (decide (k = (l.length : Int))) (l.map smp)) with ⟨y, hy, he⟩ | ⟨m, hm, _, he, _⟩
      · rw [he]; have := hx y hy; omega
      · rw [he, Ex.dp]
        have := dpL_of (l := m) (d := dpL l) (fun e he => hx e (hm e he))
        omega
theorem GoodE.kid' {L : List A3} {y f : Ex} (h : GoodE L y) (hf : f ∈ y.l) : GoodE L f := by
  obtain ⟨k, a, l⟩ := y
  exact h.kid hf
theorem smp_good {L : List A3} : ∀ e : Ex, GoodE L e → GoodE L (smp e) := by
  refine Ex.ind fun k a l ih => ?_
  intro h
  rcases h.wf.cases with ⟨hk, hl⟩ | ⟨ha, h1, h2⟩
  · rw [smp, if_pos hk]; exact h
  · by_cases hl : l.length = 1
    · obtain ⟨e, rfl⟩ := List.length_eq_one_iff.1 hl
      rw [smp_single (by omega)]
      exact ih e (by simp) (h.kid (by simp))
    · rw [smp_group (by omega) hl]
      have hl0 : l ≠ [] := by rintro rfl; simp at h2; omega
      have hT : ∀ e ∈ l, Tr e := fun e he => wf_tr e (h.kid he).wf
      have hx : ∀ e ∈ flt (decide (k = 1)) (decide (k = (l.length : Int))) (l.map smp), GoodE L e := fun e he => by
        obtain ⟨y, hy, h4⟩ := flt_mem.1 he
        obtain ⟨z, hz, rfl⟩ := List.mem_map.1 hy
        have h3 := ih z hz (h.kid hz)
        rcases h4 with ⟨_, h5⟩ | ⟨_, rfl⟩
        · exact h3.kid' h5
        · exact h3
      have hxn : flt (decide (k = 1)) (decide (k = (l.length : Int))) (l.map smp) ≠ [] := flt_ne (by simpa using hl0) (fun y hy hm => by
        obtain ⟨z, hz, rfl⟩ := List.mem_map.1 hy
        exact (smp_nf z (hT z hz)).tr.pos (mrg_is hm).1)
      rcases fin2_parts (k := k) (one := decide (k = 1)) (all := decide (k = (l.length : Int))) (x := flt (decide (k = 1)) (decide (k = (l.length : Int))) (l.map smp)) with ⟨y, hy, he⟩ | ⟨m, hm, _, he, hmx, hmn⟩
      · rw [he]; exact hx y hy
      · rw [he]
        have hmg : ∀ e ∈ m, GoodE L e := fun e he => hx e (hm e he)
        have hm1 : 0 < m.length := List.length_pos_iff.2 (hmn hxn)
        by_cases hk3 : k = (l.length : Int)
        · rw [if_pos (decide_eq_true hk3)]
          exact good_of (by omega) (Int.le_refl _) hmg
        · rw [if_neg (by simpa using hk3)]
          by_cases hk1 : k = 1
          · exact good_of h1 (by omega) hmg
          · have hmx' := hmx (by simp [hk1, hk3])
            refine good_of h1 ?_ hmg
            rw [hmx', decide_eq_false hk1, decide_eq_false hk3, flt_none (fun y _ => by unfold mrg; simp), List.length_map]
            exact h2
theorem VL.tr {e : Ex} {L : List A3} (h : VL e L) : Tr e := wf_tr e h.good.wf
theorem VL.smp {e : Ex} {L : List A3} (h : VL e L) : Vex (smp e) :=
  vex_over h.dist h.n8 (smp_good e h.good) (Nat.le_trans (smp_dp e) h.1.1) (Nat.le_trans (smp_cnt e) h.1.2.1)
end Go.Proofs.YtohjllnfnkajjaaGreat

namespace Go.Proofs.YtohjllnfnkajjaaGreat
open Go.RowKit
set_option linter.unusedVariables false

theorem inS_map {p : A3 → Bool} {x : A3} : ∀ {L : List A3}, x ∈ L → inS L (L.map p) x = p x
  | [], h => by cases h
  | b :: r, h => by
    rw [List.map_cons, inS]
    by_cases hb : b = x
    · rw [if_pos hb, hb]; rfl
    · rw [if_neg hb]
      rcases List.mem_cons.1 h with e | e
      · exact absurd e.symm hb
      · exact inS_map e
theorem inS_out {x : A3} : ∀ {L : List A3} {S : List Bool}, ¬ x ∈ L → inS L S x = false
  | [], S, h => rfl
  | b :: r, S, h => by
    rw [inS, if_neg (fun e => h (by simp [e]))]
    exact inS_out (fun e => h (by simp [e]))
theorem tru_map {e : Ex} {L : List A3} (h : VL e L) (p : A3 → Bool) : e.tru p = e.hld L (L.map p) := tru_hld (fun a ha => (inS_map ha).symm) e h.good
theorem truL_mono {p q : A3 → Bool} : ∀ {l : List Ex}, (∀ e ∈ l, e.tru p = true → e.tru q = true) → truL p l ≤ truL q l
  | [], _ => by simp [truL]
  | e :: r, h => by
    rw [truL, truL]
    have h1 := truL_mono (l := r) (fun f hf => h f (by simp [hf]))
    have h2 := h e (by simp)
    by_cases hs : e.tru p = true
    · rw [if_pos hs, if_pos (h2 hs)]; omega
    · rw [if_neg hs]; omega
theorem tru_mono {p q : A3 → Bool} (hpq : ∀ a, p a = true → q a = true) : ∀ e : Ex, e.tru p = true → e.tru q = true := by
  refine Ex.ind fun k a l ih => ?_
  intro h
  rw [Ex.tru] at h ⊢
  by_cases hk : k = 0
  · rw [if_pos hk] at h ⊢; exact hpq a h
  · rw [if_neg hk] at h ⊢
    have h1 := truL_mono (p := p) (q := q) ih
    have h2 := of_decide_eq_true h
    exact decide_eq_true (by omega)
/-- The second holds wherever the first does. -/
def Imp (a b : Ex) : Prop := ∀ p : A3 → Bool, a.tru p = true → b.tru p = true
noncomputable def impB (a b : Ex) : Bool := @decide (Vex a ∧ Vex b ∧ Imp a b) (Classical.propDecidable _)
theorem impB_iff {a b : Ex} : impB a b = true ↔ Vex a ∧ Vex b ∧ Imp a b := @decide_eq_true_iff _ (Classical.propDecidable _)
theorem impB_no {a b : Ex} : impB a b = false ↔ ¬ (Vex a ∧ Vex b ∧ Imp a b) := by rw [← impB_iff, Bool.not_eq_true]
/-- A set of the one's atoms, as a set of the other's. -/
def oth (L : List A3) (S : List Bool) (M : List A3) : List Bool := M.map (inS L S)
theorem imp_bits {a b : Ex} {L M : List A3} (ha : VL a L) (hb : VL b M) : Imp a b ↔ ∀ x, x < 2 ^ L.length → a.hld L (bitS L.length x) = true → b.hld M (oth L (bitS L.length x) M) = true := by
  constructor
  · intro h x hx h1
    have := h (inS L (bitS L.length x)) (by rw [← tru_of ha]; exact h1)
    rw [tru_map hb] at this
    exact this
  · intro h p hp
    obtain ⟨x, hx, hxi⟩ := bits_ex (L.map p)
    rw [List.length_map] at hx hxi
    have hS : bitS L.length x = L.map p := by
      refine List.ext_getElem (by rw [bitS_len, List.length_map]) fun i h1 h2 => ?_
      have h3 := hxi i (by rw [bitS_len] at h1; exact h1)
      rw [List.getD_eq_getElem?_getD, List.getElem?_eq_getElem h2] at h3
      simp only [Option.getD_some] at h3
      rw [← h3]
      simp [bitS]
    have h1 := h x hx (by rw [hS, ← tru_map ha]; exact hp)
    unfold oth at h1
    rw [← tru_map hb, hS] at h1
    refine tru_mono (fun y hy => ?_) b h1
    rcases Classical.em (y ∈ L) with hm | hm
    · rw [inS_map hm] at hy; exact hy
    · rw [inS_out hm] at hy; cases hy
theorem Imp.refl (a : Ex) : Imp a a := fun _ h => h
theorem Imp.trans {a b c : Ex} (h : Imp a b) (k : Imp b c) : Imp a c := fun p hp => k p (h p hp)
theorem imp_dual {a b : Ex} {L M : List A3} (ha : VL a L) (hb : VL b M) : Imp a b ↔ Imp (dual b) (dual a) := by
  have h1 : ∀ {e : Ex} {K : List A3}, VL e K → ∀ p : A3 → Bool, (dual e).tru p = !e.tru (fun x => !p x) := fun {e} {K} he p => dual_tru (fun x => by simp) e he.good.wf
  have h2 : ∀ {e : Ex} {K : List A3}, VL e K → ∀ p : A3 → Bool, e.tru p = !(dual e).tru (fun x => !p x) := fun {e} {K} he p => by rw [h1 he]; simp
  constructor
  · intro h p hp
    rw [h1 hb, Bool.not_eq_true'] at hp
    rw [h1 ha, Bool.not_eq_true']
    cases hx : a.tru (fun x => !p x) with
    | false => rfl
    | true => rw [h _ hx] at hp; cases hp
  · intro h p hp
    rw [h2 ha, Bool.not_eq_true'] at hp
    rw [h2 hb, Bool.not_eq_true']
    cases hx : (dual b).tru (fun x => !p x) with
    | false => rfl
    | true => rw [h _ hx] at hp; cases hp
theorem impB_dual {a b : Ex} {L M : List A3} (ha : VL a L) (hb : VL b M) : impB a b = impB (dual b) (dual a) := by
  rw [Bool.eq_iff_iff, impB_iff, impB_iff]
  have h1 := ha.1
  have h2 := hb.1
  have h3 := ha.dual.1
  have h4 := hb.dual.1
  rw [imp_dual ha hb]
  simp [h1, h2, h3, h4]
theorem impB_smp {e : Ex} {L : List A3} (h : VL e L) : impB (smp e) e = true ∧ impB e (smp e) = true :=
  ⟨impB_iff.2 ⟨h.smp, h.1, fun p hp => by rw [smp_tru e h.tr] at hp; exact hp⟩, impB_iff.2 ⟨h.1, h.smp, fun p hp => by rw [smp_tru e h.tr]; exact hp⟩⟩
/-! ### Expressions of sets -/
def leafE (L : List A3) (i : Int) : Ex := .nd 0 (L.getD i.toNat default) []
def frmG (L : List A3) (s : List Int) : Ex := .nd (s.length : Int) z3 (s.map (leafE L))
def frm (L : List A3) (X : List (List Int)) : Ex := .nd 1 z3 (X.map (frmG L))
/-- The indices are ones of atoms. -/
def InX (n : Nat) (X : List (List Int)) : Prop := ∀ s ∈ X, ∀ i ∈ s, 0 ≤ i ∧ i < (n : Int)
def FrmOk (L : List A3) (X : List (List Int)) : Prop := InX L.length X ∧ Vex (frm L X)
noncomputable def frmB (L : List A3) (X : List (List Int)) : Bool := @decide (FrmOk L X) (Classical.propDecidable _)
theorem frmB_iff {L : List A3} {X : List (List Int)} : frmB L X = true ↔ FrmOk L X := @decide_eq_true_iff _ (Classical.propDecidable _)
theorem frmB_no {L : List A3} {X : List (List Int)} : frmB L X = false ↔ ¬ FrmOk L X := by rw [← frmB_iff, Bool.not_eq_true]
theorem cntL_ge {f : List Int → Ex} : ∀ {X : List (List Int)} {s : List Int}, s ∈ X → (f s).cnt ≤ cntL (X.map f) := fun hs => cntL_le (List.mem_map.2 ⟨_, hs, rfl⟩)
/-- A valid one has few sets of few indices. -/
theorem frm_few {L : List A3} {X : List (List Int)} (h : Vex (frm L X)) : X.length ≤ 24 ∧ ∀ s ∈ X, s.length ≤ 24 := by
  have hc := h.2.1
  unfold frm at hc
  rw [Ex.cnt] at hc
  have h1 := cntL_len (X.map (frmG L))
  rw [List.length_map] at h1
  refine ⟨by omega, fun s hs => ?_⟩
  have h2 := cntL_ge (f := frmG L) hs
  unfold frmG at h2
  rw [Ex.cnt] at h2
  have h3 := cntL_len (s.map (leafE L))
  rw [List.length_map] at h3
  unfold frmG at hc
  omega
abbrev ofN (X : List (List Nat)) : List (List Int) := X.map fun s => s.map Int.ofNat
theorem min_ne {e : Ex} {L : List A3} (h : VL e L) {X : List (List Nat)} (hX : MinOf (e.hld L) L.length X) {s : List Nat} (hs : s ∈ X) : s ≠ [] := by
  rintro rfl
  obtain ⟨b, hb, hm, he⟩ := (hX.2 []).1 hs
  have h1 := (minB_iff.1 hm).1
  have h2 := hld_none (L := L) (S := bitS L.length b) (fun i => ?_) e h.good
  · rw [h2] at h1; cases h1
  · rw [bitS_at]
    cases hbi : b.testBit i with
    | false => simp
    | true =>
      by_cases hi : i < L.length
      · have : i ∈ bitL L.length b := bitL_mem.2 ⟨hi, hbi⟩
        rw [← he] at this
        cases this
      · simp [hi]
theorem frmG_tru {L : List A3} {p : A3 → Bool} {s : List Nat} (h0 : s ≠ []) : (frmG L (s.map Int.ofNat)).tru p = true ↔ ∀ i ∈ s, p (L.getD i default) = true := by
  unfold frmG
  rw [tru_all (by simp) (by simpa using h0)]
  constructor
  · intro h i hi
    have := h (leafE L (Int.ofNat i)) (List.mem_map.2 ⟨_, List.mem_map.2 ⟨i, hi, rfl⟩, rfl⟩)
    unfold leafE at this
    rw [Ex.tru, if_pos rfl] at this
    exact this
  · intro h e he
    obtain ⟨z, hz, rfl⟩ := List.mem_map.1 he
    obtain ⟨i, hi, rfl⟩ := List.mem_map.1 hz
    unfold leafE
    rw [Ex.tru, if_pos rfl]
    exact h i hi
/-- The expression of the minimal sets says the same. -/
theorem frm_tru {e : Ex} {L : List A3} (h : VL e L) {X : List (List Nat)} (hX : MinOf (e.hld L) L.length X) (p : A3 → Bool) : (frm L (ofN X)).tru p = e.tru p := by
  rw [Bool.eq_iff_iff, tru_map h p, covers hX]
  unfold frm
  rw [tru_one]
  have hin : ∀ s ∈ X, ∀ i ∈ s, (L.map p).getD i false = p (L.getD i default) := fun s hs i hi => by
    obtain ⟨b, hb, hm, rfl⟩ := (hX.2 s).1 hs
    have hl := (bitL_mem.1 hi).1
    rw [List.getD_eq_getElem?_getD, List.getD_eq_getElem?_getD, List.getElem?_map, List.getElem?_eq_getElem hl]
    rfl
  constructor
  · rintro ⟨g, hg, h1⟩
    obtain ⟨z, hz, rfl⟩ := List.mem_map.1 hg
    obtain ⟨s, hs, rfl⟩ := List.mem_map.1 hz
    exact ⟨s, hs, fun i hi => by rw [hin s hs i hi]; exact (frmG_tru (min_ne h hX hs)).1 h1 i hi⟩
  · rintro ⟨s, hs, h1⟩
    exact ⟨_, List.mem_map.2 ⟨_, List.mem_map.2 ⟨s, hs, rfl⟩, rfl⟩, (frmG_tru (min_ne h hX hs)).2 (fun i hi => by rw [← hin s hs i hi]; exact h1 i hi)⟩
theorem frm_eqv {e : Ex} {L : List A3} (h : VL e L) {X : List (List Nat)} (hX : MinOf (e.hld L) L.length X) (hv : Vex (frm L (ofN X))) : impB (frm L (ofN X)) e = true ∧ impB e (frm L (ofN X)) = true :=
  ⟨impB_iff.2 ⟨hv, h.1, fun p hp => by rw [← frm_tru h hX]; exact hp⟩, impB_iff.2 ⟨h.1, hv, fun p hp => by rw [frm_tru h hX]; exact hp⟩⟩
/-! ### Blocking sets -/
/-- The expression is hopeless without the set. -/
def blkF (e : Ex) (L : List A3) (S : List Bool) : Bool := !e.hld L (deadS L.length S)
theorem blk_dual {e : Ex} {L : List A3} (h : VL e L) {X : List (List Nat)} : MinOf ((dual e).hld L) L.length X ↔ MinOf (blkF e L) L.length X :=
  ⟨MinOf.congr (fun S _ => dual_hld h S), MinOf.congr (fun S _ => (dual_hld h S).symm)⟩
/-- A minimal set and a blocking set have an atom in common. -/
theorem meets {e : Ex} {L : List A3} (h : VL e L) {X Y : List (List Nat)} (hX : MinOf (e.hld L) L.length X) (hY : MinOf (blkF e L) L.length Y) {s t : List Nat} (hs : s ∈ X) (ht : t ∈ Y) : ∃ i, i ∈ s ∧ i ∈ t := by
  obtain ⟨b, hb, hbm, rfl⟩ := (hX.2 s).1 hs
  obtain ⟨c, hc, hcm, rfl⟩ := (hY.2 t).1 ht
  have h1 := (minB_iff.1 hbm).1
  have h2 := (minB_iff.1 hcm).1
  unfold blkF at h2
  rw [Bool.not_eq_true'] at h2
  refine Classical.byContradiction fun hno => ?_
  have h3 := hld_mono (L := L) (S := bitS L.length b) (T := deadS L.length (bitS L.length c)) (fun i hi => ?_) e h1
  · rw [h3] at h2; cases h2
  · rw [bitS_at, Bool.and_eq_true, decide_eq_true_iff] at hi
    unfold deadS
    rw [map_getD, decide_eq_true hi.1, Bool.true_and, bitS_at, decide_eq_true hi.1, Bool.true_and, Bool.not_eq_true']
    cases hci : c.testBit i with
    | false => rfl
    | true => exact absurd ⟨i, bitL_mem.2 hi, bitL_mem.2 ⟨hi.1, hci⟩⟩ hno
theorem min_some {e : Ex} {L : List A3} (h : VL e L) {X : List (List Nat)} (hX : MinOf (e.hld L) L.length X) : X ≠ [] := by
  have h1 := hld_all (L := L) (S := List.replicate L.length true) (fun i hi => by simp [List.getD_eq_getElem?_getD, hi]) e h.good
  obtain ⟨s, hs, _⟩ := (covers hX _).1 h1
  rintro rfl
  cases hs
theorem blk_covers {e : Ex} {L : List A3} (h : VL e L) {Y : List (List Nat)} (hY : MinOf (blkF e L) L.length Y) (S : List Bool) : blkF e L S = true ↔ ∃ s ∈ Y, ∀ i ∈ s, S.getD i false = true := by
  unfold blkF
  rw [← dual_hld h S]
  exact covers ((blk_dual h).2 hY) S
end Go.Proofs.YtohjllnfnkajjaaGreat

namespace Go.Proofs.YtohjllnfnkajjaaGreat
open Go.RowKit
set_option linter.unusedVariables false
theorem shr_run (b i : Nat) (hi : i < 64) (w : World) : (binOp .shr 3 (.int .i64 (b : Int)) (.int .u64 (i : Int))).run Tryz.prog w = .ok (.int .i64 ((b / 2 ^ i : Nat) : Int)) w := by
  go_simp
theorem and_run (b : Nat) (hb : b < 1000) (w : World) : (binOp .and 3 (.int .i64 (b : Int)) (.int .i64 1)).run Tryz.prog w = .ok (.int .i64 ((b % 2 : Nat) : Int)) w := by
  go_simp
  show IntKind.i64.wrap (((BitVec.ofInt 64 (b : Int) &&& BitVec.ofInt 64 1).toNat : Nat) : Int) = (b : Int) % 2
  have h1 : (BitVec.ofInt 64 (b : Int)).toNat = b := by rw [BitVec.toNat_ofInt]; omega
  have h2 : (BitVec.ofInt 64 1).toNat = 1 := rfl
  rw [BitVec.toNat_and, h1, h2, Nat.and_one_is_mod, IntKind.wrap_i64]
  omega
theorem shl_run (i : Nat) (hi : i < 10) (w : World) : (binOp .shl 3 (.int .i64 1) (.int .u64 (i : Int))).run Tryz.prog w = .ok (.int .i64 ((2 ^ i : Nat) : Int)) w := by
  go_simp
  obtain rfl | rfl | rfl | rfl | rfl | rfl | rfl | rfl | rfl | rfl : i = 0 ∨ i = 1 ∨ i = 2 ∨ i = 3 ∨ i = 4 ∨ i = 5 ∨ i = 6 ∨ i = 7 ∨ i = 8 ∨ i = 9 := by omega
  all_goals rfl
/-- A number without one of its bits. -/
def clrN (b i : Nat) : Nat := if b.testBit i = true then b - 2 ^ i else b
theorem clr_all : ∀ b : Fin 256, ∀ i : Fin 8, IntKind.i64.wrap (((BitVec.ofInt 64 (b.val : Int) &&& ~~~BitVec.ofInt 64 ((2 ^ i.val : Nat) : Int)).toNat : Nat) : Int) = (clrN b.val i.val : Int) ∧ clrN b.val i.val ≤ b.val := by decide +kernel
theorem clr_bit : ∀ b : Fin 256, ∀ i j : Fin 8, (clrN b.val i.val).testBit j.val = (b.val.testBit j.val && !decide (i = j)) := by decide +kernel
theorem andNot_run (b i : Nat) (hb : b < 256) (hi : i < 8) (w : World) : (binOp .andNot 3 (.int .i64 (b : Int)) (.int .i64 ((2 ^ i : Nat) : Int))).run Tryz.prog w = .ok (.int .i64 (clrN b i : Int)) w := by
  have h := (clr_all ⟨b, hb⟩ ⟨i, hi⟩).1
  go_simp
  simp only at h
  rw [← h]
  first | rfl | (push_cast; rfl)
theorem bitS_clr {n b i : Nat} (hn : n ≤ 8) (hb : b < 256) (hi : i < n) : bitS n (clrN b i) = (bitS n b).set i false := by
  refine List.ext_getElem (by simp [bitS]) fun j h1 h2 => ?_
  have hj : j < n := by rw [bitS_len] at h1; exact h1
  have h := clr_bit ⟨b, hb⟩ ⟨i, by omega⟩ ⟨j, by omega⟩
  simp only [Fin.mk.injEq] at h
  rw [List.getElem_set]
  by_cases e : i = j
  · subst e
    rw [if_pos rfl]
    simp [bitS]
    rw [h]
    simp
  · rw [if_neg e]
    simp [bitS]
    rw [h]
    simp [e]
theorem clrN_lt {b i : Nat} (hb : b < 256) (hi : i < 8) : clrN b i < 256 := by have := (clr_all ⟨b, hb⟩ ⟨i, hi⟩).2; simp only at this; omega
theorem bit_test (b i : Nat) : (((b / 2 ^ i % 2 : Nat) : Int) == 1) = b.testBit i := by
  rw [Nat.testBit_eq_decide_div_mod_eq, Bool.eq_iff_iff, beq_iff_eq, decide_eq_true_iff]
  omega
end Go.Proofs.YtohjllnfnkajjaaGreat
