/- What the grammar's reader answers: tokens are used up, what it makes is valid; places of tokens do not matter to what it makes. Nothing here speaks of a program. -/
import Derived.Test.YtohjllnfnkajjaaGreatRd
namespace Go.Proofs.YtohjllnfnkajjaaGreat
open Go.RowKit
set_option linter.unusedVariables false

/-! ### Tokens of a text -/
/-- What is true of a token that is not the end. -/
def okT (t : T4) : Prop :=
  (t.1 = 1 ∧ ltr (byt t.2.1 0) = true ∧ 1 ≤ t.2.1.size ∧ t.2.1.size ≤ 12 ∧ (∀ i, i < t.2.1.size → prt (byt t.2.1 i) = true)) ∨
  (t.1 = 2 ∧ cpl (byt t.2.1 0) = true ∧ 1 ≤ t.2.2.1 ∧ t.2.2.1 ≤ 5) ∨ (t.1 = 3 ∧ t.2.1 = ⟨#[]⟩ ∧ 0 ≤ t.2.2.1) ∨ (t.1 = 4 ∧ pun (byt t.2.1 0) = true)
def WT : List T4 → Prop
  | [] => False
  | [t] => t.1 = 5 ∧ t.2.1 = ⟨#[]⟩
  | t :: u :: r => okT t ∧ WT (u :: r)
theorem byt_nil : byt ⟨#[]⟩ 0 = 0 := rfl
theorem ltr_x {c : Int} (h : ltr c = true) : 97 ≤ c ∧ c ≤ 122 := of_decide_eq_true h
theorem cpl_x {c : Int} (h : cpl c = true) : 65 ≤ c ∧ c ≤ 90 := of_decide_eq_true h
theorem pun_x {c : Int} (h : pun c = true) : c = 40 ∨ c = 41 ∨ c = 44 ∨ c = 58 ∨ c = 42 := of_decide_eq_true h
theorem okT.word {t : T4} (h : okT t) (hw : ltr (byt t.2.1 0) = true) : t.1 = 1 := by
  have h0 := ltr_x hw
  rcases h with ⟨h, _⟩ | ⟨_, h, _⟩ | ⟨_, h, _⟩ | ⟨_, h⟩
  · exact h
  · have := cpl_x h; omega
  · rw [h, byt_nil] at h0; omega
  · have := pun_x h; omega
theorem okT.punc {t : T4} (h : okT t) (hw : pun (byt t.2.1 0) = true) : t.1 = 4 := by
  have h0 := pun_x hw
  rcases h with ⟨_, h, _⟩ | ⟨_, h, _⟩ | ⟨_, h, _⟩ | ⟨h, _⟩
  · have := ltr_x h; omega
  · have := cpl_x h; omega
  · rw [h, byt_nil] at h0; omega
  · exact h
theorem WT.ne {t : List T4} (h : WT t) : t ≠ [] := by rintro rfl; exact h
theorem WT.cons {t : List T4} (h : WT t) : t = hd t :: t.tail := by
  cases t with
  | nil => exact h.elim
  | cons a r => rfl
theorem WT.next {t : List T4} (h : WT t) (hk : (hd t).1 ≠ 5) : okT (hd t) ∧ WT t.tail ∧ t.tail.length < t.length ∧ 1 < t.length := by
  match t, h with
  | [a], h => exact absurd h.1 hk
  | a :: u :: r, h => exact ⟨h.1, h.2, by simp, by simp⟩
theorem WT.last {t : List T4} (h : WT t) (hk : (hd t).1 = 5) : t.length = 1 ∧ (hd t).2.1 = ⟨#[]⟩ := by
  match t, h with
  | [a], h => exact ⟨rfl, h.2⟩
  | a :: u :: r, h =>
    exfalso
    have hk' : a.1 = 5 := hk
    rcases h.1 with ⟨h, _⟩ | ⟨h, _⟩ | ⟨h, _⟩ | ⟨h, _⟩ <;> omega
theorem WT.word {t : List T4} (h : WT t) (hw : ltr (byt (hd t).2.1 0) = true) : (hd t).1 = 1 ∧ WT t.tail ∧ t.tail.length < t.length ∧ 1 < t.length := by
  by_cases hk : (hd t).1 = 5
  · have := (h.last hk).2
    rw [this, byt_nil] at hw
    cases hw
  · obtain ⟨h1, h2⟩ := h.next hk
    exact ⟨h1.word hw, h2⟩
theorem WT.punc {t : List T4} (h : WT t) (hw : pun (byt (hd t).2.1 0) = true) : (hd t).1 = 4 ∧ WT t.tail ∧ t.tail.length < t.length ∧ 1 < t.length := by
  by_cases hk : (hd t).1 = 5
  · have := (h.last hk).2
    rw [this, byt_nil] at hw
    cases hw
  · obtain ⟨h1, h2⟩ := h.next hk
    exact ⟨h1.punc hw, h2⟩
theorem mkB_byt (l : List UInt8) (i : Nat) : byt (mkB l) i = ((l.getD i 0).toNat : Int) := by unfold byt; rw [mkB_data]
theorem tk1_ok {c : UInt8} {r : List UInt8} {k : Int} {t : List UInt8} {n : Int} {q : Nat} (h : tk1 (c.toNat : Int) (c :: r) = .tok k t n q) (p : Int) : okT (k, mkB t, n, p) := by
  unfold tk1 at h
  split at h
  · cases h
  · split at h
    · rename_i hL
      split at h
      · cases h
      · rename_i h12
        injection h with e1 e2 e3 e4
        subst e1 e2 e3 e4
        have hp : prt (c.toNat : Int) = true := by have := ltr_x hL; unfold prt; simp; omega
        have hpos : 1 ≤ tw prt (c :: r) := by rw [tw_cons hp]; omega
        have hl : ((c :: r).take (tw prt (c :: r))).length = tw prt (c :: r) := by rw [List.length_take]; have := tw_le prt (c :: r); omega
        refine .inl ⟨rfl, ?_, ?_, ?_, fun i hi => ?_⟩
        · obtain ⟨m, hm⟩ : ∃ m, tw prt (c :: r) = m + 1 := ⟨_, (Nat.sub_add_cancel hpos).symm⟩
          rw [mkB_byt, hm, List.take_succ_cons]
          exact hL
        · show 1 ≤ (mkB _).size; rw [mkB_size, hl]; exact hpos
        · show (mkB _).size ≤ 12; rw [mkB_size, hl]; omega
        · have hi' : i < ((c :: r).take (tw prt (c :: r))).length := by have : i < (mkB ((c :: r).take (tw prt (c :: r)))).size := hi; rwa [mkB_size] at this
          rw [mkB_byt, List.getD_eq_getElem?_getD, List.getElem?_eq_getElem hi']
          exact tw_mem _ (List.getElem_mem hi')
    · split at h
      · rename_i hC
        split at h
        · cases h
        · rename_i hm
          injection h with e1 e2 e3 e4
          subst e1 e2 e3 e4
          have hpos : 1 ≤ tw cpl (c :: r) := by rw [tw_cons hC]; omega
          refine .inr (.inl ⟨rfl, ?_, ?_⟩)
          · obtain ⟨m, hm⟩ : ∃ m, tw cpl (c :: r) = m + 1 := ⟨_, (Nat.sub_add_cancel hpos).symm⟩
            rw [mkB_byt, hm, List.take_succ_cons]
            exact hC
          · show 1 ≤ mdL _ ∧ mdL _ ≤ 5
            revert hm
            unfold mdL
            repeat (first | split | (intro _; omega))
      · split at h
        · cases hn : numO ((c :: r).take (tw dig (c :: r))) with
          | none => rw [hn] at h; cases h
          | some v =>
            rw [hn] at h
            injection h with e1 e2 e3 e4
            subst e1 e2 e3 e4
            exact .inr (.inr (.inl ⟨rfl, rfl, by show (0 : Int) ≤ v; omega⟩))
        · split at h
          · rename_i hP
            injection h with e1 e2 e3 e4
            subst e1 e2 e3 e4
            refine .inr (.inr (.inr ⟨rfl, ?_⟩))
            rw [mkB_byt]
            exact hP
          · cases h
theorem LR.put_ok {a : List T4} {r : LR} {l : List T4} (h : r.put a = .ok l) : ∃ y, r = .ok y ∧ l = a ++ y := by
  cases r with
  | ok y => simp only [LR.put, LR.ok.injEq] at h; exact ⟨y, rfl, h.symm⟩
  | no i e => simp [LR.put] at h
theorem wt_lex : ∀ (f i : Nat) (l : List UInt8) (x : List T4), l.length ≤ f → lexL i l = .ok x → WT x
  | f, i, [], x, _, h => by
    rw [lexL_nil] at h
    injection h with h
    subst h
    exact ⟨rfl, rfl⟩
  | 0, i, c :: r, x, h, _ => by simp at h
  | f + 1, i, c :: r, x, h, hx => by
    simp only [List.length_cons] at h
    cases ht : tk1 (c.toNat : Int) (c :: r) with
    | sp =>
      have hs : lexL i (c :: r) = lexL (i + 1) r := by
        unfold lexL
        rw [List.length_cons]
        simp only [lexF, ht]
      rw [hs] at hx
      exact wt_lex f _ r x (by omega) hx
    | bad e => rw [lexL_bad ht] at hx; cases hx
    | tok k t m q =>
      have hq := (tk1_len ht).1
      rw [lexL_tok ht] at hx
      obtain ⟨y, hy, rfl⟩ := LR.put_ok hx
      have := wt_lex f _ _ y (by simp; omega) hy
      cases y with
      | nil => exact this.elim
      | cons u y => exact ⟨tk1_ok ht _, this⟩
theorem wt_lexR {s : ByteArray} (h : (lexR s).2.2 = 0) : WT (lexR s).1 := by
  unfold lexR at h ⊢
  split
  · rename_i h1
    rw [if_pos h1] at h
    simp at h
  · rename_i h1
    rw [if_neg h1] at h
    unfold lexAt at h ⊢
    cases hl : lexL 0 (s.data.toList.drop 0) with
    | ok x => exact wt_lex _ 0 _ x (Nat.le_refl _) hl
    | no i e =>
      rw [hl] at h
      have h89 : ∀ (n i : Nat) (l : List UInt8) (j : Nat), l.length ≤ n → lexL i l ≠ .no j 0 := by
        intro n
        induction n with
        | zero =>
          intro i l j hl h2
          have : l = [] := List.eq_nil_of_length_eq_zero (by omega)
          subst this
          rw [lexL_nil] at h2
          cases h2
        | succ n ih =>
          intro i l j hl h2
          cases l with
          | nil => rw [lexL_nil] at h2; cases h2
          | cons c r =>
            simp only [List.length_cons] at hl
            cases ht : tk1 (c.toNat : Int) (c :: r) with
            | sp =>
              have hs : lexL i (c :: r) = lexL (i + 1) r := by
                unfold lexL
                rw [List.length_cons]
                simp only [lexF, ht]
              rw [hs] at h2
              exact ih _ _ _ (by omega) h2
            | bad e =>
              rw [lexL_bad ht] at h2
              injection h2 with _ h2
              subst h2
              unfold tk1 at ht
              split at ht
              · cases ht
              · split at ht
                · split at ht
                  · injection ht with ht; omega
                  · cases ht
                · split at ht
                  · split at ht
                    · injection ht with ht; omega
                    · cases ht
                  · split at ht
                    · cases hn : numO ((c :: r).take (tw dig (c :: r))) with
                      | none => rw [hn] at ht; injection ht with ht; omega
                      | some v => rw [hn] at ht; cases ht
                    · split at ht
                      · cases ht
                      · injection ht with ht; omega
            | tok k t m q =>
              have hq := (tk1_len ht).1
              rw [lexL_tok ht] at h2
              cases h3 : lexL (i + q) ((c :: r).drop q) with
              | ok y => rw [h3] at h2; cases h2
              | no i2 e2 =>
                rw [h3] at h2
                injection h2 with h4 h5
                subst h5
                exact ih _ _ _ (by simp at *; omega) h3
      simp only [lexA] at h
      subst h
      exact absurd hl (h89 _ 0 _ i (Nat.le_refl _))

/-! ### What is made is valid -/
theorem wAll_l : ltr (byt wAll 0) = true := by decide
theorem wAny_l : ltr (byt wAny 0) = true := by decide
theorem wOf_l : ltr (byt wOf 0) = true := by decide
theorem wPrio_l : ltr (byt wPrio 0) = true := by decide
theorem wLim_l : ltr (byt wLim 0) = true := by decide
theorem wOpen_p : pun (byt wOpen 0) = true := by decide
theorem wCls_p : pun (byt wCls 0) = true := by decide
theorem wCom_p : pun (byt wCom 0) = true := by decide
theorem wCol_p : pun (byt wCol 0) = true := by decide
theorem wStar_p : pun (byt wStar 0) = true := by decide
theorem mayB_is {t : T4} (h : mayB t ≠ false) : t.1 = 3 ∨ (t.1 = 1 ∧ (t.2.1 = wAll ∨ t.2.1 = wAny ∨ rsv t.2.1 = false)) := by
  rw [Bool.ne_false_iff] at h
  exact of_decide_eq_true h
theorem mayB_no {t : T4} (h : mayB t = false) : ¬ (t.1 = 3 ∨ (t.1 = 1 ∧ (t.2.1 = wAll ∨ t.2.1 = wAny ∨ rsv t.2.1 = false))) := of_decide_eq_false h
theorem okT.nam {t : T4} (h : okT t) (h1 : t.1 = 1) (hr : rsv t.2.1 = false) : Nam t.2.1 := by
  rcases h with ⟨_, h2, h3, h4, h5⟩ | ⟨h, _⟩ | ⟨h, _⟩ | ⟨h, _⟩
  · exact ⟨h3, h4, h2, h5, hr⟩
  · omega
  · omega
  · omega
theorem vld_atom {a : A3} {l : List A3} (hn : Nam a.1) (hu : usb a.2.1 a.2.2 = true) (hi : (incl l a).2 = 0) : vld (Ex.nd 0 a []).pre l = some (incl l a).1 := by
  rw [Ex.pre, preL, vld]
  have hg : ¬ grp (Ex.nd 0 a []) = true := fun h => by have := (grp_is h).2.1; simp [Ex.k] at this
  have ha : atm (Ex.nd 0 a []) = true := atm_mk ⟨rfl, rfl, hn, hu⟩
  have hi' : (incl l (Ex.nd 0 a []).a).2 = 0 := hi
  rw [if_neg hg, if_pos ha, if_pos hi']
  rfl
/-- What the parts of the parser that make atoms answer. -/
theorem pA_ok {t : List T4} {n : Nat} {l : List A3} {e : Ex} {t' : List T4} {n' : Nat} {l' : List A3} (h : WT t) (h1 : (hd t).1 = 1) (hr : rsv (hd t).2.1 = false) (hp : pA t n l = .ok e t' n' l') :
    WT t' ∧ t'.length < t.length ∧ n' = n ∧ e.cnt = 1 ∧ e.dp = 1 ∧ vld e.pre l = some l' := by
  obtain ⟨ok1, w1, g1, _⟩ := h.next (by omega)
  have hnam := ok1.nam h1 hr
  have fin : ∀ (a : A3) (t2 : List T4), WT t2 → t2.length < t.length → a.1 = (hd t).2.1 → usb a.2.1 a.2.2 = true → atEnd (hd t) a t2 n l = .ok e t' n' l' → WT t' ∧ t'.length < t.length ∧ n' = n ∧ e.cnt = 1 ∧ e.dp = 1 ∧ vld e.pre l = some l' := by
    intro a t2 hw hl ha hu hh
    unfold atEnd at hh
    split at hh
    · rename_i hi
      injection hh with e1 e2 e3 e4
      subst e1 e2 e3 e4
      exact ⟨hw, hl, rfl, by simp [Ex.cnt, cntL], by simp [Ex.dp, dpL], vld_atom (by rw [ha]; exact hnam) hu hi⟩
    · cases hh
  unfold pA at hp
  split at hp
  · rename_i hs
    obtain ⟨_, w2, g2, _⟩ := w1.punc (by rw [hs]; exact wStar_p)
    split at hp
    · rename_i h3
      obtain ⟨_, w3, g3, _⟩ := w2.next (by omega)
      split at hp
      · rename_i h8
        exact fin ((hd t).2.1, 0, (hd t.tail.tail).2.2.1) _ w3 (by omega) rfl (decide_eq_true (.inr ⟨rfl, h8.1, h8.2⟩)) hp
      · cases hp
    · cases hp
  · split at hp
    · rename_i hs
      obtain ⟨_, w2, g2, _⟩ := w1.punc (by rw [hs]; exact wCol_p)
      split at hp
      · rename_i h3
        obtain ⟨ok3, w3, g3, _⟩ := w2.next (by omega)
        have h15 : 1 ≤ (hd t.tail.tail).2.2.1 ∧ (hd t.tail.tail).2.2.1 ≤ 5 := by
          rcases ok3 with ⟨h, _⟩ | ⟨_, _, h⟩ | ⟨h, _⟩ | ⟨h, _⟩
          · omega
          · exact h
          · omega
          · omega
        exact fin ((hd t).2.1, (hd t.tail.tail).2.2.1, 0) _ w3 (by omega) rfl (decide_eq_true (.inl ⟨h15.1, h15.2, rfl⟩)) hp
      · cases hp
    · cases hp
theorem PR.grp_ok {f : List Ex → Int} {r : PR (List Ex)} {e : Ex} {t : List T4} {n : Nat} {l : List A3} (h : r.grp f = .ok e t n l) : ∃ ks, r = .ok ks t n l ∧ e = .nd (f ks) z3 ks := by
  cases r with
  | ok ks t0 n0 l0 => simp only [PR.grp, PR.ok.injEq] at h; obtain ⟨rfl, rfl, rfl, rfl⟩ := h; exact ⟨ks, rfl, rfl⟩
  | no p e => simp [PR.grp] at h
theorem PR.num_ok {v p : Int} {r : PR (List Ex)} {e : Ex} {t : List T4} {n : Nat} {l : List A3} (h : r.num v p = .ok e t n l) : ∃ ks, r = .ok ks t n l ∧ e = .nd v z3 ks ∧ 1 ≤ v ∧ v ≤ (ks.length : Int) := by
  cases r with
  | ok ks t0 n0 l0 =>
    simp only [PR.num] at h
    split at h
    · rename_i hv
      simp only [PR.ok.injEq] at h
      obtain ⟨rfl, rfl, rfl, rfl⟩ := h
      exact ⟨ks, rfl, rfl, hv.1, hv.2⟩
    · cases h
  | no p e => simp [PR.num] at h
theorem vld_grp {k : Int} {ks : List Ex} {l l' : List A3} (h1 : 1 ≤ k) (h2 : k ≤ (ks.length : Int)) (h : vld (preL ks) l = some l') : vld (Ex.nd k z3 ks).pre l = some l' := by
  rw [Ex.pre, vld, if_pos (by unfold grp; exact decide_eq_true ⟨rfl, h1, h2⟩)]
  exact h
def EOk (f : Nat) : Prop := ∀ (d : Nat) (t : List T4) (n : Nat) (l : List A3) (e : Ex) (t' : List T4) (n' : Nat) (l' : List A3), WT t → pE f d t n l = .ok e t' n' l' →
  WT t' ∧ t'.length < t.length ∧ n' = n + e.cnt ∧ n' ≤ 24 ∧ d + e.dp ≤ 5 ∧ vld e.pre l = some l'
def KOk (f : Nat) : Prop := ∀ (d : Nat) (t : List T4) (n : Nat) (l : List A3) (ks : List Ex) (t' : List T4) (n' : Nat) (l' : List A3), WT t → d ≤ 4 → pK f d t n l = .ok ks t' n' l' →
  WT t' ∧ t'.length < t.length ∧ 1 ≤ ks.length ∧ n' = n + cntL ks ∧ n' ≤ 24 ∧ d + 1 + dpL ks ≤ 5 ∧ vld (preL ks) l = some l'
def MOk (f : Nat) : Prop := ∀ (d : Nat) (acc : List Ex) (t : List T4) (n : Nat) (l : List A3) (ks : List Ex) (t' : List T4) (n' : Nat) (l' : List A3), WT t → d ≤ 4 → n ≤ 24 → pM f d acc t n l = .ok ks t' n' l' →
  WT t' ∧ t'.length < t.length ∧ ∃ m, ks = acc ++ m ∧ n' = n + cntL m ∧ n' ≤ 24 ∧ d + 1 + dpL m ≤ 5 ∧ vld (preL m) l = some l'
theorem parts_ok : ∀ f, EOk f ∧ KOk f ∧ MOk f
  | 0 => ⟨(fun d t n l e t' n' l' _ h => by rw [pE] at h; cases h), (fun d t n l e t' n' l' _ _ h => by rw [pK] at h; cases h), (fun d acc t n l e t' n' l' _ _ _ h => by rw [pM] at h; cases h)⟩
  | f + 1 => by
    obtain ⟨ihE, ihK, ihM⟩ := parts_ok f
    refine ⟨fun d t n l e t' n' l' hw h => ?_, fun d t n l ks t' n' l' hw hd4 h => ?_, fun d acc t n l ks t' n' l' hw hd4 hn h => ?_⟩
    · rw [pE] at h
      split at h
      · cases h
      · rename_i hm
        have hmb := mayB_is hm
        split at h
        · cases h
        · rename_i hlim
          split at h
          · rename_i ha
            obtain ⟨_, w1, g1, _⟩ := hw.word (by rw [ha]; exact wAll_l)
            obtain ⟨ks, hk, rfl⟩ := PR.grp_ok h
            obtain ⟨q1, q2, q3, q4, q5, q6, q7⟩ := ihK _ _ _ _ _ _ _ _ w1 (by omega) hk
            exact ⟨q1, by omega, by rw [Ex.cnt]; omega, q5, by rw [Ex.dp]; omega, vld_grp (by omega) (Int.le_refl _) q7⟩
          · rename_i ha
            split at h
            · rename_i hb
              obtain ⟨_, w1, g1, _⟩ := hw.word (by rw [hb]; exact wAny_l)
              obtain ⟨ks, hk, rfl⟩ := PR.grp_ok h
              obtain ⟨q1, q2, q3, q4, q5, q6, q7⟩ := ihK _ _ _ _ _ _ _ _ w1 (by omega) hk
              exact ⟨q1, by omega, by rw [Ex.cnt]; omega, q5, by rw [Ex.dp]; omega, vld_grp (by omega) (by omega) q7⟩
            · rename_i hb
              split at h
              · rename_i h3
                obtain ⟨_, w1, g1, _⟩ := hw.next (by omega)
                split at h
                · rename_i ho
                  obtain ⟨_, w2, g2, _⟩ := w1.word (by rw [ho]; exact wOf_l)
                  obtain ⟨ks, hk, rfl, hv1, hv2⟩ := PR.num_ok h
                  obtain ⟨q1, q2, q3, q4, q5, q6, q7⟩ := ihK _ _ _ _ _ _ _ _ w2 (by omega) hk
                  exact ⟨q1, by omega, by rw [Ex.cnt]; omega, q5, by rw [Ex.dp]; omega, vld_grp hv1 hv2 q7⟩
                · cases h
              · rename_i h3
                obtain ⟨h1, hr⟩ : (hd t).1 = 1 ∧ rsv (hd t).2.1 = false := by
                  rcases hmb with h | ⟨h, h | h | h⟩
                  · exact absurd h h3
                  · exact absurd h ha
                  · exact absurd h hb
                  · exact ⟨‹_›, h⟩
                obtain ⟨q1, q2, q3, q4, q5, q6⟩ := pA_ok hw h1 hr h
                exact ⟨q1, q2, by omega, by omega, by omega, q6⟩
    · rw [pK] at h
      split at h
      · rename_i ho
        obtain ⟨_, w1, g1, _⟩ := hw.punc (by rw [ho]; exact wOpen_p)
        cases he : pE f (d + 1) t.tail n l with
        | no p e => rw [he] at h; cases h
        | ok e t1 n1 l1 =>
          rw [he] at h
          obtain ⟨q1, q2, q3, q4, q5, q6⟩ := ihE _ _ _ _ _ _ _ _ w1 he
          obtain ⟨p1, p2, m, rfl, p3, p4, p5, p6⟩ := ihM _ _ _ _ _ _ _ _ _ q1 hd4 q4 h
          refine ⟨p1, by omega, by simp, ?_, p4, ?_, ?_⟩
          · rw [List.singleton_append, cntL]; omega
          · rw [List.singleton_append, dpL]; omega
          · rw [List.singleton_append, preL, vld_append, q6]; exact p6
      · cases h
    · rw [pM] at h
      split at h
      · rename_i ho
        obtain ⟨_, w1, g1, _⟩ := hw.punc (by rw [ho]; exact wCom_p)
        cases he : pE f (d + 1) t.tail n l with
        | no p e => rw [he] at h; cases h
        | ok e t1 n1 l1 =>
          rw [he] at h
          obtain ⟨q1, q2, q3, q4, q5, q6⟩ := ihE _ _ _ _ _ _ _ _ w1 he
          obtain ⟨p1, p2, m, rfl, p3, p4, p5, p6⟩ := ihM _ _ _ _ _ _ _ _ _ q1 hd4 q4 h
          refine ⟨p1, by omega, e :: m, by simp, ?_, p4, ?_, ?_⟩
          · rw [cntL]; omega
          · rw [dpL]; omega
          · rw [preL, vld_append, q6]; exact p6
      · split at h
        · rename_i hc
          obtain ⟨_, w1, g1, _⟩ := hw.punc (by rw [hc]; exact wCls_p)
          injection h with e1 e2 e3 e4
          subst e1 e2 e3 e4
          exact ⟨w1, g1, [], by simp, by simp [cntL], hn, by simp [dpL]; omega, by simp [preL, vld]⟩
        · cases h
theorem pE_ok {f d : Nat} {t : List T4} {n : Nat} {l : List A3} {e : Ex} {t' : List T4} {n' : Nat} {l' : List A3} (hw : WT t) (h : pE f d t n l = .ok e t' n' l') :
    WT t' ∧ t'.length < t.length ∧ n' = n + e.cnt ∧ n' ≤ 24 ∧ d + e.dp ≤ 5 ∧ vld e.pre l = some l' := (parts_ok f).1 _ _ _ _ _ _ _ _ hw h
theorem pK_ok {f d : Nat} {t : List T4} {n : Nat} {l : List A3} {ks : List Ex} {t' : List T4} {n' : Nat} {l' : List A3} (hw : WT t) (hd4 : d ≤ 4) (h : pK f d t n l = .ok ks t' n' l') :
    WT t' ∧ t'.length < t.length ∧ 1 ≤ ks.length ∧ n' = n + cntL ks ∧ n' ≤ 24 ∧ d + 1 + dpL ks ≤ 5 ∧ vld (preL ks) l = some l' := (parts_ok f).2.1 _ _ _ _ _ _ _ _ hw hd4 h
theorem pS_ok {w : ByteArray} {g : Int} {t : List T4} {v : Int} {t' : List T4} {n : Nat} {l : List A3} (hw : WT t) (hl : ltr (byt w 0) = true) (hg : 0 ≤ g) (h : pS w g t = .ok v t' n l) : WT t' ∧ 0 ≤ v ∧ v ≤ g := by
  unfold pS at h
  split at h
  · rename_i hs
    obtain ⟨_, w1, g1, _⟩ := hw.word (by rw [hs]; exact hl)
    split at h
    · rename_i h3
      obtain ⟨ok2, w2, g2, _⟩ := w1.next (by omega)
      split at h
      · cases h
      · rename_i hv
        injection h with e1 e2 e3 e4
        subst e1 e2
        refine ⟨w2, ?_, by omega⟩
        rcases ok2 with ⟨h, _⟩ | ⟨h, _⟩ | ⟨_, _, h⟩ | ⟨h, _⟩
        · omega
        · omega
        · exact h
        · omega
    · cases h
  · injection h with e1 e2 e3 e4
    subst e1 e2
    exact ⟨hw, Int.le_refl _, hg⟩
theorem pQ_ok {t : List T4} {r : R3} (hw : WT t) (h : pQ t = .ok r) : Vrq r := by
  unfold pQ at h
  cases he : pE (t.length + 1) 1 t 0 [] with
  | no p e => rw [he] at h; cases h
  | ok e t0 n0 l0 =>
    rw [he] at h
    obtain ⟨w0, _, q1, q2, q3, q4⟩ := pE_ok hw he
    simp only [pPri] at h
    cases hp : pS wPrio 7 t0 with
    | no p e => rw [hp] at h; cases h
    | ok p t1 n1 l1 =>
      rw [hp] at h
      obtain ⟨w1, p1, p2⟩ := pS_ok w0 wPrio_l (by omega) hp
      simp only [pLim] at h
      cases hm : pS wLim 1000 t1 with
      | no p e => rw [hm] at h; cases h
      | ok m t2 n2 l2 =>
        rw [hm] at h
        obtain ⟨w2, m1, m2⟩ := pS_ok w1 wLim_l (by omega) hm
        simp only at h
        split at h
        · injection h with h
          subst h
          exact ⟨⟨by show e.dp ≤ 4; omega, by show e.cnt ≤ 24; omega, l0, q4⟩, p1, p2, m1, m2⟩
        · cases h
theorem pR_ok {s : ByteArray} {r : R3} (h : pR s = .ok r) : Vrq r := by
  unfold pR at h
  split at h
  · rename_i h0
    exact pQ_ok (wt_lexR h0) h
  · cases h

/-! ### Places do not matter -/
def bare (t : List T4) : List (Int × ByteArray × Int) := t.map fun x => (x.1, x.2.1, x.2.2.1)
theorem bare_hd {t u : List T4} (h : bare t = bare u) : (hd t).1 = (hd u).1 ∧ (hd t).2.1 = (hd u).2.1 ∧ (hd t).2.2.1 = (hd u).2.2.1 := by
  cases t with
  | nil =>
    cases u with
    | nil => exact ⟨rfl, rfl, rfl⟩
    | cons b u => simp [bare] at h
  | cons a t =>
    cases u with
    | nil => simp [bare] at h
    | cons b u =>
      simp only [bare, List.map_cons, List.cons.injEq, Prod.mk.injEq] at h
      exact h.1
theorem bare_tail {t u : List T4} (h : bare t = bare u) : bare t.tail = bare u.tail := by
  unfold bare at *
  rw [List.map_tail, List.map_tail, h]
theorem bare_len {t u : List T4} (h : bare t = bare u) : t.length = u.length := by
  have := congrArg List.length h
  simpa [bare] using this
theorem bare_app (t u : List T4) : bare (t ++ u) = bare t ++ bare u := by simp [bare]
def PR.sim {α : Type} : PR α → PR α → Prop
  | .ok x t n l, .ok y u m k => x = y ∧ bare t = bare u ∧ n = m ∧ l = k
  | .no _ e, .no _ f => e = f
  | _, _ => False
theorem PR.sim_ok {α : Type} {r s : PR α} (h : r.sim s) {x : α} {t : List T4} {n : Nat} {l : List A3} (hr : r = .ok x t n l) : ∃ u, s = .ok x u n l ∧ bare t = bare u := by
  subst hr
  cases s with
  | ok y u m k => obtain ⟨rfl, h2, rfl, rfl⟩ := h; exact ⟨u, rfl, h2⟩
  | no p e => exact h.elim
theorem sim_if {α : Type} {c d : Prop} [Decidable c] [Decidable d] (hc : c ↔ d) {x y x' y' : PR α} (h1 : c → x.sim x') (h2 : ¬ c → y.sim y') : (if c then x else y).sim (if d then x' else y') := by
  by_cases h : c
  · rw [if_pos h, if_pos (hc.1 h)]; exact h1 h
  · rw [if_neg h, if_neg (fun k => h (hc.2 k))]; exact h2 h
theorem atEnd_sim {h g : T4} {a : A3} {t u : List T4} (ht : bare t = bare u) (n : Nat) (l : List A3) : (atEnd h a t n l).sim (atEnd g a u n l) := by
  unfold atEnd
  exact sim_if Iff.rfl (fun _ => ⟨rfl, ht, rfl, rfl⟩) (fun _ => rfl)
theorem pA_sim {t u : List T4} (h : bare t = bare u) (n : Nat) (l : List A3) : (pA t n l).sim (pA u n l) := by
  obtain ⟨a1, a2, a3⟩ := bare_hd h
  obtain ⟨b1, b2, b3⟩ := bare_hd (bare_tail h)
  obtain ⟨c1, c2, c3⟩ := bare_hd (bare_tail (bare_tail h))
  have hr := bare_tail (bare_tail (bare_tail h))
  unfold pA
  rw [a2, c3]
  refine sim_if (by rw [b2]) (fun _ => ?_) (fun _ => ?_)
  · refine sim_if (by rw [c1]) (fun _ => ?_) (fun _ => rfl)
    exact sim_if Iff.rfl (fun _ => atEnd_sim hr n l) (fun _ => rfl)
  · refine sim_if (by rw [b2]) (fun _ => ?_) (fun _ => rfl)
    exact sim_if (by rw [c1]) (fun _ => atEnd_sim hr n l) (fun _ => rfl)
theorem grp_sim {r s : PR (List Ex)} (h : r.sim s) (f : List Ex → Int) : (r.grp f).sim (s.grp f) := by
  cases r <;> cases s <;> simp only [PR.sim] at h
  · obtain ⟨rfl, h2, rfl, rfl⟩ := h; exact ⟨rfl, h2, rfl, rfl⟩
  · exact h
theorem num_sim {r s : PR (List Ex)} (h : r.sim s) (v p q : Int) : (r.num v p).sim (s.num v q) := by
  cases r <;> cases s <;> simp only [PR.sim] at h
  · obtain ⟨rfl, h2, rfl, rfl⟩ := h
    simp only [PR.num]
    exact sim_if Iff.rfl (fun _ => ⟨rfl, h2, rfl, rfl⟩) (fun _ => rfl)
  · exact h
theorem parts_sim : ∀ f, (∀ (d : Nat) (t u : List T4) (n : Nat) (l : List A3), bare t = bare u → (pE f d t n l).sim (pE f d u n l)) ∧
    (∀ (d : Nat) (t u : List T4) (n : Nat) (l : List A3), bare t = bare u → (pK f d t n l).sim (pK f d u n l)) ∧
    (∀ (d : Nat) (acc : List Ex) (t u : List T4) (n : Nat) (l : List A3), bare t = bare u → (pM f d acc t n l).sim (pM f d acc u n l))
  | 0 => ⟨(fun d t u n l _ => by rw [pE, pE]; rfl), (fun d t u n l _ => by rw [pK, pK]; rfl), (fun d acc t u n l _ => by rw [pM, pM]; rfl)⟩
  | f + 1 => by
    obtain ⟨ihE, ihK, ihM⟩ := parts_sim f
    refine ⟨fun d t u n l h => ?_, fun d t u n l h => ?_, fun d acc t u n l h => ?_⟩
    · obtain ⟨a1, a2, a3⟩ := bare_hd h
      obtain ⟨b1, b2, b3⟩ := bare_hd (bare_tail h)
      have hm : mayB (hd t) = mayB (hd u) := by unfold mayB; rw [a1, a2]
      rw [pE, pE]
      refine sim_if (by rw [hm]) (fun _ => rfl) (fun _ => ?_)
      refine sim_if Iff.rfl (fun _ => rfl) (fun _ => ?_)
      refine sim_if (by rw [a2]) (fun _ => grp_sim (ihK _ _ _ _ _ (bare_tail h)) _) (fun _ => ?_)
      refine sim_if (by rw [a2]) (fun _ => grp_sim (ihK _ _ _ _ _ (bare_tail h)) _) (fun _ => ?_)
      refine sim_if (by rw [a1]) (fun _ => ?_) (fun _ => pA_sim h _ _)
      rw [a3]
      exact sim_if (by rw [b2]) (fun _ => num_sim (ihK _ _ _ _ _ (bare_tail (bare_tail h))) _ _ _) (fun _ => rfl)
    · obtain ⟨a1, a2, a3⟩ := bare_hd h
      rw [pK, pK]
      refine sim_if (by rw [a2]) (fun _ => ?_) (fun _ => rfl)
      have hs := ihE (d + 1) t.tail u.tail n l (bare_tail h)
      cases h1 : pE f (d + 1) t.tail n l with
      | no p e =>
        cases h2 : pE f (d + 1) u.tail n l with
        | no q g => rw [h1, h2] at hs; exact hs
        | ok y u1 m1 k1 => rw [h1, h2] at hs; exact hs.elim
      | ok x t1 n1 l1 =>
        obtain ⟨u1, h2, h3⟩ := PR.sim_ok hs h1
        rw [h2]
        exact ihM _ _ _ _ _ _ h3
    · obtain ⟨a1, a2, a3⟩ := bare_hd h
      rw [pM, pM]
      refine sim_if (by rw [a2]) (fun _ => ?_) (fun _ => ?_)
      · have hs := ihE (d + 1) t.tail u.tail n l (bare_tail h)
        cases h1 : pE f (d + 1) t.tail n l with
        | no p e =>
          cases h2 : pE f (d + 1) u.tail n l with
          | no q g => rw [h1, h2] at hs; exact hs
          | ok y u1 m1 k1 => rw [h1, h2] at hs; exact hs.elim
        | ok x t1 n1 l1 =>
          obtain ⟨u1, h2, h3⟩ := PR.sim_ok hs h1
          rw [h2]
          exact ihM _ _ _ _ _ _ h3
      · exact sim_if (by rw [a2]) (fun _ => ⟨rfl, bare_tail h, rfl, rfl⟩) (fun _ => rfl)
def QR.sim : QR → QR → Prop
  | .ok r, .ok s => r = s
  | .no _ e, .no _ f => e = f
  | _, _ => False
theorem pS_sim {t u : List T4} (h : bare t = bare u) (w : ByteArray) (g : Int) : (pS w g t).sim (pS w g u) := by
  obtain ⟨a1, a2, a3⟩ := bare_hd h
  obtain ⟨b1, b2, b3⟩ := bare_hd (bare_tail h)
  unfold pS
  refine sim_if (by rw [a2]) (fun _ => ?_) (fun _ => ⟨rfl, h, rfl, rfl⟩)
  refine sim_if (by rw [b1]) (fun _ => ?_) (fun _ => rfl)
  exact sim_if (by rw [b3]) (fun _ => rfl) (fun _ => ⟨b3, bare_tail (bare_tail h), rfl, rfl⟩)
theorem pQ_sim {t u : List T4} (h : bare t = bare u) : (pQ t).sim (pQ u) := by
  unfold pQ
  have hs := (parts_sim (t.length + 1)).1 1 t u 0 [] h
  rw [bare_len h] at hs ⊢
  cases h1 : pE (u.length + 1) 1 t 0 [] with
  | no p e =>
    cases h2 : pE (u.length + 1) 1 u 0 [] with
    | no q g => rw [h1, h2] at hs; exact hs
    | ok y u1 m1 k1 => rw [h1, h2] at hs; exact hs.elim
  | ok x t1 n1 l1 =>
    obtain ⟨u1, h2, h3⟩ := PR.sim_ok hs h1
    rw [h2]
    simp only [pPri]
    have hs2 := pS_sim h3 wPrio 7
    cases g1 : pS wPrio 7 t1 with
    | no p e =>
      cases g2 : pS wPrio 7 u1 with
      | no q g => rw [g1, g2] at hs2; exact hs2
      | ok y u2 m2 k2 => rw [g1, g2] at hs2; exact hs2.elim
    | ok p t2 n2 l2 =>
      obtain ⟨u2, g2, g3⟩ := PR.sim_ok hs2 g1
      rw [g2]
      simp only [pLim]
      have hs3 := pS_sim g3 wLim 1000
      cases k1 : pS wLim 1000 t2 with
      | no p e =>
        cases k2 : pS wLim 1000 u2 with
        | no q g => rw [k1, k2] at hs3; exact hs3
        | ok y u3 m3 k3 => rw [k1, k2] at hs3; exact hs3.elim
      | ok m t3 n3 l3 =>
        obtain ⟨u3, k2, k3⟩ := PR.sim_ok hs3 k1
        rw [k2]
        simp only
        have e5 := (bare_hd k3).1
        rw [e5]
        split
        · rfl
        · rfl
end Go.Proofs.YtohjllnfnkajjaaGreat
