/- What the tokens of a text are: one after the other, with space between; a token followed by a space is read again. Nothing here speaks of a program. -/
import Derived.Test.YtlokcmbkkfjlkaaGreatDoorLpad
namespace Go.Proofs.YtlokcmbkkfjlkaaGreatDoor
open Go.RowKit
set_option linter.unusedVariables false

/-- The tokens of s from the place i on: space is passed over, then one token, then the others. -/
def Toks (s : ByteArray) : Nat → List T4 → Prop
  | i, [] => False
  | i, t :: r => ∃ a : Nat, i ≤ a ∧ a ≤ s.size ∧ (∀ q, i ≤ q → q < a → spc (byt s q) = true) ∧
      ((r = [] ∧ a = s.size ∧ t = (5, mkB [], 0, (a : Int))) ∨
       (a < s.size ∧ spc (byt s a) = false ∧ ∃ k u n q, tkAt s a = .tok k u n q ∧ t = (k, mkB u, n, (a : Int)) ∧ Toks s (a + q) r))
theorem LR.ok_put {a : List T4} {r : LR} {l : List T4} (h : r.put a = .ok l) : ∃ y, r = .ok y ∧ l = a ++ y := by
  cases r with
  | ok y => simp only [LR.put, LR.ok.injEq] at h; exact ⟨y, rfl, h.symm⟩
  | no i e => simp [LR.put] at h
theorem toks_of (s : ByteArray) : ∀ (d i : Nat) (l : List T4), s.size - i = d → i ≤ s.size → lexAt s i = .ok l → Toks s i l := by
  intro d
  induction d using Nat.strongRecOn with
  | ind d ih =>
    intro i l hd hi h
    rcases Nat.lt_or_ge i s.size with hlt | hge
    · cases hsp : spc (byt s i) with
      | true =>
        rw [lex_sp hlt hsp] at h
        have := ih (s.size - (i + 1)) (by omega) (i + 1) l rfl (by omega) h
        cases l with
        | nil => exact this
        | cons t r =>
          obtain ⟨a, h1, h2, h3, h4⟩ := this
          refine ⟨a, by omega, h2, fun q g1 g2 => ?_, h4⟩
          by_cases e : q = i
          · subst e; exact hsp
          · exact h3 q (by omega) g2
      | false =>
        cases ht : tkAt s i with
        | sp =>
          exfalso
          obtain ⟨c, hc, hb⟩ := byt_drop hlt
          unfold tkAt at ht
          unfold tk1 at ht
          rw [if_neg (by simp [hsp])] at ht
          split at ht
          · split at ht <;> cases ht
          · split at ht
            · split at ht <;> cases ht
            · split at ht
              · cases hn : numO ((s.data.toList.drop i).take (tw dig (s.data.toList.drop i))) with
                | none => rw [hn] at ht; cases ht
                | some v => rw [hn] at ht; cases ht
              · split at ht <;> cases ht
        | bad e => rw [lex_bad hlt ht] at h; cases h
        | tok k u n q =>
          rw [lex_tok hlt ht] at h
          obtain ⟨y, hy, rfl⟩ := LR.ok_put h
          obtain ⟨h1, h2⟩ := tkAt_len hlt ht
          exact ⟨i, Nat.le_refl _, hi, fun q g1 g2 => by omega, .inr ⟨hlt, hsp, k, u, n, q, ht, rfl, ih (s.size - (i + q)) (by omega) _ _ rfl h2 hy⟩⟩
    · obtain rfl : i = s.size := by omega
      rw [lex_end] at h
      injection h with h
      subst h
      exact ⟨s.size, Nat.le_refl _, Nat.le_refl _, fun q g1 g2 => by omega, .inl ⟨rfl, rfl, rfl⟩⟩
theorem toks_lex {s : ByteArray} {l : List T4} (h : lexAt s 0 = .ok l) : Toks s 0 l := toks_of s _ 0 l rfl (by omega) h

/-! ### One token's bytes -/
theorem class_ne {c : Int} : (prt c = true → spc c = false) ∧ (cpl c = true → spc c = false) ∧ (dig c = true → spc c = false) ∧ (pun c = true → spc c = false) := by
  unfold prt cpl dig pun spc
  refine ⟨?_, ?_, ?_, ?_⟩ <;> intro h <;> have := of_decide_eq_true h <;> simp <;> omega
theorem ltr_prt {c : Int} (h : ltr c = true) : prt c = true := by
  unfold ltr at h; unfold prt; have := of_decide_eq_true h; simp; omega
theorem tw_stop_app {p : Int → Bool} {x : List UInt8} (h : ∀ c ∈ x, p (c.toNat : Int) = true) (h2 : p 32 = false) (r : List UInt8) : tw p (x ++ 32 :: r) = x.length := by
  rw [tw_app _ h, tw_stop (by simpa using h2)]
  omega
/-- A token's own bytes, with a space behind them, are that token again; none of them is space. -/
theorem tk_again {s : ByteArray} {a : Nat} (h : a < s.size) {k : Int} {u : List UInt8} {n : Int} {q : Nat} (ht : tkAt s a = .tok k u n q) :
    (∀ c ∈ (s.data.toList.drop a).take q, spc (c.toNat : Int) = false) ∧ (∀ r i, lexL i ((s.data.toList.drop a).take q ++ 32 :: r) = (lexL (i + q + 1) r).put [(k, mkB u, n, (i : Int))]) ∧ k ≠ 5 ∧ (k = 1 → 1 ≤ u.length ∧ u.length ≤ 12 ∧ (s.data.toList.drop a).take u.length = u ∧ a + u.length ≤ s.size) := by
  obtain ⟨h1, h2⟩ := tkAt_len h ht
  obtain ⟨c, hc, hb⟩ := byt_drop h
  have hz : (s.data.toList.drop a).take q = c :: ((s.data.toList.drop (a + 1)).take (q - 1)) := by
    rw [hc]
    obtain ⟨m, rfl⟩ : ∃ m, q = m + 1 := ⟨q - 1, by omega⟩
    simp
  have hl : ((s.data.toList.drop a).take q).length = q := by
    rw [List.length_take, List.length_drop]
    have e : s.data.toList.length = s.size := by simp
    omega
  have p32 : prt 32 = false ∧ cpl 32 = false ∧ dig 32 = false ∧ ltr 32 = false := ⟨rfl, rfl, rfl, rfl⟩
  have fin : ∀ {r : List UInt8} {i : Nat}, tk1 (c.toNat : Int) ((s.data.toList.drop a).take q ++ 32 :: r) = .tok k u n q → lexL i ((s.data.toList.drop a).take q ++ 32 :: r) = (lexL (i + q + 1) r).put [(k, mkB u, n, (i : Int))] := fun {r i} hh => by
    rw [hz] at hh ⊢
    rw [List.cons_append] at hh ⊢
    rw [lexL_tok hh, ← List.cons_append, ← hz, List.drop_append_of_le_length (by omega), List.drop_of_length_le (by omega), List.nil_append, lexL_sp rfl]
  have ht0 := ht
  unfold tkAt tk1 at ht
  split at ht
  · cases ht
  · rename_i hsp
    split at ht
    · rename_i hL
      split at ht
      · cases ht
      · rename_i h12
        injection ht with e1 e2 e3 e4
        subst e1 e3 e4
        have hall : ∀ d ∈ (s.data.toList.drop a).take (tw prt (s.data.toList.drop a)), prt (d.toNat : Int) = true := tw_mem
        refine ⟨fun d hd => class_ne.1 (hall d hd), fun r i => fin ?_, by decide, fun _ => ?_⟩
        · have ht1 : tw prt ((s.data.toList.drop a).take (tw prt (s.data.toList.drop a)) ++ 32 :: r) = tw prt (s.data.toList.drop a) := by rw [tw_stop_app hall p32.1, hl]
          unfold tk1
          rw [hb, if_neg hsp, if_pos hL, ht1, if_neg h12, List.take_append_of_le_length (by omega), List.take_take, Nat.min_self, ← e2]
        · subst e2
          rw [hl]
          exact ⟨h1, by omega, rfl, h2⟩
    · rename_i hL
      split at ht
      · rename_i hC
        split at ht
        · cases ht
        · rename_i hm
          injection ht with e1 e2 e3 e4
          subst e1 e3 e4
          have hall : ∀ d ∈ (s.data.toList.drop a).take (tw cpl (s.data.toList.drop a)), cpl (d.toNat : Int) = true := tw_mem
          refine ⟨fun d hd => class_ne.2.1 (hall d hd), fun r i => fin ?_, by decide, fun hk => by omega⟩
          have ht1 : tw cpl ((s.data.toList.drop a).take (tw cpl (s.data.toList.drop a)) ++ 32 :: r) = tw cpl (s.data.toList.drop a) := by rw [tw_stop_app hall p32.2.1, hl]
          unfold tk1
          rw [hb, if_neg hsp, if_neg hL, if_pos hC, ht1, List.take_append_of_le_length (by omega), List.take_take, Nat.min_self, if_neg hm, ← e2]
      · rename_i hC
        split at ht
        · rename_i hD
          cases hn : numO ((s.data.toList.drop a).take (tw dig (s.data.toList.drop a))) with
          | none => rw [hn] at ht; cases ht
          | some v =>
            rw [hn] at ht
            injection ht with e1 e2 e3 e4
            subst e1 e3 e4
            have hall : ∀ d ∈ (s.data.toList.drop a).take (tw dig (s.data.toList.drop a)), dig (d.toNat : Int) = true := tw_mem
            refine ⟨fun d hd => class_ne.2.2.1 (hall d hd), fun r i => fin ?_, by decide, fun hk => by omega⟩
            have ht1 : tw dig ((s.data.toList.drop a).take (tw dig (s.data.toList.drop a)) ++ 32 :: r) = tw dig (s.data.toList.drop a) := by rw [tw_stop_app hall p32.2.2.1, hl]
            unfold tk1
            rw [hb, if_neg hsp, if_neg hL, if_neg hC, if_pos hD, ht1, List.take_append_of_le_length (by omega), List.take_take, Nat.min_self, hn, tkN, ← e2]
        · rename_i hD
          split at ht
          · rename_i hP
            injection ht with e1 e2 e3 e4
            subst e1 e3 e4
            have hz1 : (s.data.toList.drop a).take 1 = [c] := by rw [hc]; simp
            refine ⟨fun d hd => ?_, fun r i => fin ?_, by decide, fun hk => by omega⟩
            · rw [hz1] at hd
              obtain rfl : d = c := by simpa using hd
              rw [hb]
              exact class_ne.2.2.2 hP
            · unfold tk1
              rw [hb, if_neg hsp, if_neg hL, if_neg hC, if_neg hD, if_pos hP, List.take_append_of_le_length (by omega), List.take_take, Nat.min_self, ← e2]
          · cases ht
end Go.Proofs.YtlokcmbkkfjlkaaGreatDoor
