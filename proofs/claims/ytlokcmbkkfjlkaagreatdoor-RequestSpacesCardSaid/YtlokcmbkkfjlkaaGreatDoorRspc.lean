/- The tokens of a text in which more space stands behind each token. Nothing here speaks of a program. -/
import Derived.Test.YtlokcmbkkfjlkaaGreatDoorLtok
import Derived.Test.YtlokcmbkkfjlkaaGreatDoorRpp
namespace Go.Proofs.YtlokcmbkkfjlkaaGreatDoor
open Go.RowKit
set_option linter.unusedVariables false

theorem tw_stop_z {p : Int → Bool} {x : List UInt8} (h : ∀ c ∈ x, p (c.toNat : Int) = true) {z : UInt8} (h2 : p (z.toNat : Int) = false) (r : List UInt8) : tw p (x ++ z :: r) = x.length := by
  rw [tw_app _ h, tw_stop h2]
  omega
/-- A token's own bytes, with a byte of space behind them, are that token again. -/
theorem tk_space {s : ByteArray} {a : Nat} (h : a < s.size) {k : Int} {u : List UInt8} {n : Int} {q : Nat} (ht : tkAt s a = .tok k u n q) {z : UInt8} (hz0 : spc (z.toNat : Int) = true) (r : List UInt8) (i : Nat) :
    lexL i ((s.data.toList.drop a).take q ++ z :: r) = (lexL (i + q + 1) r).put [(k, mkB u, n, (i : Int))] := by
  obtain ⟨h1, h2⟩ := tkAt_len h ht
  obtain ⟨c, hc, hb⟩ := byt_drop h
  have hz : (s.data.toList.drop a).take q = c :: ((s.data.toList.drop (a + 1)).take (q - 1)) := by
    rw [hc]
    obtain ⟨m, rfl⟩ : ∃ m, q = m + 1 := ⟨q - 1, by omega⟩
    simp
  have hl : ((s.data.toList.drop a).take q).length = q := by
    rw [List.length_take, List.length_drop]
    have e : s.data.toList.length = s.size := by simp
    omega
  have pz : prt (z.toNat : Int) = false ∧ cpl (z.toNat : Int) = false ∧ dig (z.toNat : Int) = false := by
    have hne : ∀ {b : Bool}, (b = true → spc (z.toNat : Int) = false) → b = false := fun {b} hh => by
      cases b with
      | false => rfl
      | true => rw [hz0] at hh; exact absurd (hh rfl) (by simp)
    exact ⟨hne class_ne.1, hne class_ne.2.1, hne class_ne.2.2.1⟩
  have fin : ∀ {r : List UInt8} {i : Nat}, tk1 (c.toNat : Int) ((s.data.toList.drop a).take q ++ z :: r) = .tok k u n q → lexL i ((s.data.toList.drop a).take q ++ z :: r) = (lexL (i + q + 1) r).put [(k, mkB u, n, (i : Int))] := fun {r i} hh => by
    rw [hz] at hh ⊢
    rw [List.cons_append] at hh ⊢
    rw [lexL_tok hh, ← List.cons_append, ← hz, List.drop_append_of_le_length (by omega), List.drop_of_length_le (by omega), List.nil_append, lexL_sp hz0]
  have ht0 := ht
  unfold tkAt tk1 at ht
  split at ht
  · cases ht
  · rename_i hsp
    split at ht
    · rename_i hL
      split at ht
      · cases ht
      · rename_i h12
        injection ht with e1 e2 e3 e4
        subst e1 e3 e4
        have hall : ∀ d ∈ (s.data.toList.drop a).take (tw prt (s.data.toList.drop a)), prt (d.toNat : Int) = true := tw_mem
        refine fin ?_
        have ht1 : tw prt ((s.data.toList.drop a).take (tw prt (s.data.toList.drop a)) ++ z :: r) = tw prt (s.data.toList.drop a) := by rw [tw_stop_z hall pz.1, hl]
        unfold tk1
        rw [hb, if_neg hsp, if_pos hL, ht1, if_neg h12, List.take_append_of_le_length (by omega), List.take_take, Nat.min_self, ← e2]
    · rename_i hL
      split at ht
      · rename_i hC
        split at ht
        · cases ht
        · rename_i hm
          injection ht with e1 e2 e3 e4
          subst e1 e3 e4
          have hall : ∀ d ∈ (s.data.toList.drop a).take (tw cpl (s.data.toList.drop a)), cpl (d.toNat : Int) = true := tw_mem
          refine fin ?_
          have ht1 : tw cpl ((s.data.toList.drop a).take (tw cpl (s.data.toList.drop a)) ++ z :: r) = tw cpl (s.data.toList.drop a) := by rw [tw_stop_z hall pz.2.1, hl]
          unfold tk1
          rw [hb, if_neg hsp, if_neg hL, if_pos hC, ht1, List.take_append_of_le_length (by omega), List.take_take, Nat.min_self, if_neg hm, ← e2]
      · rename_i hC
        split at ht
        · rename_i hD
          cases hn : numO ((s.data.toList.drop a).take (tw dig (s.data.toList.drop a))) with
          | none => rw [hn] at ht; cases ht
          | some v =>
            rw [hn] at ht
            injection ht with e1 e2 e3 e4
            subst e1 e3 e4
            have hall : ∀ d ∈ (s.data.toList.drop a).take (tw dig (s.data.toList.drop a)), dig (d.toNat : Int) = true := tw_mem
            refine fin ?_
            have ht1 : tw dig ((s.data.toList.drop a).take (tw dig (s.data.toList.drop a)) ++ z :: r) = tw dig (s.data.toList.drop a) := by rw [tw_stop_z hall pz.2.2, hl]
            unfold tk1
            rw [hb, if_neg hsp, if_neg hL, if_neg hC, if_pos hD, ht1, List.take_append_of_le_length (by omega), List.take_take, Nat.min_self, hn, tkN, ← e2]
        · rename_i hD
          split at ht
          · rename_i hP
            injection ht with e1 e2 e3 e4
            subst e1 e3 e4
            refine fin ?_
            unfold tk1
            rw [hb, if_neg hsp, if_neg hL, if_neg hC, if_neg hD, if_pos hP, List.take_append_of_le_length (by omega), List.take_take, Nat.min_self, ← e2]
          · cases ht
/-- What lies from a to b. -/
def gap (s : ByteArray) (a b : Nat) : List UInt8 := (s.data.toList.drop a).take (b - a)
theorem gap_len {s : ByteArray} {a b : Nat} : (gap s a b).length ≤ s.size := by
  unfold gap
  rw [List.length_take, List.length_drop]
  have e : s.data.toList.length = s.size := by simp
  omega
theorem gap_sp {s : ByteArray} {x y : Nat} (hy : y ≤ s.size) (h : ∀ q, x ≤ q → q < y → spc (byt s q) = true) : ∀ c ∈ gap s x y, spc (c.toNat : Int) = true := by
  intro c hc
  obtain ⟨i, hi, e⟩ := List.getElem_of_mem hc
  have hi2 : x + i < y := by
    unfold gap at hi
    rw [List.length_take] at hi
    omega
  obtain ⟨d, hd, hb⟩ := byt_drop (s := s) (i := x + i) (by omega)
  have h1 : (gap s x y)[i]? = some c := by rw [List.getElem?_eq_getElem hi, e]
  have h2 : (s.data.toList.drop (x + i))[0]? = some d := by rw [hd]; rfl
  unfold gap at h1
  rw [List.getElem?_take, if_pos (by omega), List.getElem?_drop] at h1
  rw [List.getElem?_drop, Nat.add_zero] at h2
  rw [h1] at h2
  injection h2 with h2
  subst h2
  rw [hb]
  exact h _ (by omega) hi2
theorem gap_split {s : ByteArray} {a q b : Nat} (h : a + q ≤ b) : gap s a b = (s.data.toList.drop a).take q ++ gap s (a + q) b := by
  unfold gap
  rw [show b - a = q + (b - (a + q)) by omega, List.take_add, List.drop_drop]
/-- The tokens one after the other, with what lies behind each, and n spaces more. -/
def spT (s : ByteArray) (n : Nat) : List T4 → List UInt8
  | t :: u :: r => gap s t.2.2.2.toNat u.2.2.2.toNat ++ (List.replicate n 32 ++ spT s n (u :: r))
  | _ => []
theorem spT_snoc (s : ByteArray) (n : Nat) (u : T4) : ∀ (l : List T4) (t : T4), spT s n (l ++ [t] ++ [u]) = spT s n (l ++ [t]) ++ (gap s t.2.2.2.toNat u.2.2.2.toNat ++ List.replicate n 32)
  | [], t => by simp [spT]
  | [v], t => by simp [spT]
  | v :: x :: l, t => by
    have := spT_snoc s n u (x :: l) t
    simp only [List.cons_append, spT] at this ⊢
    rw [this]
    simp
theorem spT_take {s : ByteArray} {n : Nat} {l : List T4} {k : Nat} (h : k + 1 < l.length) : spT s n (l.take (k + 2)) = spT s n (l.take (k + 1)) ++ (gap s (l.getD k default).2.2.2.toNat (l.getD (k + 1) default).2.2.2.toNat ++ List.replicate n 32) := by
  have e1 : l.take (k + 1) = l.take k ++ [l.getD k default] := by
    rw [List.take_succ_eq_append_getElem (by omega), List.getD_eq_getElem?_getD, List.getElem?_eq_getElem (by omega)]
    rfl
  have e2 : l.take (k + 2) = l.take k ++ [l.getD k default] ++ [l.getD (k + 1) default] := by
    rw [show k + 2 = (k + 1) + 1 by omega, List.take_succ_eq_append_getElem h, e1, List.getD_eq_getElem?_getD (l := l) (i := k + 1), List.getElem?_eq_getElem h]
    rfl
  rw [e2, e1, spT_snoc]
theorem lex_spT {s : ByteArray} {n : Nat} (hn : 1 ≤ n) : ∀ {l : List T4} {i : Nat}, Toks s i l → (∃ t r, l = t :: r ∧ ∃ a : Nat, t.2.2.2 = (a : Int) ∧ i ≤ a ∧ a ≤ s.size ∧ ∀ q, i ≤ q → q < a → spc (byt s q) = true) ∧ ∀ j, ∃ m, lexL j (spT s n l) = .ok m ∧ bare l = bare m
  | [], i, h => by cases h
  | t :: r, i, h => by
    obtain ⟨a, h1, h2, h3, h4⟩ := h
    refine ⟨⟨t, r, rfl, a, by rcases h4 with ⟨_, _, rfl⟩ | ⟨_, _, k, u, n, q, _, rfl, _⟩ <;> rfl, h1, h2, h3⟩, fun j => ?_⟩
    rcases h4 with ⟨rfl, rfl, rfl⟩ | ⟨hlt, hsp, k, u, m0, q, ht, rfl, hr⟩
    · exact ⟨[(5, mkB [], 0, (j : Int))], by simp only [spT]; exact lexL_nil j, rfl⟩
    · obtain ⟨⟨t2, r2, rfl, b, hb, hb1, hb2, hb3⟩, hrec⟩ := lex_spT hn hr
      obtain ⟨q1, q2⟩ := tkAt_len hlt ht
      obtain ⟨z, more, hzm⟩ : ∃ z more, gap s (a + q) b ++ List.replicate n 32 = z :: more := by
        cases hh : gap s (a + q) b ++ List.replicate n 32 with
        | cons z more => exact ⟨z, more, rfl⟩
        | nil =>
          have := congrArg List.length hh
          rw [List.length_append, List.length_replicate, List.length_nil] at this
          omega
      have hall : ∀ c ∈ z :: more, spc (c.toNat : Int) = true := by
        rw [← hzm]
        intro c hc
        rcases List.mem_append.1 hc with hc | hc
        · exact gap_sp hb2 hb3 c hc
        · have := List.eq_of_mem_replicate hc
          subst this
          rfl
      obtain ⟨m, hm1, hm2⟩ := hrec (j + q + 1 + more.length)
      refine ⟨(k, mkB u, m0, (j : Int)) :: m, ?_, ?_⟩
      · simp only [spT, hb, Int.toNat_natCast]
        rw [gap_split hb1, List.append_assoc, ← List.append_assoc (gap s (a + q) b), hzm, List.cons_append, tk_space hlt ht (hall z (by simp)), lex_pads more _ _ (fun c hc => hall c (by simp [hc])), hm1]
        rfl
      · exact congrArg (List.cons (k, mkB u, m0)) hm2
/-- The answer for the text with more space. -/
theorem lexR_sp {s t : ByteArray} {n : Nat} (hn : 1 ≤ n) {x : List T4} (hx : Toks s 0 x) (ht : t.data.toList = spT s n x) (h : t.size ≤ 1024) : ∃ m, lexR t = (m, 0, 0) ∧ bare x = bare m := by
  obtain ⟨m, h1, h2⟩ := (lex_spT hn hx).2 0
  refine ⟨m, ?_, h2⟩
  unfold lexR
  rw [if_neg (by omega)]
  unfold lexAt
  rw [List.drop_zero, ht, h1]
  rfl
/-- Where two neighbouring tokens begin. -/
theorem toks_next {s : ByteArray} : ∀ {l : List T4} {i : Nat}, Toks s i l → (∃ a : Nat, i ≤ a ∧ a ≤ s.size ∧ (l.getD 0 default).2.2.2 = (a : Int)) ∧ l ≠ [] ∧ ∀ k, k + 1 < l.length → ∃ a b : Nat, (l.getD k default).2.2.2 = (a : Int) ∧ (l.getD (k + 1) default).2.2.2 = (b : Int) ∧ a ≤ b ∧ b ≤ s.size
  | [], i, h => by cases h
  | t :: r, i, h => by
    obtain ⟨a, h1, h2, h3, h4⟩ := h
    refine ⟨⟨a, h1, h2, by rcases h4 with ⟨_, _, rfl⟩ | ⟨_, _, k, u, n, q, _, rfl, _⟩ <;> rfl⟩, by simp, fun k hk => ?_⟩
    rcases h4 with ⟨rfl, rfl, rfl⟩ | ⟨hlt, hsp, k', u, n, q, ht, rfl, hr⟩
    · simp at hk
    · obtain ⟨⟨b, g1, g2, g3⟩, g4, g5⟩ := toks_next hr
      cases k with
      | succ k =>
        have := g5 k (by simpa using hk)
        simpa using this
      | zero => exact ⟨a, b, rfl, by simpa using g3, by omega, g2⟩
end Go.Proofs.YtlokcmbkkfjlkaaGreatDoor
