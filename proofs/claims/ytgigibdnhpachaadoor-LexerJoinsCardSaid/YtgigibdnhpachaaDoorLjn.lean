/- The tokens of a text written one after the other, a space behind each. Nothing here speaks of a program. -/
import Derived.Test.YtgigibdnhpachaaDoorLdig
namespace Go.Proofs.YtgigibdnhpachaaDoor
open Go.RowKit
set_option linter.unusedVariables false

/-- From the end of what lies from a to b the space is taken off. -/
def trimE (s : ByteArray) (a : Nat) : Nat → Nat
  | 0 => 0
  | b + 1 => if a < b + 1 ∧ spc (byt s b) = true then trimE s a b else b + 1
theorem trimE_is {s : ByteArray} {a E : Nat} (h1 : a < E) (hn : spc (byt s (E - 1)) = false) : ∀ (d b : Nat), b = E + d → (∀ q, E ≤ q → q < b → spc (byt s q) = true) → trimE s a b = E
  | 0, b, hb, _ => by
    obtain ⟨m, rfl⟩ : ∃ m, E = m + 1 := ⟨E - 1, by omega⟩
    subst hb
    rw [Nat.add_zero, trimE, if_neg]
    rw [Nat.add_sub_cancel] at hn
    rintro ⟨_, h⟩
    rw [hn] at h
    cases h
  | d + 1, b, hb, hs => by
    obtain ⟨m, rfl⟩ : ∃ m, b = m + 1 := ⟨b - 1, by omega⟩
    rw [trimE, if_pos ⟨by omega, hs m (by omega) (by omega)⟩]
    exact trimE_is h1 hn d m (by omega) (fun q g1 g2 => hs q g1 (by omega))
theorem trimE_le (s : ByteArray) (a : Nat) : ∀ b, trimE s a b ≤ b
  | 0 => Nat.le_refl _
  | b + 1 => by
    rw [trimE]
    have := trimE_le s a b
    split <;> omega
/-- The bytes of a token that begins at a, when the next one begins at b. -/
def src (s : ByteArray) (a b : Nat) : List UInt8 := (s.data.toList.drop a).take (trimE s a b - a)
def jnT (s : ByteArray) : List T4 → List UInt8
  | t :: u :: r => src s t.2.2.2.toNat u.2.2.2.toNat ++ 32 :: jnT s (u :: r)
  | _ => []
theorem jnT_snoc (s : ByteArray) (u : T4) : ∀ (l : List T4) (t : T4), jnT s (l ++ [t] ++ [u]) = jnT s (l ++ [t]) ++ (src s t.2.2.2.toNat u.2.2.2.toNat ++ [32])
  | [], t => by simp [jnT]
  | [v], t => by simp [jnT]
  | v :: x :: l, t => by
    have := jnT_snoc s u (x :: l) t
    simp only [List.cons_append, jnT] at this ⊢
    rw [this]
    simp
theorem jnT_take {s : ByteArray} {l : List T4} {k : Nat} (h : k + 1 < l.length) : jnT s (l.take (k + 2)) = jnT s (l.take (k + 1)) ++ (src s (l.getD k default).2.2.2.toNat (l.getD (k + 1) default).2.2.2.toNat ++ [32]) := by
  have e1 : l.take (k + 1) = l.take k ++ [l.getD k default] := by
    rw [List.take_succ_eq_append_getElem (by omega), List.getD_eq_getElem?_getD, List.getElem?_eq_getElem (by omega)]
    rfl
  have e2 : l.take (k + 2) = l.take k ++ [l.getD k default] ++ [l.getD (k + 1) default] := by
    rw [show k + 2 = (k + 1) + 1 by omega, List.take_succ_eq_append_getElem h, e1, List.getD_eq_getElem?_getD (l := l) (i := k + 1), List.getElem?_eq_getElem h]
    rfl
  rw [e2, e1, jnT_snoc]
theorem src_len {s : ByteArray} {a b : Nat} : (src s a b).length ≤ s.size := by
  unfold src
  rw [List.length_take, List.length_drop]
  have e : s.data.toList.length = s.size := by simp
  omega
/-- Two lists of tokens with the same kinds, texts and numbers. -/
def Sam (l m : List T4) : Prop := m.length = l.length ∧ ∀ k, k < l.length → (m.getD k default).1 = (l.getD k default).1 ∧ (m.getD k default).2.1 = (l.getD k default).2.1 ∧ (m.getD k default).2.2.1 = (l.getD k default).2.2.1
theorem Sam.cons {l m : List T4} (h : Sam l m) (k : Int) (t : ByteArray) (n a b : Int) : Sam ((k, t, n, a) :: l) ((k, t, n, b) :: m) := by
  refine ⟨by simp [h.1], fun i hi => ?_⟩
  cases i with
  | zero => exact ⟨rfl, rfl, rfl⟩
  | succ i => simpa using h.2 i (by simpa using hi)
/-- What Toks says of the head and of the next token. -/
theorem lex_jn {s : ByteArray} : ∀ {l : List T4} {i : Nat}, Toks s i l → (∃ t r, l = t :: r ∧ ∃ a : Nat, t.2.2.2 = (a : Int) ∧ i ≤ a ∧ a ≤ s.size ∧ ∀ q, i ≤ q → q < a → spc (byt s q) = true) ∧ ∀ j, ∃ m, lexL j (jnT s l) = .ok m ∧ Sam l m
  | [], i, h => by cases h
  | t :: r, i, h => by
    obtain ⟨a, h1, h2, h3, h4⟩ := h
    refine ⟨⟨t, r, rfl, a, by rcases h4 with ⟨_, _, rfl⟩ | ⟨_, _, k, u, n, q, _, rfl, _⟩ <;> rfl, h1, h2, h3⟩, fun j => ?_⟩
    rcases h4 with ⟨rfl, rfl, rfl⟩ | ⟨hlt, hsp, k, u, n, q, ht, rfl, hr⟩
    · refine ⟨[(5, mkB [], 0, (j : Int))], by simp only [jnT]; exact lexL_nil j, by simp, fun k hk => ?_⟩
      obtain rfl : k = 0 := by simpa using hk
      exact ⟨rfl, rfl, rfl⟩
    · obtain ⟨⟨t2, r2, rfl, b, hb, hb1, hb2, hb3⟩, hrec⟩ := lex_jn hr
      obtain ⟨q1, q2⟩ := tkAt_len hlt ht
      obtain ⟨w1, w2, _, _⟩ := tk_again hlt ht
      have hlast : spc (byt s (a + q - 1)) = false := by
        obtain ⟨c, hc, hcb⟩ := byt_drop (s := s) (i := a + q - 1) (by omega)
        rw [← hcb]
        refine w1 c ?_
        have h0 : (s.data.toList.drop a)[q - 1]? = some c := by
          rw [List.getElem?_drop, show a + (q - 1) = a + q - 1 by omega]
          have : (s.data.toList.drop (a + q - 1))[0]? = some c := by rw [hc]; rfl
          rw [List.getElem?_drop, Nat.add_zero] at this
          exact this
        have h5 : ((s.data.toList.drop a).take q)[q - 1]? = some c := by rw [List.getElem?_take, if_pos (by omega)]; exact h0
        exact List.mem_of_getElem? h5
      have htr : trimE s a b = a + q := trimE_is (by omega) hlast (b - (a + q)) b (by omega) hb3
      have hsrc : src s a b = (s.data.toList.drop a).take q := by unfold src; rw [htr, show a + q - a = q by omega]
      obtain ⟨m, hm1, hm2⟩ := hrec (j + q + 1)
      refine ⟨(k, mkB u, n, (j : Int)) :: m, ?_, hm2.cons _ _ _ _ _⟩
      simp only [jnT, hb, Int.toNat_natCast]
      rw [hsrc, w2, hm1]
      rfl
end Go.Proofs.YtgigibdnhpachaaDoor
