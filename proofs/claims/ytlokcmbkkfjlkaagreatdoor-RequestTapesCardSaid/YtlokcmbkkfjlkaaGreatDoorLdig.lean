/- Numerals as texts: how they are made digit by digit, and their tokens. Nothing here speaks of a program. -/
import Derived.Test.YtlokcmbkkfjlkaaGreatDoorLtok
namespace Go.Proofs.YtlokcmbkkfjlkaaGreatDoor
open Go.RowKit
set_option linter.unusedVariables false

theorem dec_digs (n : Nat) : ∀ c ∈ dec n, dig (c.toNat : Int) = true := by
  induction n using Nat.strongRecOn with
  | ind m ih =>
    intro c hc
    by_cases hm : m < 10
    · rw [dec_one hm] at hc
      simp at hc
      subst hc
      unfold dig
      rw [dgt_nat hm]
      simp
      omega
    · rw [dec_big (by omega)] at hc
      rcases List.mem_append.1 hc with hc | hc
      · exact ih _ (by omega) c hc
      · simp at hc
        subst hc
        unfold dig
        rw [dgt_nat (by omega)]
        simp
        omega
theorem dec_len4 {n : Nat} (h : n < 10000) : 1 ≤ (dec n).length ∧ (dec n).length ≤ 4 := by
  have h1 := numO_four h
  unfold numO at h1
  split at h1
  · cases h1
  · omega
theorem dec_len5 {n : Nat} (h : n < 100000) : 1 ≤ (dec n).length ∧ (dec n).length ≤ 5 ∧ (9999 < n → (dec n).length = 5) := by
  by_cases h1 : n < 10000
  · have := dec_len4 h1
    omega
  · rw [dec_big (by omega), List.length_append, List.length_singleton]
    have h4 := dec_len4 (n := n / 10) (by omega)
    refine ⟨by omega, by omega, fun _ => ?_⟩
    rw [dec_big (by omega), List.length_append, List.length_singleton]
    rcases dec_forms (n := n / 10 / 10) (by omega) with ⟨g, _⟩ | ⟨_, g, _⟩ | ⟨_, e⟩
    · omega
    · omega
    · rw [e]; rfl
/-- The digits of n that have been written, l, and what is left of n, k. -/
def NumI (n k : Nat) (l : List UInt8) : Prop := k ≤ n ∧ ((l = [] ∧ k = n) ∨ (l ≠ [] ∧ 1 ≤ k ∧ dec n = dec k ++ l) ∨ (k = 0 ∧ l = dec n))
theorem NumI.zero (n : Nat) : NumI n n [] := ⟨Nat.le_refl _, .inl ⟨rfl, rfl⟩⟩
theorem NumI.step {n k : Nat} {l : List UInt8} (h : NumI n k l) (hk : 1 ≤ k ∨ l = []) : NumI n (k / 10) (dgt (k % 10) :: l) := by
  obtain ⟨h0, h⟩ := h
  refine ⟨by omega, ?_⟩
  rcases h with ⟨rfl, rfl⟩ | ⟨h1, h2, h3⟩ | ⟨rfl, h3⟩
  · by_cases h10 : k < 10
    · exact .inr (.inr ⟨by omega, by rw [dec_one h10, show k % 10 = k by omega]⟩)
    · exact .inr (.inl ⟨by simp, by omega, dec_big (by omega)⟩)
  · by_cases h10 : k < 10
    · exact .inr (.inr ⟨by omega, by rw [h3, dec_one h10, show k % 10 = k by omega]; rfl⟩)
    · exact .inr (.inl ⟨by simp, by omega, by rw [h3, dec_big (n := k) (by omega)]; simp⟩)
  · rcases hk with hk | rfl
    · omega
    · exfalso
      have e := dec_digs n
      have : (dec n) ≠ [] := by
        by_cases h10 : n < 10
        · rw [dec_one h10]; simp
        · rw [dec_big (by omega)]; simp
      exact this h3.symm
theorem NumI.done {n k : Nat} {l : List UInt8} (h : NumI n k l) (hk : k = 0) (hl : l ≠ []) : l = dec n := by
  rcases h.2 with ⟨h1, _⟩ | ⟨_, h2, _⟩ | ⟨_, h3⟩
  · exact absurd h1 hl
  · omega
  · exact h3
theorem NumI.len {n k : Nat} {l : List UInt8} (h : NumI n k l) (hn : n < 100000) : l.length ≤ 5 := by
  have h5 := dec_len5 hn
  rcases h.2 with ⟨h1, _⟩ | ⟨_, _, h3⟩ | ⟨_, h3⟩
  · rw [h1]; simp
  · rw [h3, List.length_append] at h5; omega
  · rw [h3]; omega
/-- The answer for a text of digits. -/
theorem lexR_digs {s : ByteArray} (h : ∀ c ∈ s.data.toList, dig (c.toNat : Int) = true) (h1 : 1 ≤ s.size) (h2 : s.size ≤ 1024) :
    lexR s = match numO s.data.toList with | some v => ([(3, mkB [], (v : Int), 0), (5, mkB [], 0, (s.size : Int))], 0, 0) | none => ([], 0, 8) := by
  have hl : s.data.toList.length = s.size := by simp
  have htw : tw dig (s.data.toList.drop 0) = s.size := by
    rw [List.drop_zero]
    have := tw_app (p := dig) (x := s.data.toList) [] h
    rw [List.append_nil] at this
    rw [this]
    simp [tw]
  obtain ⟨c, hc, hb⟩ := byt_drop (s := s) (i := 0) h1
  have hdc : dig (byt s 0) = true := by
    rw [← hb]
    exact h c (by rw [List.drop_zero] at hc; rw [hc]; simp)
  have hsp : spc (byt s 0) = false := class_ne.2.2.1 hdc
  have hlt : ltr (byt s 0) = false := by unfold dig at hdc; unfold ltr; have := of_decide_eq_true hdc; simp; omega
  have hcp : cpl (byt s 0) = false := by unfold dig at hdc; unfold cpl; have := of_decide_eq_true hdc; simp; omega
  have htk : tkAt s 0 = tkN s.size (numO s.data.toList) := by
    unfold tkAt tk1
    rw [if_neg (by simp [hsp]), if_neg (by simp [hlt]), if_neg (by simp [hcp]), if_pos hdc, htw, List.drop_zero, List.take_of_length_le (by omega)]
  unfold lexR
  rw [if_neg (by omega)]
  cases hn : numO s.data.toList with
  | none =>
    rw [hn] at htk
    rw [lex_bad h1 htk]
    rfl
  | some v =>
    rw [hn] at htk
    rw [lex_tok h1 htk, Nat.zero_add, lex_end]
    rfl
theorem ba_app (a b : ByteArray) : (a ++ b).data.toList = a.data.toList ++ b.data.toList := by simp
theorem ba_app_size (a b : ByteArray) : (a ++ b).size = a.size + b.size := by simp
/-- Zeros ahead of a numeral. -/
theorem zero_num {n z : Nat} (hn : n < 100000) (hz : z ≤ 3) {s : ByteArray} (hs : s.data.toList = List.replicate z 48 ++ dec n) :
    (9999 < n ∨ 0 < z → lexR s = ([], 0, 8)) ∧ (n ≤ 9999 → z = 0 → lexR s = ([(3, mkB [], (n : Int), 0), (5, mkB [], 0, (s.size : Int))], 0, 0)) := by
  have h5 := dec_len5 hn
  have hl : s.data.toList.length = s.size := by simp
  have hl2 : s.size = z + (dec n).length := by rw [← hl, hs]; simp
  have hd : ∀ c ∈ s.data.toList, dig (c.toNat : Int) = true := by
    intro c hc
    rw [hs] at hc
    rcases List.mem_append.1 hc with hc | hc
    · obtain ⟨_, rfl⟩ := List.mem_replicate.1 hc
      decide
    · exact dec_digs n c hc
  have hR := lexR_digs hd (by omega) (by omega)
  refine ⟨fun hh => ?_, fun h1 h2 => ?_⟩
  · have : numO s.data.toList = none := by
      apply numO_no
      rcases Nat.eq_zero_or_pos z with rfl | hp
      · left
        omega
      · right
        refine ⟨by omega, ?_⟩
        rw [hs]
        obtain ⟨m, rfl⟩ : ∃ m, z = m + 1 := ⟨z - 1, by omega⟩
        simp [List.replicate_succ]
    rw [hR, this]
  · subst h2
    have : numO s.data.toList = some n := by rw [hs]; simpa using numO_four (n := n) (by omega)
    rw [hR, this]
end Go.Proofs.YtlokcmbkkfjlkaaGreatDoor
