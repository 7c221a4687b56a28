/- Runs of digits as numbers. Nothing here speaks of a program. -/
import Derived.Test.YtlokcmbkkfjlkaaGreatDoorLd
namespace Go.Proofs.YtlokcmbkkfjlkaaGreatDoor
open Go.RowKit
set_option linter.unusedVariables false

theorem digs_le : ∀ {r : List UInt8} {acc v : Nat}, digs acc r = some v → acc ≤ v
  | [], acc, v, h => by simp only [digs, Option.some.injEq] at h; omega
  | c :: r, acc, v, h => by
    obtain ⟨k, hk, rfl, h'⟩ := digs_cons h
    have := digs_le h'
    omega
theorem digs_lt : ∀ {r : List UInt8} {acc v : Nat}, digs acc r = some v → v < (acc + 1) * 10 ^ r.length
  | [], acc, v, h => by simp only [digs, Option.some.injEq] at h; simp; omega
  | c :: r, acc, v, h => by
    obtain ⟨k, hk, rfl, h'⟩ := digs_cons h
    have h1 := digs_lt h'
    have h2 : (10 * acc + k + 1) * 10 ^ r.length ≤ (acc + 1) * 10 * 10 ^ r.length := Nat.mul_le_mul_right _ (by omega)
    rw [List.length_cons, Nat.pow_succ, Nat.mul_comm (10 ^ r.length) 10, ← Nat.mul_assoc]
    omega
theorem pu_digs : ∀ {r : List UInt8} {acc v : Nat}, digs acc r = some v → v ≤ 10000 → Lib.parseUint10 acc r = .ok v
  | [], acc, v, h, _ => by
    simp only [digs, Option.some.injEq] at h
    subst h
    rw [Lib.parseUint10]
  | c :: r, acc, v, h, hv => by
    obtain ⟨k, hk, rfl, h'⟩ := digs_cons h
    have h1 := digs_le h'
    rw [parse_step (by omega) hk]
    refine pu_digs ?_ hv
    rw [show acc * 10 + k = 10 * acc + k by omega]
    exact h'
theorem digs_all : ∀ {r : List UInt8} (acc : Nat), (∀ c ∈ r, dig (c.toNat : Int) = true) → ∃ v, digs acc r = some v
  | [], acc, _ => ⟨acc, rfl⟩
  | c :: r, acc, h => by
    have hc := h c (by simp)
    unfold dig at hc
    have hc := of_decide_eq_true hc
    rw [digs, if_pos (by omega)]
    exact digs_all _ fun d hd => h d (by simp [hd])
/-- What numO says of a run of digits. -/
theorem numO_yes {l : List UInt8} (h : ∀ c ∈ l, dig (c.toNat : Int) = true) (h1 : 1 ≤ l.length) (h4 : l.length ≤ 4) (h0 : 1 < l.length → l.head? ≠ some 48) : ∃ v, numO l = some v ∧ v < 10000 ∧ Lib.atoiAll l = .ok (v : Int) := by
  obtain ⟨v, hv⟩ := digs_all (r := l) 0 h
  have hlt := digs_lt hv
  have hp : 10 ^ l.length ≤ 10 ^ 4 := Nat.pow_le_pow_right (by omega) h4
  have hv4 : v < 10000 := by simp at hlt; omega
  refine ⟨v, ?_, hv4, ?_⟩
  · unfold numO
    rw [if_neg (by rintro (h | h | ⟨h, h'⟩); omega; omega; exact h0 h h'), hv]
  · cases l with
    | nil => simp at h1
    | cons c r =>
      obtain ⟨k, hk, rfl, h'⟩ := digs_cons hv
      exact atoi_digits hk r (pu_digs hv (by omega)) hv4
theorem numO_no {l : List UInt8} (h : 4 < l.length ∨ (1 < l.length ∧ l.head? = some 48)) : numO l = none := by
  unfold numO
  rw [if_pos (.inr h)]
theorem numO_cases {l : List UInt8} (h : ∀ c ∈ l, dig (c.toNat : Int) = true) (h1 : 1 ≤ l.length) :
    (∃ v, numO l = some v ∧ v < 10000 ∧ Lib.atoiAll l = .ok (v : Int) ∧ l.length ≤ 4 ∧ (1 < l.length → l.head? ≠ some 48)) ∨ (numO l = none ∧ (4 < l.length ∨ (1 < l.length ∧ l.head? = some 48))) := by
  by_cases h2 : 4 < l.length ∨ (1 < l.length ∧ l.head? = some 48)
  · exact .inr ⟨numO_no h2, h2⟩
  · obtain ⟨v, e1, e2, e3⟩ := numO_yes h h1 (by omega) (fun h3 h4 => h2 (.inr ⟨h3, h4⟩))
    exact .inl ⟨v, e1, e2, e3, by omega, fun h3 h4 => h2 (.inr ⟨h3, h4⟩)⟩
/-- The value of a number of four digits at most is read back. -/
theorem numO_four {n : Nat} (h : n < 10000) : numO (dec n) = some n := by
  have hf : ∀ c ∈ dec n, dig (c.toNat : Int) = true := by
    have : ∀ m : Nat, ∀ c ∈ dec m, dig (c.toNat : Int) = true := by
      intro m
      induction m using Nat.strongRecOn with
      | ind m ih =>
        intro c hc
        by_cases hm : m < 10
        · rw [dec_one hm] at hc
          simp at hc
          subst hc
          unfold dig
          rw [dgt_nat hm]
          simp
          omega
        · rw [dec_big (by omega)] at hc
          rcases List.mem_append.1 hc with hc | hc
          · exact ih _ (by omega) c hc
          · simp at hc
            subst hc
            unfold dig
            rw [dgt_nat (by omega)]
            simp
            omega
    exact this n
  by_cases h3 : n < 1000
  · exact numO_dec h3
  · have e : dec n = dec (n / 10) ++ [dgt (n % 10)] := dec_big (by omega)
    have hq : 100 ≤ n / 10 := by omega
    rcases dec_forms (n := n / 10) (by omega) with ⟨h1, e2⟩ | ⟨h1, h2, e2⟩ | ⟨h1, e2⟩
    · omega
    · omega
    · rw [e, e2]
      unfold numO
      have := dgt_pos (k := n / 10 / 100) (by omega) (by omega)
      simp only [List.cons_append, List.nil_append]
      rw [if_neg (by simp [this]), digs_step (by omega), digs_step (by omega), digs_step (by omega), digs_step (by omega), digs]
      congr 1
      omega
end Go.Proofs.YtlokcmbkkfjlkaaGreatDoor
