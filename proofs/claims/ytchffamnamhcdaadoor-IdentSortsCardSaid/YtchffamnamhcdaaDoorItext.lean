/- The text of a process: decimal numerals joined by points, and how it is read back. Nothing here speaks of a program. -/
import Derived.Test.YtchffamnamhcdaaDoorIcut
import Derived.Test.YtchffamnamhcdaaDoorIdn
import Derived.Lib.AtoiAllCases
namespace Go.Proofs.YtchffamnamhcdaaDoor
open Go.RowKit

def dgt (k : Nat) : UInt8 := UInt8.ofNat (48 + k)
theorem dgt_nat {k : Nat} (h : k < 10) : (dgt k).toNat = 48 + k := by unfold dgt; rw [UInt8.toNat_ofNat']; omega
theorem dgt_of {c : UInt8} (h1 : 48 ≤ c.toNat) (h2 : c.toNat ≤ 57) : dgt (c.toNat - 48) = c := by
  apply UInt8.toNat_inj.1
  rw [dgt_nat (by omega)]
  omega

/-- The decimal numeral of n. -/
abbrev dec (n : Nat) : List UInt8 := Lib.decDigits n
theorem dec_one {k : Nat} (h : k < 10) : dec k = [dgt k] := Lib.decDigits_one h
theorem dec_more {m k : Nat} (hm : 1 ≤ m) (hk : k < 10) : dec (10 * m + k) = dec m ++ [dgt k] := by
  have h : ¬ 10 * m + k < 10 := by omega
  rw [dec, Lib.decDigits, dif_neg h, show (10 * m + k) / 10 = m by omega, show (10 * m + k) % 10 = k by omega]
  rfl
theorem dec_big {n : Nat} (h : 10 ≤ n) : dec n = dec (n / 10) ++ [dgt (n % 10)] := by
  have e := dec_more (m := n / 10) (k := n % 10) (by omega) (by omega)
  rw [show 10 * (n / 10) + n % 10 = n by omega] at e
  exact e
theorem dec_forms {n : Nat} (h : n < 1000) : (n < 10 ∧ dec n = [dgt n]) ∨ (10 ≤ n ∧ n < 100 ∧ dec n = [dgt (n / 10), dgt (n % 10)]) ∨ (100 ≤ n ∧ dec n = [dgt (n / 100), dgt (n / 10 % 10), dgt (n % 10)]) := by
  by_cases h1 : n < 10
  · exact .inl ⟨h1, dec_one h1⟩
  · by_cases h2 : n < 100
    · exact .inr (.inl ⟨by omega, h2, by rw [dec_big (by omega), dec_one (by omega)]; rfl⟩)
    · exact .inr (.inr ⟨by omega, by rw [dec_big (by omega), dec_big (n := n / 10) (by omega), dec_one (by omega), show n / 10 / 10 = n / 100 by omega]; rfl⟩)
theorem dec_len {n : Nat} (h : n < 1000) : 1 ≤ (dec n).length ∧ (dec n).length ≤ 3 := by
  rcases dec_forms h with ⟨_, e⟩ | ⟨_, _, e⟩ | ⟨_, e⟩ <;> rw [e] <;> simp
theorem dgt_ne {k : Nat} (h : k < 10) : dgt k ≠ 46 := fun e => by
  have := congrArg UInt8.toNat e
  rw [dgt_nat h] at this
  have h46 : (46 : UInt8).toNat = 46 := rfl
  omega
theorem dec_free {n : Nat} (h : n < 1000) : 46 ∉ dec n := by
  have h0 := fun {k : Nat} (hk : k < 10) => (dgt_ne hk).symm
  rcases dec_forms h with ⟨h1, e⟩ | ⟨h1, h2, e⟩ | ⟨h1, e⟩ <;> rw [e] <;> simp only [List.mem_cons, List.not_mem_nil, or_false, not_or]
  · exact h0 h1
  · exact ⟨h0 (by omega), h0 (by omega)⟩
  · exact ⟨h0 (by omega), h0 (by omega), h0 (by omega)⟩

/-! ### strconv.Atoi at a numeral -/
theorem parse_step {acc k : Nat} (ha : acc ≤ 10000) (hk : k < 10) (r : List UInt8) : Lib.parseUint10 acc (dgt k :: r) = Lib.parseUint10 (acc * 10 + k) r := by
  rw [Lib.parseUint10, dgt_nat hk, if_pos (by omega), if_neg (by omega), if_neg (by omega), show 48 + k - 48 = k by omega]
theorem atoi_digits {k : Nat} (hk : k < 10) (r : List UInt8) {v : Nat} (hp : Lib.parseUint10 0 (dgt k :: r) = .ok v) (hv : v < 10000) : Lib.atoiAll (dgt k :: r) = .ok (v : Int) := by
  have h1 : ¬ ((dgt k).toNat = 43 ∨ (dgt k).toNat = 45) := by rw [dgt_nat hk]; omega
  have h2 : ¬ (dgt k).toNat = 45 := by rw [dgt_nat hk]; omega
  unfold Lib.atoiAll
  simp only [if_neg h1, if_neg h2, Lib.parseMag, if_neg (List.cons_ne_nil _ _), hp]
  rw [if_neg (by omega), if_neg (fun h => h2 h.1)]
theorem atoi_dec {n : Nat} (h : n < 1000) : Lib.atoiAll (dec n) = .ok (n : Int) := by
  rcases dec_forms h with ⟨h1, e⟩ | ⟨h1, h2, e⟩ | ⟨h1, e⟩ <;> rw [e]
  · exact atoi_digits h1 _ (by rw [parse_step (by omega) h1, Lib.parseUint10]; simp) (by omega)
  · exact atoi_digits (by omega) _ (by rw [parse_step (by omega) (by omega), parse_step (by omega) (by omega), Lib.parseUint10]; congr 1; omega) (by omega)
  · exact atoi_digits (by omega) _ (by rw [parse_step (by omega) (by omega), parse_step (by omega) (by omega), parse_step (by omega) (by omega), Lib.parseUint10]; congr 1; omega) (by omega)
theorem dec_inj {m n : Nat} (hm : m < 1000) (hn : n < 1000) (h : dec m = dec n) : m = n := by
  have h1 := atoi_dec hm
  rw [h, atoi_dec hn] at h1
  injection h1 with h1
  omega

/-! ### The reference's way to read a number -/
def digs : Nat → List UInt8 → Option Nat
  | acc, [] => some acc
  | acc, c :: r => if 48 ≤ c.toNat ∧ c.toNat ≤ 57 then digs (10 * acc + (c.toNat - 48)) r else none
def numO (l : List UInt8) : Option Nat := if l.length < 1 ∨ 4 < l.length ∨ (1 < l.length ∧ l.head? = some 48) then none else digs 0 l
theorem digs_step {acc k : Nat} (hk : k < 10) (r : List UInt8) : digs acc (dgt k :: r) = digs (10 * acc + k) r := by
  rw [digs, dgt_nat hk, if_pos (by omega), show 48 + k - 48 = k by omega]
theorem dgt_pos {k : Nat} (h : k < 10) (h1 : 1 ≤ k) : dgt k ≠ 48 := fun e => by
  have := congrArg UInt8.toNat e
  rw [dgt_nat h] at this
  have h48 : (48 : UInt8).toNat = 48 := rfl
  omega
theorem numO_dec {n : Nat} (h : n < 1000) : numO (dec n) = some n := by
  unfold numO
  rcases dec_forms h with ⟨h1, e⟩ | ⟨h1, h2, e⟩ | ⟨h1, e⟩ <;> rw [e]
  · rw [if_neg (by simp), digs_step h1, digs]; simp
  · have := dgt_pos (k := n / 10) (by omega) (by omega)
    rw [if_neg (by simp [this]), digs_step (by omega), digs_step (by omega), digs]; congr 1; omega
  · have := dgt_pos (k := n / 100) (by omega) (by omega)
    rw [if_neg (by simp [this]), digs_step (by omega), digs_step (by omega), digs_step (by omega), digs]; congr 1; omega
theorem digs_cons {acc : Nat} {c : UInt8} {r : List UInt8} {v : Nat} (h : digs acc (c :: r) = some v) : ∃ k, k < 10 ∧ c = dgt k ∧ digs (10 * acc + k) r = some v := by
  rw [digs] at h
  by_cases hc : 48 ≤ c.toNat ∧ c.toNat ≤ 57
  · rw [if_pos hc] at h
    exact ⟨c.toNat - 48, by omega, (dgt_of hc.1 hc.2).symm, h⟩
  · rw [if_neg hc] at h; cases h
theorem digs_dec : ∀ (r : List UInt8) (acc v : Nat), 1 ≤ acc → digs acc r = some v → dec v = dec acc ++ r
  | [], acc, v, _, h => by
    simp only [digs, Option.some.injEq] at h
    rw [h, List.append_nil]
  | c :: r, acc, v, ha, h => by
    obtain ⟨k, hk, rfl, h'⟩ := digs_cons h
    rw [digs_dec r _ v (by omega) h', dec_more ha hk]
    simp
theorem numO_some {l : List UInt8} {v : Nat} (h : numO l = some v) : l = dec v := by
  unfold numO at h
  split at h
  · cases h
  · rename_i hn
    cases l with
    | nil => simp at hn
    | cons c r =>
      obtain ⟨k, hk, rfl, h'⟩ := digs_cons h
      rw [Nat.mul_zero, Nat.zero_add] at h'
      cases r with
      | nil =>
        simp only [digs, Option.some.injEq] at h'
        rw [← h', dec_one hk]
      | cons d r =>
        have hk1 : 1 ≤ k := by
          rcases Nat.eq_zero_or_pos k with rfl | hp
          · exact absurd (.inr (.inr ⟨by simp, rfl⟩)) hn
          · exact hp
        rw [digs_dec _ _ _ hk1 h', dec_one hk]
        rfl

/-! ### The text of a process -/
def fmtP (a b c : Int) : List UInt8 := dec a.toNat ++ 46 :: (dec b.toNat ++ 46 :: dec c.toNat)
/-- l is the text of the valid process (a, b, c). -/
def PText (l : List UInt8) (a b c : Int) : Prop := vpB a b c = true ∧ l = fmtP a b c
theorem fmtP_cut {a b c : Int} (h : vpB a b c = true) (k : Nat) : cutN (k + 2) (fmtP a b c) = [dec a.toNat, dec b.toNat, dec c.toNat] := by
  have := vpB_true h
  exact cutN_three (dec_free (by omega)) (dec_free (by omega)) (dec_free (by omega)) k
theorem fmtP_len {a b c : Int} (h : vpB a b c = true) : 5 ≤ (fmtP a b c).length ∧ (fmtP a b c).length ≤ 11 := by
  have := vpB_true h
  have h1 := dec_len (n := a.toNat) (by omega)
  have h2 := dec_len (n := b.toNat) (by omega)
  have h3 := dec_len (n := c.toNat) (by omega)
  simp [fmtP]
  omega
theorem PText.inj {l : List UInt8} {a b c x y z : Int} (h : PText l a b c) (k : PText l x y z) : a = x ∧ b = y ∧ c = z := by
  have e1 := fmtP_cut h.1 0
  have e2 := fmtP_cut k.1 0
  rw [← h.2, k.2, e2] at e1
  injection e1 with e1 e3
  injection e3 with e3 e4
  injection e4 with e4 _
  have := vpB_true h.1
  have := vpB_true k.1
  have := dec_inj (by omega) (by omega) e1
  have := dec_inj (by omega) (by omega) e3
  have := dec_inj (by omega) (by omega) e4
  omega
theorem fmtP_inj {a b c x y z : Int} (h : vpB a b c = true) (k : vpB x y z = true) (e : fmtP a b c = fmtP x y z) : a = x ∧ b = y ∧ c = z := PText.inj ⟨h, rfl⟩ ⟨k, e⟩
end Go.Proofs.YtchffamnamhcdaaDoor
