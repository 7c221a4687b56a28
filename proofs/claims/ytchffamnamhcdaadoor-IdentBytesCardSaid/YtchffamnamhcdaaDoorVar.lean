/- Varints, texts and frames over lists of bytes: plain functions and their laws. No program is named here. -/
import Derived.Test.YtchffamnamhcdaaDoorHeap
namespace Go.Proofs.YtchffamnamhcdaaDoor

/-- 128 to the power i. -/
def pw : Nat → Int
  | 0 => 1
  | i + 1 => 128 * pw i
theorem pw_pos : ∀ i, 0 < pw i
  | 0 => by decide
  | i + 1 => by have := pw_pos i; simp only [pw]; omega
theorem pw_eq : ∀ i, pw i = 2 ^ (7 * i)
  | 0 => rfl
  | i + 1 => by rw [pw, pw_eq i, show 7 * (i + 1) = 7 * i + 7 by omega, Int.pow_add]; omega

/-- The varint of v, in at most f + 1 bytes. -/
def putN : Nat → Int → List Int
  | 0, v => [v]
  | f + 1, v => if 127 < v then (v % 128 + 128) :: putN f (v / 128) else [v]
def vint (v : Int) : List Int := putN 9 v

theorem putN_succ (f : Nat) (v : Int) : putN (f + 1) v = if 127 < v then (v % 128 + 128) :: putN f (v / 128) else [v] := rfl
theorem putN_fuel : ∀ (f : Nat) (v : Int), 0 ≤ v → v < pw (f + 1) → putN (f + 1) v = putN f v
  | 0, v, h0, h => by
    simp only [pw] at h
    simp only [putN, if_neg (show ¬ 127 < v by omega)]
  | f + 1, v, h0, h => by
    simp only [pw] at h
    rw [putN_succ (f + 1), putN_succ f v]
    by_cases h1 : 127 < v
    · rw [if_pos h1, if_pos h1, putN_fuel f (v / 128) (by omega) (by simp only [pw]; omega)]
    · rw [if_neg h1, if_neg h1]
theorem pw9 : pw 9 = 9223372036854775808 := by decide
theorem vint_big {v : Int} (h : 127 < v) (hv : v < 18446744073709551616) : vint v = (v % 128 + 128) :: vint (v / 128) := by
  unfold vint
  rw [putN, if_pos h, putN_fuel 8 (v / 128) (by omega) (by rw [pw9]; omega)]
theorem vint_small {v : Int} (h : ¬ 127 < v) : vint v = [v] := by
  unfold vint
  rw [putN, if_neg h]
theorem putN_byt : ∀ (f : Nat) (v : Int), 0 ≤ v → v < 2 * pw f → Byt (putN f v)
  | 0, v, h0, h => by
    simp only [pw] at h
    exact Byt.cons h0 (by omega) Byt.nil
  | f + 1, v, h0, h => by
    rw [putN]
    by_cases h1 : 127 < v
    · rw [if_pos h1]
      simp only [pw] at h
      exact Byt.cons (by omega) (by omega) (putN_byt f (v / 128) (by omega) (by omega))
    · rw [if_neg h1]
      exact Byt.cons h0 (by omega) Byt.nil
theorem vint_byt {v : Int} (h0 : 0 ≤ v) (h : v < 18446744073709551616) : Byt (vint v) := putN_byt 9 v h0 (by rw [pw9]; omega)
theorem putN_len : ∀ (f : Nat) (v : Int), 1 ≤ (putN f v).length ∧ (putN f v).length ≤ f + 1
  | 0, v => by simp [putN]
  | f + 1, v => by
    rw [putN]
    split
    · have := putN_len f (v / 128)
      simp only [List.length_cons]
      omega
    · simp
theorem vint_len (v : Int) : 1 ≤ (vint v).length ∧ (vint v).length ≤ 10 := putN_len 9 v

/-- What is read at the beginning of a list of bytes, from place i on: the number, how many bytes it takes, the error. -/
def uintN : Nat → Int → List Int → Int × Int × Int
  | _, _, [] => (0, 0, 5)
  | i, v, c :: r =>
    if i = 9 ∧ 1 < c then (0, 0, 6)
    else if 127 < c then uintN (i + 1) (v + c % 128 * pw i) r
    else if c = 0 ∧ 0 < i then (0, 0, 6)
    else (v + c % 128 * pw i, (i : Int) + 1, 0)
def uintS (xs : List Int) : Int × Int × Int := uintN 0 0 xs

theorem uintN_put : ∀ (f k : Nat) (acc x : Int) (tail : List Int), f + k = 9 → 0 ≤ x → x * pw k < 18446744073709551616 → (0 < k → 0 < x) →
    uintN k acc (putN f x ++ tail) = (acc + x * pw k, (k : Int) + (putN f x).length, 0)
  | 0, k, acc, x, tail, hk, h0, hx, hz => by
    obtain rfl : k = 9 := by omega
    rw [pw9] at hx
    have := hz (by omega)
    obtain rfl : x = 1 := by omega
    simp [putN, uintN]
  | f + 1, k, acc, x, tail, hk, h0, hx, hz => by
    have hp := pw_pos k
    by_cases h : 127 < x
    · rw [putN, if_pos h, List.cons_append, uintN, if_neg (by omega), if_pos (by omega)]
      have e : x / 128 * pw (k + 1) + x % 128 * pw k = x * pw k := by
        rw [pw, ← Int.mul_assoc, ← Int.add_mul]
        congr 1
        omega
      have hm : 0 ≤ x % 128 * pw k := Int.mul_nonneg (by omega) (by omega)
      rw [uintN_put f (k + 1) _ (x / 128) tail (by omega) (by omega) (by omega) (by omega)]
      rw [show (x % 128 + 128) % 128 = x % 128 by omega]
      simp only [List.length_cons, Prod.mk.injEq]
      exact ⟨by omega, by push_cast; omega, trivial⟩
    · rw [putN, if_neg h, List.cons_append, List.nil_append, uintN, if_neg (by omega), if_neg h, if_neg (by omega), show x % 128 = x by omega]
      simp

theorem uintS_put (v : Int) (tail : List Int) (h0 : 0 ≤ v) (h : v < 18446744073709551616) : uintS (vint v ++ tail) = (v, ((vint v).length : Int), 0) := by
  have := uintN_put 9 0 0 v tail rfl h0 (by simpa [pw] using h) (by omega)
  simpa [uintS, vint, pw] using this

/-- A proper beginning of a varint is too short. -/
theorem uintN_prefix : ∀ (f k : Nat) (acc x : Int) (j : Nat), f + k = 9 → j < (putN f x).length → uintN k acc ((putN f x).take j) = (0, 0, 5)
  | 0, k, acc, x, j, hk, hj => by
    simp only [putN, List.length_cons, List.length_nil] at hj
    obtain rfl : j = 0 := by omega
    simp [uintN]
  | f + 1, k, acc, x, j, hk, hj => by
    rw [putN] at hj ⊢
    by_cases h : 127 < x
    · rw [if_pos h] at hj ⊢
      rcases j with _ | j
      · simp [uintN]
      · rw [List.take_succ_cons, uintN, if_neg (by omega), if_pos (by omega)]
        exact uintN_prefix f (k + 1) _ _ j (by omega) (by simpa using hj)
    · rw [if_neg h] at hj ⊢
      simp only [List.length_cons, List.length_nil] at hj
      obtain rfl : j = 0 := by omega
      simp [uintN]

/-- What is read is what would be written. -/
theorem uintN_short : ∀ (xs : List Int) (k : Nat) (acc v n : Int), k ≤ 9 → Byt xs → uintN k acc xs = (v, n, 0) →
    ∃ x, 0 ≤ x ∧ x * pw k < 18446744073709551616 ∧ (0 < k → 0 < x) ∧ v = acc + x * pw k ∧ (k : Int) < n ∧ n ≤ k + xs.length ∧ putN (9 - k) x = xs.take (n - k).toNat
  | [], k, acc, v, n, hk, hb, h => by simp [uintN] at h
  | c :: r, k, acc, v, n, hk, hb, h => by
    have hc := hb c (by simp)
    have hp := pw_pos k
    rw [uintN] at h
    by_cases h1 : k = 9 ∧ 1 < c
    · rw [if_pos h1] at h; simp at h
    · rw [if_neg h1] at h
      by_cases h2 : 127 < c
      · rw [if_pos h2] at h
        have hk' : k + 1 ≤ 9 := by omega
        obtain ⟨x, x0, x1, x2, x3, x4, x5, x6⟩ := uintN_short r (k + 1) _ v n hk' (fun y hy => hb y (by simp [hy])) h
        have hx := x2 (by omega)
        have e : (x * 128 + c % 128) * pw k = x * pw (k + 1) + c % 128 * pw k := by rw [pw, Int.add_mul, Int.mul_assoc]
        refine ⟨x * 128 + c % 128, by omega, ?_, fun _ => by omega, by rw [x3, e]; omega, by omega, by simp only [List.length_cons]; omega, ?_⟩
        · rw [e, pw]
          rw [pw] at x1
          have hcases : k = 0 ∨ k = 1 ∨ k = 2 ∨ k = 3 ∨ k = 4 ∨ k = 5 ∨ k = 6 ∨ k = 7 ∨ k = 8 := by omega
          rcases hcases with rfl | rfl | rfl | rfl | rfl | rfl | rfl | rfl | rfl <;> simp only [pw] at x1 ⊢ <;> omega
        · rw [show 9 - k = (9 - (k + 1)) + 1 by omega, putN, if_pos (by omega), show (x * 128 + c % 128) % 128 + 128 = c by omega, show (x * 128 + c % 128) / 128 = x by omega, x6,
            show (n - (k : Int)).toNat = (n - ((k + 1 : Nat) : Int)).toNat + 1 by omega, List.take_succ_cons]
      · rw [if_neg h2] at h
        by_cases h3 : c = 0 ∧ 0 < k
        · rw [if_pos h3] at h; simp at h
        · rw [if_neg h3] at h
          simp only [Prod.mk.injEq] at h
          obtain ⟨rfl, rfl, _⟩ := h
          have hc128 : c % 128 = c := by omega
          have hs : putN (9 - k) c = [c] := by
            rcases Nat.eq_zero_or_pos (9 - k) with hz | hz
            · rw [hz]; rfl
            · rw [show 9 - k = (9 - k - 1) + 1 by omega, putN, if_neg h2]
          refine ⟨c, hc.1, ?_, fun hk0 => by omega, by rw [hc128], by omega, by simp only [List.length_cons]; omega, ?_⟩
          · have hcases : k = 0 ∨ k = 1 ∨ k = 2 ∨ k = 3 ∨ k = 4 ∨ k = 5 ∨ k = 6 ∨ k = 7 ∨ k = 8 ∨ k = 9 := by omega
            rcases hcases with rfl | rfl | rfl | rfl | rfl | rfl | rfl | rfl | rfl | rfl <;> simp only [pw] <;> omega
          · rw [hs, show ((k : Int) + 1 - k).toNat = 1 by omega]
            simp

theorem uintS_short {xs : List Int} {v n : Int} (hb : Byt xs) (h : uintS xs = (v, n, 0)) :
    0 ≤ v ∧ v < 18446744073709551616 ∧ 0 < n ∧ n ≤ xs.length ∧ n ≤ 10 ∧ vint v = xs.take n.toNat := by
  obtain ⟨x, x0, x1, _, x3, x4, x5, x6⟩ := uintN_short xs 0 0 v n (by omega) hb h
  simp only [pw, Int.mul_one, Int.zero_add] at x1 x3
  subst x3
  have e : vint v = xs.take n.toNat := by simpa [vint] using x6
  have hl := congrArg List.length e
  have := vint_len v
  rw [List.length_take] at hl
  exact ⟨x0, x1, by omega, by omega, by omega, e⟩

theorem uintN_err : ∀ (xs : List Int) (k : Nat) (acc : Int), (uintN k acc xs).2.2 = 0 ∨ uintN k acc xs = (0, 0, 5) ∨ uintN k acc xs = (0, 0, 6)
  | [], _, _ => .inr (.inl rfl)
  | c :: r, k, acc => by
    rw [uintN]
    split
    · simp
    · split
      · exact uintN_err r _ _
      · split <;> simp
theorem uintS_err (xs : List Int) : (uintS xs).2.2 = 0 ∨ uintS xs = (0, 0, 5) ∨ uintS xs = (0, 0, 6) := uintN_err xs 0 0

/-- Where the bytes that a length counts begin and end. -/
def spanS (xs : List Int) (limit : Int) : Int × Int × Int :=
  if (uintS xs).2.2 ≠ 0 then (0, 0, (uintS xs).2.2)
  else if limit < (uintS xs).1 then (0, 0, 3)
  else ((uintS xs).2.1, (uintS xs).2.1 + (uintS xs).1, 0)

/-- A text. -/
def textS (xs : List Int) : List Int × Int × Int :=
  if (uintS xs).2.2 ≠ 0 then ([], 0, (uintS xs).2.2)
  else if 1024 < (uintS xs).1 then ([], 0, 3)
  else if (xs.length : Int) < (uintS xs).2.1 + (uintS xs).1 then ([], 0, 5)
  else ((xs.drop (uintS xs).2.1.toNat).take (uintS xs).1.toNat, (uintS xs).2.1 + (uintS xs).1, 0)

theorem textS_put (s tail : List Int) (hs : (s.length : Int) < 18446744073709551616) :
    textS (vint s.length ++ s ++ tail) = if 1024 < (s.length : Int) then ([], 0, 3) else (s, ((vint s.length).length : Int) + (s.length : Int), 0) := by
  have h := uintS_put (s.length : Int) (s ++ tail) (by omega) hs
  rw [← List.append_assoc] at h
  unfold textS
  simp only [h]
  rw [if_neg (by simp)]
  by_cases h1 : 1024 < (s.length : Int)
  · rw [if_pos h1, if_pos h1]
  · rw [if_neg h1, if_neg h1, if_neg (by simp only [List.length_append]; push_cast; omega)]
    simp [List.append_assoc]
end Go.Proofs.YtchffamnamhcdaaDoor
