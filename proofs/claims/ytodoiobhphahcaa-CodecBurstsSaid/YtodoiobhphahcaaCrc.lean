/- CRC-32 over lists of bytes, its linearity, and that differences within four neighbouring bytes are noticed. No program is named here. -/
import Derived.Test.YtodoiobhphahcaaHeap
namespace Go.Proofs.Ytodoiobhphahcaa

/-- One bit. -/
def st1 (x : Nat) : Nat := if x % 2 = 1 then x / 2 ^^^ 3988292384 else x / 2
/-- k bits. -/
def stK : Nat → Nat → Nat
  | 0, x => x
  | k + 1, x => stK k (st1 x)
def crcS (s : Nat) : List Int → Nat
  | [] => s
  | c :: r => crcS (stK 8 (s ^^^ c.toNat)) r
def crc (xs : List Int) : Nat := 4294967295 - crcS 4294967295 xs

theorem xor_half (a b : Nat) : (a ^^^ b) / 2 = a / 2 ^^^ b / 2 := by
  have h := Nat.shiftRight_xor_distrib (i := 1) (a := a) (b := b)
  simpa [Nat.shiftRight_succ] using h
theorem st1_lt {x : Nat} (h : x < 4294967296) : st1 x < 4294967296 := by
  unfold st1
  split
  · exact Nat.xor_lt_two_pow (n := 32) (by omega) (by decide)
  · omega
theorem st1_xor (a b : Nat) : st1 (a ^^^ b) = st1 a ^^^ st1 b := by
  have hm : (a ^^^ b) % 2 = (a % 2 + b % 2) % 2 := by
    have h := Nat.xor_mod_two_eq_one (a := a) (b := b)
    rcases Nat.mod_two_eq_zero_or_one (a ^^^ b) with h0 | h0 <;> omega
  unfold st1
  rw [xor_half, hm]
  rcases Nat.mod_two_eq_zero_or_one a with ha | ha <;> rcases Nat.mod_two_eq_zero_or_one b with hb | hb <;> rw [ha, hb]
  · simp
  · simp [Nat.xor_assoc]
  · simp only [Nat.reduceAdd, Nat.reduceMod, if_true]
    rw [if_neg (by decide)]
    ac_rfl
  · simp only [Nat.reduceAdd, Nat.mod_self, if_true]
    rw [if_neg (by decide), show a / 2 ^^^ 3988292384 ^^^ (b / 2 ^^^ 3988292384) = a / 2 ^^^ b / 2 ^^^ (3988292384 ^^^ 3988292384) by ac_rfl, Nat.xor_self, Nat.xor_zero]
theorem st1_zero {x : Nat} (h : x < 4294967296) (hz : st1 x = 0) : x = 0 := by
  unfold st1 at hz
  split at hz
  · exfalso
    have e : x / 2 = 3988292384 := by
      have := congrArg (· ^^^ 3988292384) hz
      simpa [Nat.xor_assoc] using this
    omega
  · omega
theorem stK_lt : ∀ (k : Nat) {x : Nat}, x < 4294967296 → stK k x < 4294967296
  | 0, _, h => h
  | k + 1, _, h => stK_lt k (st1_lt h)
theorem stK_xor : ∀ (k a b : Nat), stK k (a ^^^ b) = stK k a ^^^ stK k b
  | 0, _, _ => rfl
  | k + 1, a, b => by rw [stK, st1_xor, stK_xor k]; rfl
theorem stK_zero : ∀ (k : Nat) {x : Nat}, x < 4294967296 → stK k x = 0 → x = 0
  | 0, _, _, hz => hz
  | k + 1, _, h, hz => st1_zero h (stK_zero k (st1_lt h) hz)
theorem stK_inj (k : Nat) {a b : Nat} (ha : a < 4294967296) (hb : b < 4294967296) (h : stK k a = stK k b) : a = b := by
  have h0 : stK k (a ^^^ b) = 0 := by rw [stK_xor, h, Nat.xor_self]
  have h1 := stK_zero k (Nat.xor_lt_two_pow (n := 32) ha hb) h0
  have := congrArg (· ^^^ b) h1
  simpa [Nat.xor_assoc] using this
theorem st1_even (y : Nat) : st1 (2 * y) = y := by unfold st1; rw [if_neg (by omega)]; omega
theorem stK_shift (y : Nat) : stK 8 (256 * y) = y := by
  simp only [stK]
  rw [show 256 * y = 2 * (2 * (2 * (2 * (2 * (2 * (2 * (2 * y))))))) by omega]
  simp only [st1_even]

theorem toNat_lt {c : Int} (h : 0 ≤ c ∧ c < 256) : c.toNat < 256 := by omega
theorem crcS_lt : ∀ (xs : List Int) (s : Nat), Byt xs → s < 4294967296 → crcS s xs < 4294967296
  | [], _, _, hs => hs
  | c :: r, _, hb, hs => by
    have hc := hb c (by simp)
    exact crcS_lt r _ (fun x hx => hb x (by simp [hx])) (stK_lt 8 (Nat.xor_lt_two_pow (n := 32) hs (by omega)))
theorem crcS_append : ∀ (xs ys : List Int) (s : Nat), crcS s (xs ++ ys) = crcS (crcS s xs) ys
  | [], _, _ => rfl
  | _ :: r, ys, _ => crcS_append r ys _
theorem crcS_snoc (xs : List Int) (c : Int) (s : Nat) : crcS s (xs ++ [c]) = stK 8 (crcS s xs ^^^ c.toNat) := by rw [crcS_append]; rfl
theorem crc_lt {xs : List Int} (h : Byt xs) : crc xs < 4294967296 := by
  have := crcS_lt xs 4294967295 h (by decide)
  unfold crc
  omega
theorem crc_eq {xs ys : List Int} (hx : Byt xs) (hy : Byt ys) (h : crc xs = crc ys) : crcS 4294967295 xs = crcS 4294967295 ys := by
  have := crcS_lt xs 4294967295 hx (by decide)
  have := crcS_lt ys 4294967295 hy (by decide)
  unfold crc at h
  omega

/-- The same bytes behind two states keep them apart. -/
theorem crcS_inj : ∀ (xs : List Int) (s t : Nat), Byt xs → s < 4294967296 → t < 4294967296 → crcS s xs = crcS t xs → s = t
  | [], _, _, _, _, _, h => h
  | c :: r, s, t, hb, hs, ht, h => by
    have hc := hb c (by simp)
    have hsc : s ^^^ c.toNat < 4294967296 := Nat.xor_lt_two_pow (n := 32) hs (by omega)
    have htc : t ^^^ c.toNat < 4294967296 := Nat.xor_lt_two_pow (n := 32) ht (by omega)
    have h1 := crcS_inj r _ _ (fun x hx => hb x (by simp [hx])) (stK_lt 8 hsc) (stK_lt 8 htc) h
    have h2 := stK_inj 8 hsc htc h1
    have := congrArg (· ^^^ c.toNat) h2
    simpa [Nat.xor_assoc] using this

theorem crcS_window_nil (ys : List Int) (s t : Nat) (hl : ([] : List Int).length = ys.length) (h : crcS s [] = crcS t ys) : s ^^^ t < 256 ^ ([] : List Int).length ∧ (s = t → [] = ys) := by
  have hn : ys = [] := List.eq_nil_of_length_eq_zero (by simpa using hl.symm)
  subst hn
  have e : s = t := h
  subst e
  simp

/-- The difference of two runs over at most four bytes: none at the end means that there was at most as much at the beginning as what the bytes can hide. -/
theorem crcS_window : ∀ (xs ys : List Int) (s t : Nat), xs.length = ys.length → xs.length ≤ 4 → Byt xs → Byt ys → s < 4294967296 → t < 4294967296 → crcS s xs = crcS t ys →
    s ^^^ t < 256 ^ xs.length ∧ (s = t → xs = ys)
  | [], ys, s, t, hl, _, _, _, _, _, h => crcS_window_nil ys s t hl h
  | c :: r, [], _, _, hl, _, _, _, _, _, _ => by simp at hl
  | c :: r, d :: q, s, t, hl, h4, hx, hy, hs, ht, h => by
    have hc := toNat_lt (hx c (by simp))
    have hd := toNat_lt (hy d (by simp))
    simp only [List.length_cons] at hl h4
    have hsc : s ^^^ c.toNat < 4294967296 := Nat.xor_lt_two_pow (n := 32) hs (by omega)
    have htd : t ^^^ d.toNat < 4294967296 := Nat.xor_lt_two_pow (n := 32) ht (by omega)
    obtain ⟨i1, i2⟩ := crcS_window r q _ _ (by omega) (by omega) (fun x hx' => hx x (by simp [hx'])) (fun x hx' => hy x (by simp [hx'])) (stK_lt 8 hsc) (stK_lt 8 htd) h
    rw [← stK_xor] at i1
    generalize hz : (s ^^^ c.toNat) ^^^ (t ^^^ d.toNat) = z at i1
    have hzlt : z < 4294967296 := by rw [← hz]; exact Nat.xor_lt_two_pow (n := 32) hsc htd
    have hy3 : stK 8 z < 256 ^ 3 := Nat.lt_of_lt_of_le i1 (Nat.pow_le_pow_right (by decide) (by omega))
    have hz' : z = 256 * stK 8 z := (stK_inj 8 (by omega) hzlt (stK_shift (stK 8 z))).symm
    have e1 : s ^^^ t = z ^^^ (c.toNat ^^^ d.toNat) := by
      rw [← hz, show (s ^^^ c.toNat) ^^^ (t ^^^ d.toNat) ^^^ (c.toNat ^^^ d.toNat) = (s ^^^ t) ^^^ ((c.toNat ^^^ c.toNat) ^^^ (d.toNat ^^^ d.toNat)) by ac_rfl]
      simp
    have hcd : c.toNat ^^^ d.toNat < 256 := Nat.xor_lt_two_pow (n := 8) hc hd
    refine ⟨?_, fun hst => ?_⟩
    · rw [e1, List.length_cons]
      have hb : z < 256 ^ (r.length + 1) := by rw [hz', Nat.pow_succ]; omega
      have hb' : c.toNat ^^^ d.toNat < 256 ^ (r.length + 1) := Nat.lt_of_lt_of_le hcd (by rw [Nat.pow_succ]; have := Nat.pow_pos (n := r.length) (show 0 < 256 by decide); omega)
      rw [show (256 : Nat) = 2 ^ 8 by decide, ← Nat.pow_mul] at hb hb' ⊢
      exact Nat.xor_lt_two_pow hb hb'
    · subst hst
      rw [Nat.xor_self] at e1
      have hzcd : z = c.toNat ^^^ d.toNat := by
        have := congrArg (· ^^^ (c.toNat ^^^ d.toNat)) e1
        simpa [Nat.xor_assoc] using this.symm
      have hz0 : z = 0 := by omega
      have hcd0 : c.toNat = d.toNat := by
        rw [hz0] at hzcd
        have := congrArg (· ^^^ d.toNat) hzcd
        simpa [Nat.xor_assoc] using this.symm
      have hcc := hx c (by simp)
      have hdd := hy d (by simp)
      rw [show c = d by omega, i2 (by rw [hcd0])]

/-- Two lists that differ within at most four neighbouring bytes have the same checksum only if they are the same. -/
theorem crc_burst {pre xs ys post : List Int} (hl : xs.length = ys.length) (h4 : xs.length ≤ 4) (hp : Byt pre) (hx : Byt xs) (hy : Byt ys) (hq : Byt post)
    (h : crc (pre ++ xs ++ post) = crc (pre ++ ys ++ post)) : xs = ys := by
  have h1 := crc_eq ((hp.append hx).append hq) ((hp.append hy).append hq) h
  rw [crcS_append, crcS_append, crcS_append _ post, crcS_append pre ys] at h1
  have hs := crcS_lt pre 4294967295 hp (by decide)
  have h2 := crcS_inj post _ _ hq (crcS_lt xs _ hx hs) (crcS_lt ys _ hy hs) h1
  exact (crcS_window xs ys _ _ hl h4 hx hy hs hs h2).2 rfl

/-- Four bytes, the highest first. -/
def be4 (c : Nat) : List Int := [((c / 16777216 % 256 : Nat) : Int), ((c / 65536 % 256 : Nat) : Int), ((c / 256 % 256 : Nat) : Int), ((c % 256 : Nat) : Int)]
theorem be4_byt (c : Nat) : Byt (be4 c) := by
  intro x hx
  simp only [be4, List.mem_cons, List.not_mem_nil, or_false] at hx
  rcases hx with rfl | rfl | rfl | rfl <;> omega
theorem be4_inj {a b : Nat} (ha : a < 4294967296) (hb : b < 4294967296) (h : be4 a = be4 b) : a = b := by
  simp only [be4, List.cons.injEq] at h
  omega
theorem crc_example : crc [49, 50, 51, 52, 53, 54, 55, 56, 57] = 3421780262 := by decide +kernel
theorem crc_nil : crc [] = 0 := by decide
end Go.Proofs.Ytodoiobhphahcaa
