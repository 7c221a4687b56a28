/- Contracts of codec.Checksum and of the reference's Checksum. -/
import Derived.Test.YtodoiobhphahcaaBase
import Derived.Test.YtodoiobhphahcaaCrc
namespace Go.Proofs.Ytodoiobhphahcaa
open Go.RowKit

theorem xor_byte {s : Nat} {d : Int} (hs : s < 4294967296) (h0 : 0 ≤ d) (h1 : d < 256) : bits .xor .u32 (s : Int) d = ((s ^^^ d.toNat : Nat) : Int) := by
  rw [u32_xor _ d (by omega) (by omega) h0 (by omega), Int.toNat_natCast]

theorem low_bit {t : Nat} (ht : t < 4294967296) : bits .and .u32 (t : Int) 1 = ((t % 2 : Nat) : Int) := by
  rw [u32_and _ 1 (by omega) (by omega) (by omega) (by omega), Int.toNat_natCast, show (1 : Int).toNat = 1 from rfl, nat_mask1]
/-- The step by a mask. -/
theorem mask_step {t : Nat} (ht : t < 4294967296) :
    bits .xor .u32 ((t : Int) / 2) (bits .and .u32 3988292384 (-bits .and .u32 (t : Int) 1 % 4294967296)) = ((st1 t : Nat) : Int) := by
  rw [low_bit ht]
  unfold st1
  rcases Nat.mod_two_eq_zero_or_one t with h | h <;> rw [h]
  · rw [if_neg (by omega), show (-((0 : Nat) : Int)) % 4294967296 = 0 by decide, u32_and 3988292384 0 (by omega) (by omega) (by omega) (by omega),
      u32_xor _ _ (by omega) (by omega) (by omega) (by simp)]
    simp
    omega
  · rw [if_pos rfl, show (-((1 : Nat) : Int)) % 4294967296 = 4294967295 by decide, u32_and 3988292384 4294967295 (by omega) (by omega) (by omega) (by omega),
      show (3988292384 : Int).toNat &&& (4294967295 : Int).toNat = 3988292384 by decide, u32_xor _ _ (by omega) (by omega) (by omega) (by omega)]
    rw [show ((t : Int) / 2).toNat = t / 2 by omega]
    rfl
/-- The step by a test. -/
theorem test_step1 {t : Nat} (ht : t < 4294967296) (h : t % 2 = 1) : bits .xor .u32 ((t : Int) / 2) 3988292384 = ((st1 t : Nat) : Int) := by
  unfold st1
  rw [if_pos h, u32_xor _ _ (by omega) (by omega) (by omega) (by omega), show ((t : Int) / 2).toNat = t / 2 by omega]
  rfl
theorem test_step0 {t : Nat} (h : ¬ t % 2 = 1) : (t : Int) / 2 = ((st1 t : Nat) : Int) := by
  unfold st1
  rw [if_neg h]
  omega
theorem inverted {s : Nat} (hs : s < 4294967296) : bits .xor .u32 IntKind.u32.max (s : Int) = ((4294967295 - s : Nat) : Int) := by
  rw [show IntKind.u32.max = 4294967295 by decide, u32_xor _ _ (by omega) (by omega) (by omega) (by omega), Int.toNat_natCast, show (4294967295 : Int).toNat = 2 ^ 32 - 1 from rfl]
  congr 1
  refine Nat.eq_of_testBit_eq fun i => ?_
  rw [show 4294967295 - s = 2 ^ 32 - (s + 1) by omega, Nat.testBit_two_pow_sub_succ (by omega), Nat.testBit_xor, Nat.testBit_two_pow_sub_one]
  rcases Nat.lt_or_ge i 32 with h | h
  · simp [h]
  · have : s.testBit i = false := Nat.testBit_lt_two_pow (Nat.lt_of_lt_of_le hs (Nat.pow_le_pow_right (n := 2) (by decide) h : 2 ^ 32 ≤ 2 ^ i))
    simp [this]

set_option maxHeartbeats 400000 in
theorem sum_any (A : Option Addr) (c : Nat) (xs : List Int) (w : World) (h : Rd w A xs) (hb : Byt xs) (hm : xs.length ≤ maxLen) :
    Calls Try.prog 25 #[.slice A xs.length c] w fun e w' => e = .returned (.int .u32 (crc xs)) ∧ w = w' := by
  unfold maxLen at hm
  go_enter Try.func25, Try.ntmps25
  go_wp2
  go_loop [3, 9] (fun v i => ∃ (k s : Nat), k ≤ xs.length ∧ Hid (s < 4294967296) ∧ Hid (crcS s (xs.drop k) = crcS 4294967295 xs) ∧ i = .int .i64 k ∧ v = .int .u32 s)
    (fun _ i => xs.length - (intOf i).toNat)
  case atStart => exact ⟨0, 4294967295, by omega, (by decide : 4294967295 < 4294967296), rfl, rfl, rfl⟩
  case round =>
    obtain ⟨k, s, hk, hs, hu, rfl, rfl⟩ := hrel
    by_cases hlt : k < xs.length
    · obtain ⟨b, o, rfl, _, hc⟩ := h.at_ hlt
      have hdr : xs.drop k = xs.getD k 0 :: xs.drop (k + 1) := by
        rw [List.drop_eq_getElem_cons hlt, List.getD_eq_getElem?_getD, List.getElem?_eq_getElem hlt]; rfl
      have HU := Lib.hid (hdr ▸ hu.out)
      clear hdr hu
      obtain ⟨hd0, hd1⟩ := hb.getD k
      generalize xs.getD k 0 = d at *
      go_wp2
      go_loop [3, 6, 17] (fun v m i => ∃ (j t : Nat), j ≤ 8 ∧ Hid (t < 4294967296) ∧ Hid (stK (8 - j) t = stK 8 (s ^^^ d.toNat)) ∧ i = .int .i64 j ∧ v = .int .u32 t)
        (fun _ _ i => 8 - (intOf i).toNat)
      case atStart => exact ⟨0, s ^^^ d.toNat, by omega, Nat.xor_lt_two_pow (n := 32) hs.out (by omega), rfl, rfl, by rw [xor_byte hs.out hd0 hd1]⟩
      case round =>
        obtain ⟨j, t, hj, ht, hst, rfl, rfl⟩ := hrel
        by_cases hj8 : j < 8
        · go_wp2
          refine ⟨⟨j + 1, st1 t, by omega, st1_lt ht.out, ?_, by go_num, by rw [mask_step ht.out]⟩, by simp [intOf]; omega⟩
          have e := hst.out
          rw [show 8 - j = 8 - (j + 1) + 1 by omega] at e
          exact e
        · go_wp2
          obtain rfl : j = 8 := by omega
          have e : t = stK 8 (s ^^^ d.toNat) := hst.out
          refine ⟨⟨k + 1, t, by omega, ht, ?_, by go_num, rfl⟩, by simp [intOf]; omega⟩
          show crcS t (xs.drop (k + 1)) = _
          rw [e]
          exact HU.out
    · go_wp2
      go_ret
      refine ⟨?_, rfl⟩
      have hu' := hu.out
      rw [List.drop_eq_nil_of_le (by omega)] at hu'
      rw [inverted hs.out] at *
      show Ending.returned (.int .u32 ((4294967295 - s : Nat) : Int)) = _
      rw [show s = crcS 4294967295 xs from hu']
      rfl

set_option maxHeartbeats 400000 in
theorem refSum_any (A : Option Addr) (c : Nat) (xs : List Int) (w : World) (h : Rd w A xs) (hb : Byt xs) (hm : xs.length ≤ maxLen) :
    Calls Try.prog 26 #[.slice A xs.length c] w fun e w' => e = .returned (.int .u32 (crc xs)) ∧ w = w' := by
  unfold maxLen at hm
  go_enter Try.func26, Try.ntmps26
  go_wp2
  go_loop [3, 4] (fun v i => ∃ (k s : Nat), k ≤ xs.length ∧ Hid (s < 4294967296) ∧ Hid (crcS s (xs.drop k) = crcS 4294967295 xs) ∧ i = .int .i64 k ∧ v = .int .u32 s)
    (fun _ i => xs.length - (intOf i).toNat)
  case atStart => exact ⟨0, 4294967295, by omega, (by decide : 4294967295 < 4294967296), rfl, rfl, rfl⟩
  case round =>
    obtain ⟨k, s, hk, hs, hu, rfl, rfl⟩ := hrel
    by_cases hlt : k < xs.length
    · obtain ⟨b, o, rfl, _, hc⟩ := h.at_ hlt
      have hdr : xs.drop k = xs.getD k 0 :: xs.drop (k + 1) := by
        rw [List.drop_eq_getElem_cons hlt, List.getD_eq_getElem?_getD, List.getElem?_eq_getElem hlt]; rfl
      have HU := Lib.hid (hdr ▸ hu.out)
      clear hdr hu
      obtain ⟨hd0, hd1⟩ := hb.getD k
      generalize xs.getD k 0 = d at *
      go_wp2
      go_loop [3, 5] (fun v i => ∃ (j t : Nat), j ≤ 8 ∧ Hid (t < 4294967296) ∧ Hid (stK (8 - j) t = stK 8 (s ^^^ d.toNat)) ∧ i = .int .i64 j ∧ v = .int .u32 t)
        (fun _ i => 8 - (intOf i).toNat)
      case atStart => exact ⟨0, s ^^^ d.toNat, by omega, Nat.xor_lt_two_pow (n := 32) hs.out (by omega), rfl, rfl, by rw [xor_byte hs.out hd0 hd1]⟩
      case round =>
        obtain ⟨j, t, hj, ht, hst, rfl, rfl⟩ := hrel
        by_cases hj8 : j < 8
        · have e := hst.out
          rw [show 8 - j = 8 - (j + 1) + 1 by omega] at e
          have E := Lib.hid e
          clear e
          by_cases hodd : t % 2 = 1
          · have hb1 : (bits .and .u32 (t : Int) 1 == 1) = true := by rw [low_bit ht.out, hodd]; rfl
            go_wp2
            exact ⟨⟨j + 1, st1 t, by omega, st1_lt ht.out, E.out, by go_num, by rw [test_step1 ht.out hodd]⟩, by simp [intOf]; omega⟩
          · have hb1 : (bits .and .u32 (t : Int) 1 == 1) = false := by rw [low_bit ht.out, show t % 2 = 0 by omega]; rfl
            go_wp2
            exact ⟨⟨j + 1, st1 t, by omega, st1_lt ht.out, E.out, by go_num, by rw [test_step0 hodd]⟩, by simp [intOf]; omega⟩
        · go_wp2
          obtain rfl : j = 8 := by omega
          have e : t = stK 8 (s ^^^ d.toNat) := hst.out
          refine ⟨⟨k + 1, t, by omega, ht, ?_, by go_num, rfl⟩, by simp [intOf]; omega⟩
          show crcS t (xs.drop (k + 1)) = _
          rw [e]
          exact HU.out
    · go_wp2
      go_ret
      refine ⟨?_, rfl⟩
      have hu' := hu.out
      rw [List.drop_eq_nil_of_le (by omega)] at hu'
      rw [inverted hs.out] at *
      show Ending.returned (.int .u32 ((4294967295 - s : Nat) : Int)) = _
      rw [show s = crcS 4294967295 xs from hu']
      rfl
end Go.Proofs.Ytodoiobhphahcaa
