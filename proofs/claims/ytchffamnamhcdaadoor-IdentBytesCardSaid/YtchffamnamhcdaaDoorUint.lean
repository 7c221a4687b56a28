/- Contracts of codec.Uint and of the reference's Uint: what is read at the beginning of a slice of bytes. -/
import Derived.Test.YtchffamnamhcdaaDoorProg
import Derived.Test.YtchffamnamhcdaaDoorVar
import Derived.WalkKit
import Derived.WalkLawsBesides
import Derived.Lib.Hide
namespace Go.Proofs.YtchffamnamhcdaaDoor
open Go.RowKit
def uintV (xs : List Int) : Value := .tuple #[.int .u64 (uintS xs).1, .int .i64 (uintS xs).2.1, .int .i64 (uintS xs).2.2]

theorem ret_uint {v n e : Int} {xs : List Int} (h : (v, n, e) = uintS xs) : Ending.returned (.tuple #[.int .u64 v, .int .i64 n, .int .i64 e]) = .returned (uintV xs) := by rw [uintV, ← h]

theorem pw_dvd (k : Nat) (x : Int) : ((x * pw k).toNat) % 2 ^ (7 * k) = 0 := by
  rw [pw_eq, Int.mul_comm]
  rcases Int.le_total 0 x with hx | hx
  · obtain ⟨n, rfl⟩ := Int.eq_ofNat_of_zero_le hx
    have : ((2 : Int) ^ (7 * k) * (n : Int)).toNat = 2 ^ (7 * k) * n := by
      rw [← Int.toNat_natCast (2 ^ (7 * k) * n)]
      push_cast
      rfl
    rw [this]
    exact Nat.mul_mod_right _ _
  · have : ((2 : Int) ^ (7 * k) * x) ≤ 0 := Int.mul_nonpos_of_nonneg_of_nonpos (by have := pw_pos k; rw [pw_eq] at this; omega) hx
    rw [Int.toNat_of_nonpos this]
    simp

theorem or_shift (k : Nat) (a x : Int) (ha0 : 0 ≤ a) (ha1 : a < pw k) (hx0 : 0 ≤ x) (hx1 : x * pw k < 18446744073709551616) (hk : pw k ≤ 18446744073709551616) : bits .or .u64 a (x * pw k) = a + x * pw k := by
  have hp := pw_pos k
  have hm : 0 ≤ x * pw k := Int.mul_nonneg hx0 (by omega)
  rw [u64_or a _ ha0 (by omega) hm hx1, Nat.or_comm, nat_join (7 * k) _ _ (pw_dvd k x)]
  · omega
  · have e : (2 : Int) ^ (7 * k) = ((2 ^ (7 * k) : Nat) : Int) := by push_cast; rfl
    rw [pw_eq, e] at ha1
    omega

theorem or_step (k : Nat) (a d : Int) (hk : k ≤ 9) (h9 : k = 9 → d ≤ 1) (ha0 : 0 ≤ a) (ha1 : a < pw k) (hd0 : 0 ≤ d) (hd1 : d < 256) :
    bits .or .u64 a (IntKind.u64.wrap (IntKind.u64.wrap (bits .and .u8 d 127) * 2 ^ (7 * k))) = a + d % 128 * pw k ∧ d % 128 * pw k < 18446744073709551616 := by
  have h127 : bits .and .u8 d 127 = d % 128 := by
    rw [u8_and d 127 hd0 hd1 (by omega) (by omega), show (127 : Int).toNat = 127 from rfl, nat_mask7]
    omega
  have hb : d % 128 * pw k < 18446744073709551616 ∧ pw k ≤ 18446744073709551616 := by
    have hc : k = 0 ∨ k = 1 ∨ k = 2 ∨ k = 3 ∨ k = 4 ∨ k = 5 ∨ k = 6 ∨ k = 7 ∨ k = 8 ∨ k = 9 := by omega
    rcases hc with rfl | rfl | rfl | rfl | rfl | rfl | rfl | rfl | rfl | rfl <;> simp only [pw] <;> omega
  have hp := pw_pos k
  have hm : 0 ≤ d % 128 * pw k := Int.mul_nonneg (by omega) (by omega)
  refine ⟨?_, hb.1⟩
  rw [h127, IntKind.wrap_u64, IntKind.wrap_u64, Int.emod_eq_of_lt (a := d % 128) (by omega) (by omega), ← pw_eq, Int.emod_eq_of_lt hm hb.1]
  exact or_shift k a _ ha0 ha1 (by omega) hb.1 hb.2

theorem or_step9 (a d : Int) (h9 : d ≤ 1) (ha0 : 0 ≤ a) (ha1 : a < pw 9) (hd0 : 0 ≤ d) (hd1 : d < 256) :
    bits .or .u64 a (IntKind.u64.wrap (IntKind.u64.wrap (bits .and .u8 d 127) * 9223372036854775808)) = a + d % 128 * pw 9 := by
  have h := (or_step 9 a d (by omega) (fun _ => h9) ha0 ha1 hd0 hd1).1
  rwa [show (2 : Int) ^ (7 * 9) = 9223372036854775808 by decide] at h

set_option maxHeartbeats 400000 in
theorem uint_any (A : Option Addr) (c : Nat) (xs : List Int) (w : World) (h : Rd w A xs) (hb : Byt xs) (hm : xs.length ≤ maxLen) :
    Calls Tryd.prog 57 #[.slice A xs.length c] w fun e w' => e = .returned (uintV xs) ∧ w = w' := by
  unfold maxLen at hm
  go_enter Tryd.func57, Tryd.ntmps57
  go_wp2
  go_loop [5, 10] (fun v i => ∃ (k : Nat) (a : Int), k ≤ 9 ∧ k ≤ xs.length ∧ 0 ≤ a ∧ a < pw k ∧ uintN k a (xs.drop k) = uintS xs ∧ i = .int .i64 k ∧ v = .int .u64 a)
    (fun _ i => xs.length - (intOf i).toNat)
  case atStart => exact ⟨0, 0, by omega, by omega, by omega, by decide, rfl, rfl, rfl⟩
  case round =>
    obtain ⟨k, a, hk9, hk, ha0, ha1, hu, rfl, rfl⟩ := hrel
    by_cases hlt : k < xs.length
    · obtain ⟨b, o, rfl, _, hc⟩ := h.at_ hlt
      have hdr : xs.drop k = xs.getD k 0 :: xs.drop (k + 1) := by
        rw [List.drop_eq_getElem_cons hlt, List.getD_eq_getElem?_getD, List.getElem?_eq_getElem hlt]; rfl
      rw [hdr] at hu
      clear hdr
      obtain ⟨hd0, hd1⟩ := hb.getD k
      generalize xs.getD k 0 = d at *
      have HU := Lib.hid hu
      clear hu
      by_cases h127 : 127 < d
      · by_cases k9 : k = 9
        · subst k9
          have h1 : 1 < d := by omega
          go_wp2
          go_ret3
          refine ⟨ret_uint ?_, rfl⟩
          rw [← HU.out, uintN, if_pos ⟨rfl, h1⟩]
        · have k9' : ¬ (k : Int) = 9 := by omega
          go_wp2
          have hos := or_step k a d hk9 (fun h9 => by omega) ha0 ha1 hd0 hd1
          have hu := HU.out
          rw [uintN, if_neg (by omega), if_pos h127] at hu
          have hp := pw_pos k
          have hm0 : 0 ≤ d % 128 * pw k := Int.mul_nonneg (by omega) (by omega)
          have hm1 : (d % 128 + 1) * pw k ≤ 128 * pw k := Int.mul_le_mul_of_nonneg_right (by omega) (by omega)
          rw [Int.add_mul] at hm1
          refine ⟨⟨k + 1, a + d % 128 * pw k, by omega, by omega, by omega, ?_, hu, by go_num, by rw [hos.1]⟩, by simp [intOf]; omega⟩
          rw [pw]
          omega
      · by_cases d0 : d = 0
        · subst d0
          by_cases k0 : k = 0
          · have k0' : ¬ 0 < k := by omega
            have k9' : ¬ (k : Int) = 9 := by omega
            clear k0
            go_wp2
            go_ret3
            refine ⟨ret_uint ?_, rfl⟩
            rw [← HU.out, uintN, if_neg (by omega), if_neg (by omega), if_neg (by omega)]
            exact Prod.ext (or_step k a 0 hk9 (by omega) ha0 ha1 hd0 hd1).1 rfl
          · have k0' : 0 < k := by omega
            by_cases k9 : k = 9
            · subst k9
              go_wp2
              go_ret3
              refine ⟨ret_uint ?_, rfl⟩
              rw [← HU.out, uintN, if_neg (by omega), if_neg (by omega), if_pos ⟨rfl, k0'⟩]
            · have k9' : ¬ (k : Int) = 9 := by omega
              go_wp2
              go_ret3
              refine ⟨ret_uint ?_, rfl⟩
              rw [← HU.out, uintN, if_neg (by omega), if_neg (by omega), if_pos ⟨rfl, k0'⟩]
        · by_cases k9 : k = 9
          · subst k9
            by_cases h1 : 1 < d
            · go_wp2
              go_ret3
              refine ⟨ret_uint ?_, rfl⟩
              rw [← HU.out, uintN, if_pos ⟨rfl, h1⟩]
            · go_wp2
              go_ret3
              refine ⟨ret_uint ?_, rfl⟩
              rw [← HU.out, uintN, if_neg (by omega), if_neg (by omega), if_neg (by omega)]
              exact Prod.ext (or_step9 a d (by omega) ha0 ha1 hd0 hd1) rfl
          · have k9' : ¬ (k : Int) = 9 := by omega
            go_wp2
            go_ret3
            refine ⟨ret_uint ?_, rfl⟩
            rw [← HU.out, uintN, if_neg (by omega), if_neg (by omega), if_neg (by omega)]
            exact Prod.ext (or_step k a d hk9 (by omega) ha0 ha1 hd0 hd1).1 rfl
    · go_wp2
      go_ret3
      refine ⟨ret_uint ?_, rfl⟩
      rw [← hu, List.drop_eq_nil_of_le (by omega), uintN]
set_option maxHeartbeats 400000 in
theorem refUint_any (A : Option Addr) (c : Nat) (xs : List Int) (w : World) (h : Rd w A xs) (hb : Byt xs) (hm : xs.length ≤ maxLen) :
    Calls Tryd.prog 58 #[.slice A xs.length c] w fun e w' => e = .returned (uintV xs) ∧ w = w' := by
  unfold maxLen at hm
  go_enter Tryd.func58, Tryd.ntmps58
  go_wp2
  go_loop [5, 6] (fun v i => ∃ (k : Nat) (a : Int), k ≤ 9 ∧ k ≤ xs.length ∧ 0 ≤ a ∧ a < pw k ∧ uintN k a (xs.drop k) = uintS xs ∧ i = .int .i64 k ∧ v = .int .u64 a)
    (fun _ i => xs.length - (intOf i).toNat)
  case atStart => exact ⟨0, 0, by omega, by omega, by omega, by decide, rfl, rfl, rfl⟩
  case round =>
    obtain ⟨k, a, hk9, hk, ha0, ha1, hu, rfl, rfl⟩ := hrel
    by_cases hlt : k < xs.length
    · obtain ⟨b, o, rfl, _, hc⟩ := h.at_ hlt
      have hdr : xs.drop k = xs.getD k 0 :: xs.drop (k + 1) := by
        rw [List.drop_eq_getElem_cons hlt, List.getD_eq_getElem?_getD, List.getElem?_eq_getElem hlt]; rfl
      rw [hdr] at hu
      clear hdr
      obtain ⟨hd0, hd1⟩ := hb.getD k
      generalize xs.getD k 0 = d at *
      have HU := Lib.hid hu
      clear hu
      by_cases h127 : 127 < d
      · have h128 : ¬ d < 128 := by omega
        have d0 : ¬ d = 0 := by omega
        by_cases k9 : k = 9
        · subst k9
          have h1 : 1 < d := by omega
          go_wp2
          go_ret3
          refine ⟨ret_uint ?_, rfl⟩
          rw [← HU.out, uintN, if_pos ⟨rfl, h1⟩]
        · have k9' : ¬ (k : Int) = 9 := by omega
          go_wp2
          have hos := or_step k a d hk9 (fun h9 => by omega) ha0 ha1 hd0 hd1
          have hu := HU.out
          rw [uintN, if_neg (by omega), if_pos h127] at hu
          have hp := pw_pos k
          have hm0 : 0 ≤ d % 128 * pw k := Int.mul_nonneg (by omega) (by omega)
          have hm1 : (d % 128 + 1) * pw k ≤ 128 * pw k := Int.mul_le_mul_of_nonneg_right (by omega) (by omega)
          rw [Int.add_mul] at hm1
          refine ⟨⟨k + 1, a + d % 128 * pw k, by omega, by omega, by omega, ?_, hu, by go_num, by rw [hos.1]⟩, by simp [intOf]; omega⟩
          rw [pw]
          omega
      · have h128 : d < 128 := by omega
        by_cases d0 : d = 0
        · subst d0
          by_cases k0 : k = 0
          · have k0' : ¬ 0 < k := by omega
            have k9' : ¬ (k : Int) = 9 := by omega
            clear k0
            go_wp2
            go_ret3
            refine ⟨ret_uint ?_, rfl⟩
            rw [← HU.out, uintN, if_neg (by omega), if_neg (by omega), if_neg (by omega)]
            exact Prod.ext (or_step k a 0 hk9 (by omega) ha0 ha1 hd0 hd1).1 rfl
          · have k0' : 0 < k := by omega
            by_cases k9 : k = 9
            · subst k9
              go_wp2
              go_ret3
              refine ⟨ret_uint ?_, rfl⟩
              rw [← HU.out, uintN, if_neg (by omega), if_neg (by omega), if_pos ⟨rfl, k0'⟩]
            · have k9' : ¬ (k : Int) = 9 := by omega
              go_wp2
              go_ret3
              refine ⟨ret_uint ?_, rfl⟩
              rw [← HU.out, uintN, if_neg (by omega), if_neg (by omega), if_pos ⟨rfl, k0'⟩]
        · by_cases k9 : k = 9
          · subst k9
            by_cases h1 : 1 < d
            · go_wp2
              go_ret3
              refine ⟨ret_uint ?_, rfl⟩
              rw [← HU.out, uintN, if_pos ⟨rfl, h1⟩]
            · go_wp2
              go_ret3
              refine ⟨ret_uint ?_, rfl⟩
              rw [← HU.out, uintN, if_neg (by omega), if_neg (by omega), if_neg (by omega)]
              exact Prod.ext (or_step9 a d (by omega) ha0 ha1 hd0 hd1) rfl
          · have k9' : ¬ (k : Int) = 9 := by omega
            go_wp2
            go_ret3
            refine ⟨ret_uint ?_, rfl⟩
            rw [← HU.out, uintN, if_neg (by omega), if_neg (by omega), if_neg (by omega)]
            exact Prod.ext (or_step k a d hk9 (by omega) ha0 ha1 hd0 hd1).1 rfl
    · go_wp2
      go_ret3
      refine ⟨ret_uint ?_, rfl⟩
      rw [← hu, List.drop_eq_nil_of_le (by omega), uintN]
end Go.Proofs.YtchffamnamhcdaaDoor
