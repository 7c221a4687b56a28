/- Contracts of codec.PutUint and of the reference's PutUint once more, onto rows that may be a little longer than an argument. -/
import Derived.Test.YtchffamnamhcdaaDoorPut
namespace Go.Proofs.YtchffamnamhcdaaDoor
open Go.RowKit

set_option maxHeartbeats 400000 in
theorem put_big (A : Option Addr) (c : Nat) (xs : List Int) (v : Int) (w : World) (h : Rd w A xs) (hl : xs.length ≤ 150000000000000) (hv0 : 0 ≤ v) (hv1 : v < 18446744073709551616) (hc : xs.length ≤ c) :
    Calls Tryd.prog 55 #[.slice A xs.length c, .int .u64 v] w (Gives w (xs ++ vint v)) := by
  go_enter Tryd.func55, Tryd.ntmps55
  go_wp2
  have HV : Hid (v < 18446744073709551616) := hv1
  clear hv1
  go_loopw [1, 5] (fun u out wr => ∃ (pre : List Int) (x : Int), 0 ≤ x ∧ Hid (x < 18446744073709551616) ∧ Hid (pre ++ vint x = vint v) ∧ u = .int .u64 x ∧ DstB wr w.heap.size out (xs ++ pre) ∧ Below w.heap.size w wr)
    (fun u _ _ => (intOf u).toNat)
  case atStart => exact ⟨[], v, hv0, HV, rfl, rfl, .inr ⟨A, by simp, by simpa using h⟩, Below.refl _ _⟩
  case round =>
    obtain ⟨pre, x, hx0, hx1, hpre, rfl, hd, hb⟩ := hrel
    have hlen : xs.length + pre.length ≤ 150000000000010 := by
      have h1 := congrArg List.length hpre.out
      have h2 := vint_len x
      have h3 := vint_len v
      rw [List.length_append] at h1
      omega
    by_cases hgt : 127 < x
    · go_wp2_with (at_builtin; (refine app_bytes rfl (.tmp 14) (.tmp 19) rfl w.heap.size _ (xs ++ pre) (some ⟨wr.heap.size, 0, none⟩) [_] 1 rfl rfl (hd.below (below_new _ _)) (.inr (by simp)) (one_new _ _) (by simp; omega) (by have := hb.size; simp; omega) ?_); intro V' w' ho hb' _ _)
      rw [low7 hx0 hx1.out] at ho
      refine ⟨⟨pre ++ [x % 128 + 128], x / 128, by omega, show x / 128 < 18446744073709551616 by have := hx1.out; omega, ?_, rfl, .inl (by simpa using ho), (hb.alloc hb.size _).trans hb'⟩, by simp [intOf]; omega⟩
      show pre ++ [x % 128 + 128] ++ vint (x / 128) = vint v
      rw [← hpre.out, vint_big hgt hx1.out]
      simp
    · go_wp2_with (at_builtin; (refine app_bytes rfl (.tmp 23) (.tmp 26) rfl w.heap.size _ (xs ++ pre) (some ⟨wr.heap.size, 0, none⟩) [_] 1 rfl rfl (hd.below (below_new _ _)) (.inr (by simp)) (one_new _ _) (by simp; omega) (by have := hb.size; simp; omega) ?_); intro V' w' ho hb' _ _)
      go_ret
      refine ⟨V', rfl, ?_, (hb.alloc hb.size _).trans hb'⟩
      rw [← hpre.out, vint_small (by omega), ← List.append_assoc]
      exact ho

set_option maxHeartbeats 400000 in
theorem refPut_big (A : Option Addr) (c : Nat) (xs : List Int) (v : Int) (w : World) (h : Rd w A xs) (hl : xs.length ≤ 150000000000000) (hv0 : 0 ≤ v) (hv1 : v < 18446744073709551616) :
    Calls Tryd.prog 56 #[.slice A xs.length c, .int .u64 v] w (Gives w (xs ++ vint v)) := by
  have HV : Hid (v < 18446744073709551616) := hv1
  clear hv1
  go_enter Tryd.func56, Tryd.ntmps56
  go_wp2_with (at_builtin; (refine app_bytes rfl (.tmp 6) (.tmp 7) rfl w.heap.size _ [] A xs c rfl rfl (.inl (Own.empty _ w _ (Nat.le_refl _))) (.inl (Own.empty _ w _ (Nat.le_refl _))) (h.below (below_new _ _)) (by simp; omega) (by simp) ?_); intro V0 w0 ho0 hb0 _ _)
  have hB0 : Below w.heap.size w w0 := (below_new w _).trans hb0
  rw [List.nil_append] at ho0
  clear hb0
  go_loopw [1, 5] (fun u out wr => ∃ (pre : List Int) (x : Int), 0 ≤ x ∧ Hid (x < 18446744073709551616) ∧ Hid (pre ++ vint x = vint v) ∧ u = .int .u64 x ∧ OwnB wr w.heap.size out (xs ++ pre) ∧ Below w.heap.size w wr)
    (fun u _ _ => (intOf u).toNat)
  case atStart => exact ⟨[], v, hv0, HV, rfl, rfl, by simpa using ho0, hB0⟩
  case round =>
    obtain ⟨pre, x, hx0, hx1, hpre, rfl, hd, hb⟩ := hrel
    have hlen : xs.length + pre.length ≤ 150000000000010 := by
      have h1 := congrArg List.length hpre.out
      have h2 := vint_len x
      have h3 := vint_len v
      rw [List.length_append] at h1
      omega
    by_cases hgt : 128 ≤ x
    · go_wp2_with (at_builtin; (refine app_bytes rfl (.tmp 11) (.tmp 16) rfl w.heap.size _ (xs ++ pre) (some ⟨wr.heap.size, 0, none⟩) [_] 1 rfl rfl (.inl (hd.below (below_new _ _))) (.inr (by simp)) (one_new _ _) (by simp; omega) (by have := hb.size; simp; omega) ?_); intro V' w' ho hb' _ _)
      rw [low7 hx0 hx1.out] at ho
      refine ⟨⟨pre ++ [x % 128 + 128], x / 128, by omega, show x / 128 < 18446744073709551616 by have := hx1.out; omega, ?_, rfl, by simpa using ho, (hb.alloc hb.size _).trans hb'⟩, by simp [intOf]; omega⟩
      show pre ++ [x % 128 + 128] ++ vint (x / 128) = vint v
      rw [← hpre.out, vint_big (by omega) hx1.out]
      simp
    · go_wp2_with (at_builtin; (refine app_bytes rfl (.tmp 20) (.tmp 23) rfl w.heap.size _ (xs ++ pre) (some ⟨wr.heap.size, 0, none⟩) [_] 1 rfl rfl (.inl (hd.below (below_new _ _))) (.inr (by simp)) (one_new _ _) (by simp; omega) (by have := hb.size; simp; omega) ?_); intro V' w' ho hb' _ _)
      go_ret
      refine ⟨V', rfl, ?_, (hb.alloc hb.size _).trans hb'⟩
      rw [← hpre.out, vint_small (by omega), ← List.append_assoc]
      exact ho
end Go.Proofs.YtchffamnamhcdaaDoor
