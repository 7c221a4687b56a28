/- Contracts: the order of numbers, processes and stamps. -/
import Derived.Test.YtchffamnamhcdaaDoorIval
namespace Go.Proofs.YtchffamnamhcdaaDoor
open Go.RowKit
open Go.Sort (grow grow_grow alloc_eq_grow)

theorem cmpc_is (x y r : Int) (w : World) (h : Hid (ord x y = r)) : Calls Tryd.prog 59 #[.int .i64 x, .int .i64 y] w fun e w' => e = .returned (.int .i64 r) ∧ w' = w := by
  have h' := h.out
  subst h'
  exact Tryd.cmp_Compare_int x y w

set_option maxHeartbeats 400000 in
theorem compare_any (a b c x y z : Int) (w : World) :
    Calls Tryd.prog 40 #[.agg #[.int .i64 a, .int .i64 b, .int .i64 c], .agg #[.int .i64 x, .int .i64 y, .int .i64 z]] w fun e w' => e = .returned (.int .i64 (cmp3 a b c x y z)) ∧ Gro w w' := by
  obtain ⟨r1, h1⟩ : ∃ r, Hid (ord a x = r) := ⟨_, rfl⟩
  obtain ⟨r2, h2⟩ : ∃ r, Hid (ord b y = r) := ⟨_, rfl⟩
  obtain ⟨r3, h3⟩ : ∃ r, Hid (ord c z = r) := ⟨_, rfl⟩
  obtain ⟨r, hr⟩ : ∃ r, Hid (cmp3 a b c x y z = r) := ⟨_, rfl⟩
  have e1 : Hid (¬ r1 = 0 → r1 = r) := fun h => by rw [← hr.out, cmp3_one (by rw [h1.out]; exact h), h1.out]
  have e2 : Hid (r1 = 0 → ¬ r2 = 0 → r2 = r) := fun k h => by rw [← hr.out, cmp3_two (by rw [h1.out]; exact k) (by rw [h2.out]; exact h), h2.out]
  have e3 : Hid (r1 = 0 → r2 = 0 → r3 = r) := fun k h => by rw [← hr.out, cmp3_eq (by rw [h1.out]; exact k) (by rw [h2.out]; exact h), h3.out]
  rw [hr.out]
  clear hr
  go_enter Tryd.func40, Tryd.ntmps40
  go_wp2
  go_loopw [7] (fun i wr => ∃ (k n : Nat), k ≤ 3 ∧ i = .int .i64 k ∧ wr = ((w.alloc (.cells #[.int .i64 a, .int .i64 b, .int .i64 c] 56)).alloc (.cells #[.int .i64 x, .int .i64 y, .int .i64 z] 56)).drewN n ∧
      Hid ((1 ≤ k → r1 = 0) ∧ (2 ≤ k → r2 = 0) ∧ (3 ≤ k → r3 = 0))) (fun i _ => 3 - (intOf i).toNat)
  case atStart => exact ⟨0, 0, by omega, rfl, by rw [World.drewN_zero], ⟨by omega, by omega, by omega⟩⟩
  case round =>
    obtain ⟨k, n, hk, rfl, rfl, hz⟩ := hrel
    have hc : k = 0 ∨ k = 1 ∨ k = 2 ∨ k = 3 := by omega
    clear hk
    rcases hc with rfl | rfl | rfl | rfl
    · by_cases hr : r1 = 0
      · subst hr
        go_wp2
        go_quiet ((go_at_call 59; exact quietA (fun W => cmpc_is a x 0 W h1)))
        go_wp2
        go_roundw
        case rel => exact ⟨1, _, by omega, by go_num, rfl, ⟨fun _ => (by trivial), by omega, by omega⟩⟩
        case measure => simp [intOf]
      · go_wp2
        go_quiet ((go_at_call 59; exact quietA (fun W => cmpc_is a x r1 W h1)))
        go_wp2
        go_ret
        exact ⟨ret_i64 (e1.out hr), (((Gro.refl _).alloc _).alloc _).drewN _⟩
    · by_cases hr : r2 = 0
      · subst hr
        go_wp2
        go_quiet ((go_at_call 59; exact quietA (fun W => cmpc_is b y 0 W h2)))
        go_wp2
        go_roundw
        case rel => exact ⟨2, _, by omega, by go_num, rfl, ⟨fun _ => hz.out.1 (by omega), fun _ => (by trivial), by omega⟩⟩
        case measure => simp [intOf]
      · go_wp2
        go_quiet ((go_at_call 59; exact quietA (fun W => cmpc_is b y r2 W h2)))
        go_wp2
        go_ret
        exact ⟨ret_i64 (e2.out (hz.out.1 (by omega)) hr), (((Gro.refl _).alloc _).alloc _).drewN _⟩
    · by_cases hr : r3 = 0
      · subst hr
        go_wp2
        go_quiet ((go_at_call 59; exact quietA (fun W => cmpc_is c z 0 W h3)))
        go_wp2
        go_roundw
        case rel => exact ⟨3, _, by omega, by go_num, rfl, ⟨fun _ => hz.out.1 (by omega), fun _ => hz.out.2.1 (by omega), fun _ => (by trivial)⟩⟩
        case measure => simp [intOf]
      · go_wp2
        go_quiet ((go_at_call 59; exact quietA (fun W => cmpc_is c z r3 W h3)))
        go_wp2
        go_ret
        exact ⟨ret_i64 (e3.out (hz.out.1 (by omega)) (hz.out.2.1 (by omega))), (((Gro.refl _).alloc _).alloc _).drewN _⟩
    · go_wp2
      go_ret
      exact ⟨ret_i64 (by rw [← e3.out (hz.out.1 (by omega)) (hz.out.2.1 (by omega)), hz.out.2.2 (by omega)]), (((Gro.refl _).alloc _).alloc _).drewN _⟩
end Go.Proofs.YtchffamnamhcdaaDoor
