/- Contracts of ident for the grants: ValidProc and CompareProc of the program and of the reference; == of processes; slices of processes (picked by wip/pick.py from Ival Icmp Iord Ismall Ib Irows). -/
import Derived.Test.YthclgccgkdijbaaDoorShelf
import Derived.Test.YthclgccgkdijbaaDoorHd
import Derived.Test.YthclgccgkdijbaaDoorAval
import Derived.WalkLawsBesides
import Derived.Deep.RegionHeld3
import Derived.KernelRfl
import Derived.BigQuiet
import Derived.Deep.QuietTactic
import Derived.Laws.StructEq
namespace Go.Proofs.YthclgccgkdijbaaDoor
open Go.RowKit
open Go.Sort (grow grow_grow alloc_eq_grow)
set_option linter.unusedVariables false
set_option linter.unusedSimpArgs false

/-- A call that leaves the world, in a region behind draws. -/
theorem quietA {P : Program} {f : FuncId} {args : Array Value} {w : World} {a n : Nat} {v : Value} (h : ∀ W, Calls P f args W fun e w' => e = .returned v ∧ w' = W) :
    Calls P f args (w.drewN (a + n)) fun e w' => e = .returned v ∧ ∃ m, w' = w.drewN (a + m) := (h _).mono fun _ _ k => ⟨k.1, n, k.2⟩
theorem pvalid_yes (a b c : Int) (w : World) (h : 0 ≤ a ∧ a < 4 ∧ 1 ≤ b ∧ b ≤ 99 ∧ 1 ≤ c ∧ c ≤ 999) :
    Calls Tryd.prog 32 #[.agg #[.int .i64 a, .int .i64 b, .int .i64 c]] w fun e w' => e = .returned (.bool true) ∧ Gro w w' := by
  obtain ⟨h1, h2, h3, h4, h5, h6⟩ := h
  go_enter Tryd.func32, Tryd.ntmps32
  go_wp2
  go_ret
  exact ⟨rfl, (Gro.refl _).alloc _⟩
theorem pvalid_no (a b c : Int) (w : World) (h : ¬ (0 ≤ a ∧ a < 4 ∧ 1 ≤ b ∧ b ≤ 99 ∧ 1 ≤ c ∧ c ≤ 999)) :
    Calls Tryd.prog 32 #[.agg #[.int .i64 a, .int .i64 b, .int .i64 c]] w fun e w' => e = .returned (.bool false) ∧ Gro w w' := by
  by_cases h1 : 0 ≤ a
  · by_cases h2 : a < 4
    · by_cases h3 : 1 ≤ b
      · by_cases h4 : b ≤ 99
        · by_cases h5 : 1 ≤ c
          · have h6 : ¬ c ≤ 999 := by omega
            clear h
            go_enter Tryd.func32, Tryd.ntmps32
            go_wp2
            go_ret
            exact ⟨rfl, (Gro.refl _).alloc _⟩
          · clear h
            go_enter Tryd.func32, Tryd.ntmps32
            go_wp2
            go_ret
            exact ⟨rfl, (Gro.refl _).alloc _⟩
        · clear h
          go_enter Tryd.func32, Tryd.ntmps32
          go_wp2
          go_ret
          exact ⟨rfl, (Gro.refl _).alloc _⟩
      · clear h
        go_enter Tryd.func32, Tryd.ntmps32
        go_wp2
        go_ret
        exact ⟨rfl, (Gro.refl _).alloc _⟩
    · clear h
      go_enter Tryd.func32, Tryd.ntmps32
      go_wp2
      go_ret
      exact ⟨rfl, (Gro.refl _).alloc _⟩
  · clear h
    go_enter Tryd.func32, Tryd.ntmps32
    go_wp2
    go_ret
    exact ⟨rfl, (Gro.refl _).alloc _⟩
theorem pvalid_any (a b c : Int) (w : World) :
    Calls Tryd.prog 32 #[.agg #[.int .i64 a, .int .i64 b, .int .i64 c]] w fun e w' => e = .returned (.bool (vpB a b c)) ∧ Gro w w' := by
  by_cases h : 0 ≤ a ∧ a < 4 ∧ 1 ≤ b ∧ b ≤ 99 ∧ 1 ≤ c ∧ c ≤ 999
  · rw [vpB_mk h]; exact pvalid_yes a b c w h
  · rw [vpB_false h]; exact pvalid_no a b c w h
theorem cmpc_is (x y r : Int) (w : World) (h : Hid (ord x y = r)) : Calls Tryd.prog 74 #[.int .i64 x, .int .i64 y] w fun e w' => e = .returned (.int .i64 r) ∧ w' = w := by
  have h' := h.out
  subst h'
  exact Tryd.cmp_Compare_int x y w

set_option maxHeartbeats 400000 in
theorem compare_any (a b c x y z : Int) (w : World) :
    Calls Tryd.prog 58 #[.agg #[.int .i64 a, .int .i64 b, .int .i64 c], .agg #[.int .i64 x, .int .i64 y, .int .i64 z]] w fun e w' => e = .returned (.int .i64 (cmp3 a b c x y z)) ∧ Gro w w' := by
  obtain ⟨r1, h1⟩ : ∃ r, Hid (ord a x = r) := ⟨_, rfl⟩
  obtain ⟨r2, h2⟩ : ∃ r, Hid (ord b y = r) := ⟨_, rfl⟩
  obtain ⟨r3, h3⟩ : ∃ r, Hid (ord c z = r) := ⟨_, rfl⟩
  obtain ⟨r, hr⟩ : ∃ r, Hid (cmp3 a b c x y z = r) := ⟨_, rfl⟩
  have e1 : Hid (¬ r1 = 0 → r1 = r) := fun h => by rw [← hr.out, cmp3_one (by rw [h1.out]; exact h), h1.out]
  have e2 : Hid (r1 = 0 → ¬ r2 = 0 → r2 = r) := fun k h => by rw [← hr.out, cmp3_two (by rw [h1.out]; exact k) (by rw [h2.out]; exact h), h2.out]
  have e3 : Hid (r1 = 0 → r2 = 0 → r3 = r) := fun k h => by rw [← hr.out, cmp3_eq (by rw [h1.out]; exact k) (by rw [h2.out]; exact h), h3.out]
  rw [hr.out]
  clear hr
  go_enter Tryd.func58, Tryd.ntmps58
  go_wp2
  go_loopw [7] (fun i wr => ∃ (k n : Nat), k ≤ 3 ∧ i = .int .i64 k ∧ wr = ((w.alloc (.cells #[.int .i64 a, .int .i64 b, .int .i64 c] 76)).alloc (.cells #[.int .i64 x, .int .i64 y, .int .i64 z] 76)).drewN n ∧
      Hid ((1 ≤ k → r1 = 0) ∧ (2 ≤ k → r2 = 0) ∧ (3 ≤ k → r3 = 0))) (fun i _ => 3 - (intOf i).toNat)
  case atStart => exact ⟨0, 0, by omega, rfl, by rw [World.drewN_zero], ⟨by omega, by omega, by omega⟩⟩
  case round =>
    obtain ⟨k, n, hk, rfl, rfl, hz⟩ := hrel
    have hc : k = 0 ∨ k = 1 ∨ k = 2 ∨ k = 3 := by omega
    clear hk
    rcases hc with rfl | rfl | rfl | rfl
    · by_cases hr : r1 = 0
      · subst hr
        go_wp2
        go_quiet ((go_at_call 74; exact quietA (fun W => cmpc_is a x 0 W h1)))
        go_wp2
        go_roundw
        case rel => exact ⟨1, _, by omega, by go_num, rfl, ⟨fun _ => (by trivial), by omega, by omega⟩⟩
        case measure => simp [intOf]
      · go_wp2
        go_quiet ((go_at_call 74; exact quietA (fun W => cmpc_is a x r1 W h1)))
        go_wp2
        go_ret
        exact ⟨ret_i64 (e1.out hr), (((Gro.refl _).alloc _).alloc _).drewN _⟩
    · by_cases hr : r2 = 0
      · subst hr
        go_wp2
        go_quiet ((go_at_call 74; exact quietA (fun W => cmpc_is b y 0 W h2)))
        go_wp2
        go_roundw
        case rel => exact ⟨2, _, by omega, by go_num, rfl, ⟨fun _ => hz.out.1 (by omega), fun _ => (by trivial), by omega⟩⟩
        case measure => simp [intOf]
      · go_wp2
        go_quiet ((go_at_call 74; exact quietA (fun W => cmpc_is b y r2 W h2)))
        go_wp2
        go_ret
        exact ⟨ret_i64 (e2.out (hz.out.1 (by omega)) hr), (((Gro.refl _).alloc _).alloc _).drewN _⟩
    · by_cases hr : r3 = 0
      · subst hr
        go_wp2
        go_quiet ((go_at_call 74; exact quietA (fun W => cmpc_is c z 0 W h3)))
        go_wp2
        go_roundw
        case rel => exact ⟨3, _, by omega, by go_num, rfl, ⟨fun _ => hz.out.1 (by omega), fun _ => hz.out.2.1 (by omega), fun _ => (by trivial)⟩⟩
        case measure => simp [intOf]
      · go_wp2
        go_quiet ((go_at_call 74; exact quietA (fun W => cmpc_is c z r3 W h3)))
        go_wp2
        go_ret
        exact ⟨ret_i64 (e3.out (hz.out.1 (by omega)) (hz.out.2.1 (by omega))), (((Gro.refl _).alloc _).alloc _).drewN _⟩
    · go_wp2
      go_ret
      exact ⟨ret_i64 (by rw [← e3.out (hz.out.1 (by omega)) (hz.out.2.1 (by omega)), hz.out.2.2 (by omega)]), (((Gro.refl _).alloc _).alloc _).drewN _⟩
theorem numbers_any (a b c : Int) (w : World) :
    Calls Tryd.prog 59 #[.agg #[.int .i64 a, .int .i64 b, .int .i64 c]] w fun e w' => e = .returned (.agg #[.int .i64 a, .int .i64 b, .int .i64 c]) ∧ Gro w w' := by
  go_enter Tryd.func59, Tryd.ntmps59
  go_wp2
  exact bodyPost_ret (v := .agg #[.int .i64 a, .int .i64 b, .int .i64 c]) (by simp [results, Tryd.results59, go_sem]) rfl ⟨rfl, ((Gro.refl _).alloc _).alloc _⟩
/-- Two blocks of three numbers read as they were laid in every world that kept them. -/
theorem two3 {w W : World} {T U : TypeId} {a b c x y z : Value} (h : Below ((w.alloc (.cells #[a, b, c] T)).alloc (.cells #[x, y, z] U)).heap.size ((w.alloc (.cells #[a, b, c] T)).alloc (.cells #[x, y, z] U)) W) :
    W.cell? ⟨w.heap.size, 0, none⟩ = some a ∧ W.cell? ⟨w.heap.size, 1, none⟩ = some b ∧ W.cell? ⟨w.heap.size, 2, none⟩ = some c ∧
      W.cell? ⟨w.heap.size + 1, 0, none⟩ = some x ∧ W.cell? ⟨w.heap.size + 1, 1, none⟩ = some y ∧ W.cell? ⟨w.heap.size + 1, 2, none⟩ = some z := by
  have e : ∀ p : Addr, p.block < w.heap.size + 2 → W.cell? p = ((w.alloc (.cells #[a, b, c] T)).alloc (.cells #[x, y, z] U)).cell? p := fun p hp => h.cell (by simp; omega)
  refine ⟨?_, ?_, ?_, ?_, ?_, ?_⟩ <;> rw [e _ (by simp)] <;> simp
theorem two3G {w W : World} {T U : TypeId} {a b c x y z : Value} (h : Gro ((w.alloc (.cells #[a, b, c] T)).alloc (.cells #[x, y, z] U)) W) :
    Gro ((w.alloc (.cells #[a, b, c] T)).alloc (.cells #[x, y, z] U)) W ∧ W.cell? ⟨w.heap.size, 0, none⟩ = some a ∧ W.cell? ⟨w.heap.size, 1, none⟩ = some b ∧ W.cell? ⟨w.heap.size, 2, none⟩ = some c ∧
      W.cell? ⟨w.heap.size + 1, 0, none⟩ = some x ∧ W.cell? ⟨w.heap.size + 1, 1, none⟩ = some y ∧ W.cell? ⟨w.heap.size + 1, 2, none⟩ = some z := ⟨h, two3 h.below⟩

set_option maxHeartbeats 400000 in
theorem compareProc_any (a b c x y z : Int) (w : World) :
    Calls Tryd.prog 34 #[.agg #[.int .i64 a, .int .i64 b, .int .i64 c], .agg #[.int .i64 x, .int .i64 y, .int .i64 z]] w fun e w' => e = .returned (.int .i64 (cmp3 a b c x y z)) ∧ Gro w w' := by
  have g0 : Gro w ((w.alloc (.cells #[.int .i64 a, .int .i64 b, .int .i64 c] 26)).alloc (.cells #[.int .i64 x, .int .i64 y, .int .i64 z] 26)) := ((Gro.refl w).alloc _).alloc _
  go_enter Tryd.func34, Tryd.ntmps34
  go_wp2
  go_region_held3 (fun W => Gro ((w.alloc (.cells #[.int .i64 a, .int .i64 b, .int .i64 c] 26)).alloc (.cells #[.int .i64 x, .int .i64 y, .int .i64 z] 26)) W ∧ W.cell? ⟨w.heap.size, 0, none⟩ = some (.int .i64 a) ∧ W.cell? ⟨w.heap.size, 1, none⟩ = some (.int .i64 b) ∧ W.cell? ⟨w.heap.size, 2, none⟩ = some (.int .i64 c) ∧
      W.cell? ⟨w.heap.size + 1, 0, none⟩ = some (.int .i64 x) ∧ W.cell? ⟨w.heap.size + 1, 1, none⟩ = some (.int .i64 y) ∧ W.cell? ⟨w.heap.size + 1, 2, none⟩ = some (.int .i64 z))
    (first
      | exact two3G (Gro.refl _)
      | exact two3G (Gro.refl _).drew
      | (go_split_ands; exact two3G (Gro.trans (by assumption) hg2))
      | (go_split_ands; exact two3G (Gro.trans (by assumption) hg1)))
    (first
      | (go_at_call 59; refine (numbers_any _ _ _ _).mono ?_; rintro e W1 ⟨rfl, hg1⟩)
      | (go_at_call 58; refine (compare_any _ _ _ _ _ _ _).mono ?_; rintro e W2 ⟨rfl, hg2⟩))
  all_goals (go_wp2; go_ret; go_split_ands; exact ⟨rfl, g0.trans (by assumption)⟩)
theorem prefValid_any (a b c : Int) (w : World) :
    Calls Tryd.prog 38 #[.agg #[.int .i64 a, .int .i64 b, .int .i64 c]] w fun e w' => e = .returned (.bool (vpB a b c)) ∧ Gro w w' := by
  by_cases h0 : 0 ≤ a
  · skip
    by_cases h1 : a < 4
    · skip
      by_cases h2 : 1 ≤ b
      · skip
        by_cases h3 : b ≤ 99
        · skip
          by_cases h4 : 1 ≤ c
          · skip
            by_cases h5 : c ≤ 999
            · skip
              rw [vpB_mk ⟨h0, h1, h2, h3, h4, h5⟩]
              go_enter Tryd.func38, Tryd.ntmps38
              go_wp2
              go_ret
              exact ⟨rfl, (Gro.refl _).alloc _⟩
            · rw [vpB_false (fun h => h5 (by omega))]
              go_enter Tryd.func38, Tryd.ntmps38
              go_wp2
              go_ret
              exact ⟨rfl, (Gro.refl _).alloc _⟩
          · rw [vpB_false (fun h => h4 (by omega))]
            go_enter Tryd.func38, Tryd.ntmps38
            go_wp2
            go_ret
            exact ⟨rfl, (Gro.refl _).alloc _⟩
        · rw [vpB_false (fun h => h3 (by omega))]
          go_enter Tryd.func38, Tryd.ntmps38
          go_wp2
          go_ret
          exact ⟨rfl, (Gro.refl _).alloc _⟩
      · rw [vpB_false (fun h => h2 (by omega))]
        go_enter Tryd.func38, Tryd.ntmps38
        go_wp2
        go_ret
        exact ⟨rfl, (Gro.refl _).alloc _⟩
    · rw [vpB_false (fun h => h1 (by omega))]
      go_enter Tryd.func38, Tryd.ntmps38
      go_wp2
      go_ret
      exact ⟨rfl, (Gro.refl _).alloc _⟩
  · rw [vpB_false (fun h => h0 (by omega))]
    go_enter Tryd.func38, Tryd.ntmps38
    go_wp2
    go_ret
    exact ⟨rfl, (Gro.refl _).alloc _⟩
theorem pvalid_is (a b c : Int) (w : World) {r : Bool} (h : Hid (vpB a b c = r)) :
    Calls Tryd.prog 32 #[.agg #[.int .i64 a, .int .i64 b, .int .i64 c]] w fun e w' => e = .returned (.bool r) ∧ Gro w w' := by
  have h' := h.out
  subst h'
  exact pvalid_any a b c w
theorem prefValid_is (a b c : Int) (w : World) {r : Bool} (h : Hid (vpB a b c = r)) :
    Calls Tryd.prog 38 #[.agg #[.int .i64 a, .int .i64 b, .int .i64 c]] w fun e w' => e = .returned (.bool r) ∧ Gro w w' := by
  have h' := h.out
  subst h'
  exact prefValid_any a b c w
theorem order_any (a b : Int) (w : World) : Calls Tryd.prog 64 #[.int .i64 a, .int .i64 b] w fun e w' => e = .returned (.int .i64 (ord a b)) ∧ w' = w := by
  by_cases h1 : a < b
  · rw [show ord a b = -1 from if_pos h1]
    go_enter Tryd.func64, Tryd.ntmps64
    go_wp2
    go_ret
    exact ⟨rfl, rfl⟩
  · by_cases h2 : b < a
    · rw [show ord a b = 1 from (if_neg h1).trans (if_pos h2)]
      go_enter Tryd.func64, Tryd.ntmps64
      go_wp2
      go_ret
      exact ⟨rfl, rfl⟩
    · rw [show ord a b = 0 from (if_neg h1).trans (if_neg h2)]
      go_enter Tryd.func64, Tryd.ntmps64
      go_wp2
      go_ret
      exact ⟨rfl, rfl⟩
theorem order_is (a b r : Int) (w : World) (h : Hid (ord a b = r)) : Calls Tryd.prog 64 #[.int .i64 a, .int .i64 b] w fun e w' => e = .returned (.int .i64 r) ∧ w = w' := by
  have h' := h.out
  subst h'
  exact (order_any a b w).mono fun _ _ h => ⟨h.1, h.2.symm⟩
theorem refCompareProc_any (a b c x y z : Int) (w : World) :
    Calls Tryd.prog 40 #[.agg #[.int .i64 a, .int .i64 b, .int .i64 c], .agg #[.int .i64 x, .int .i64 y, .int .i64 z]] w fun e w' => e = .returned (.int .i64 (cmp3 a b c x y z)) ∧ Gro w w' := by
  obtain ⟨r1, h1⟩ : ∃ r, Hid (ord a x = r) := ⟨_, rfl⟩
  obtain ⟨r2, h2⟩ : ∃ r, Hid (ord b y = r) := ⟨_, rfl⟩
  obtain ⟨r3, h3⟩ : ∃ r, Hid (ord c z = r) := ⟨_, rfl⟩
  by_cases k1 : r1 = 0
  · by_cases k2 : r2 = 0
    · rw [cmp3_eq (by rw [h1.out, k1]) (by rw [h2.out, k2]), h3.out]
      subst k1
      subst k2
      go_enter Tryd.func40, Tryd.ntmps40
      go_wp2_with (first
        | (go_at_call 64; (with_reducible refine (order_is a x 0 _ h1).mono ?_); rintro e W2 ⟨rfl, rfl⟩)
        | (go_at_call 64; (with_reducible refine (order_is b y 0 _ h2).mono ?_); rintro e W2 ⟨rfl, rfl⟩)
        | (go_at_call 64; (with_reducible refine (order_is c z r3 _ h3).mono ?_); rintro e W2 ⟨rfl, rfl⟩))
      go_ret
      exact ⟨rfl, ((Gro.refl _).alloc _).alloc _⟩
    · rw [cmp3_two (by rw [h1.out, k1]) (by rw [h2.out]; exact k2), h2.out]
      subst k1
      go_enter Tryd.func40, Tryd.ntmps40
      go_wp2_with (first
        | (go_at_call 64; (with_reducible refine (order_is a x 0 _ h1).mono ?_); rintro e W2 ⟨rfl, rfl⟩)
        | (go_at_call 64; (with_reducible refine (order_is b y r2 _ h2).mono ?_); rintro e W2 ⟨rfl, rfl⟩))
      go_ret
      exact ⟨rfl, ((Gro.refl _).alloc _).alloc _⟩
  · rw [cmp3_one (by rw [h1.out]; exact k1), h1.out]
    go_enter Tryd.func40, Tryd.ntmps40
    go_wp2_with (go_at_call 64; (with_reducible refine (order_is a x r1 _ h1).mono ?_); rintro e W2 ⟨rfl, rfl⟩)
    go_ret
    exact ⟨rfl, ((Gro.refl _).alloc _).alloc _⟩
theorem valid_b (a b c : Int) (w : World) {r : Bool} (h : Hid (vpB a b c = r)) :
    Calls Tryd.prog 32 #[.agg #[.int .i64 a, .int .i64 b, .int .i64 c]] w fun e w' => e = .returned (.bool r) ∧ Below w.heap.size w w' := (pvalid_is a b c w h).mono fun _ _ h => ⟨h.1, h.2.below⟩
theorem refValid_b (a b c : Int) (w : World) {r : Bool} (h : Hid (vpB a b c = r)) :
    Calls Tryd.prog 38 #[.agg #[.int .i64 a, .int .i64 b, .int .i64 c]] w fun e w' => e = .returned (.bool r) ∧ Below w.heap.size w w' := (prefValid_is a b c w h).mono fun _ _ h => ⟨h.1, h.2.below⟩
theorem refCompareProc_is (a b c x y z : Int) (w : World) {r : Int} (h : Hid (cmp3 a b c x y z = r)) :
    Calls Tryd.prog 40 #[.agg #[.int .i64 a, .int .i64 b, .int .i64 c], .agg #[.int .i64 x, .int .i64 y, .int .i64 z]] w fun e w' => e = .returned (.int .i64 r) ∧ Below w.heap.size w w' := by
  have h' := h.out
  subst h'
  exact (refCompareProc_any a b c x y z w).mono fun _ _ h => ⟨h.1, h.2.below⟩
abbrev P3 := Int × Int × Int
abbrev ag (p : P3) : Value := .agg #[.int .i64 p.1, .int .i64 p.2.1, .int .i64 p.2.2]
/-- The slice at A reads as the processes ps, three cells each. -/
def PRd (w : World) (A : Option Addr) (ps : List P3) : Prop :=
  ps ≠ [] → ∃ b o, A = some ⟨b, o, none⟩ ∧ b < w.heap.size ∧ ∀ i, i < ps.length →
    w.cell? ⟨b, o + i * 3, none⟩ = some (.int .i64 (ps.getD i default).1) ∧ w.cell? ⟨b, o + i * 3 + 1, none⟩ = some (.int .i64 (ps.getD i default).2.1) ∧ w.cell? ⟨b, o + i * 3 + 2, none⟩ = some (.int .i64 (ps.getD i default).2.2)
theorem PRd.below {w w' : World} {A : Option Addr} {ps : List P3} (h : PRd w A ps) (hb : Below w.heap.size w w') : PRd w' A ps := fun hx => by
  obtain ⟨b, o, hA, hlt, hc⟩ := h hx
  refine ⟨b, o, hA, Nat.lt_of_lt_of_le hlt hb.size, fun i hi => ?_⟩
  obtain ⟨h1, h2, h3⟩ := hc i hi
  exact ⟨(hb.cell (p := ⟨b, o + i * 3, none⟩) hlt).trans h1, (hb.cell (p := ⟨b, o + i * 3 + 1, none⟩) hlt).trans h2, (hb.cell (p := ⟨b, o + i * 3 + 2, none⟩) hlt).trans h3⟩
theorem PRd.at_ {w : World} {A : Option Addr} {ps : List P3} (h : PRd w A ps) {i : Nat} (hi : i < ps.length) :
    ∃ b o x y z, A = some ⟨b, o, none⟩ ∧ b < w.heap.size ∧ Hid (ps.getD i default = (x, y, z)) ∧ w.cell? ⟨b, o + i * 3, none⟩ = some (.int .i64 x) ∧ w.cell? ⟨b, o + i * 3 + 1, none⟩ = some (.int .i64 y) ∧ w.cell? ⟨b, o + i * 3 + 2, none⟩ = some (.int .i64 z) := by
  obtain ⟨b, o, hA, hb, hc⟩ := h (by rintro rfl; simp at hi)
  obtain ⟨h1, h2, h3⟩ := hc i hi
  exact ⟨b, o, _, _, _, hA, hb, rfl, h1, h2, h3⟩
theorem eqPr (x y z a b c : Int) (w : World) : (binOp .eql 26 (.agg #[.int .i64 x, .int .i64 y, .int .i64 z]) (.agg #[.int .i64 a, .int .i64 b, .int .i64 c])).run Tryd.prog w = .ok (.bool (decide (x = a ∧ y = b ∧ z = c))) w := by
  have u3 := Tryd.underlying3
  have hS : Tryd.prog.underlying 26 = some (.struct (Tryd.prog.fieldsOf 26)) := by kernel_rfl
  have hp : Tryd.prog.stoodInHeld 26 = false := by kernel_rfl
  rw [run_eql_struct, show (10000 : Nat) = 9999 + 1 from rfl, run_equalIn_agg w 9999 26 _ _ hS hp]
  simp only [Program.fieldsOf, Tryd.underlying26]
  go_simp
  by_cases h1 : x = a <;> by_cases h2 : y = b <;> by_cases h3 : z = c <;> simp [h1, h2, h3]
theorem eqPr_no {x y z a b c : Int} (h : ¬ (x = a ∧ y = b ∧ z = c)) (w : World) : (binOp .eql 26 (.agg #[.int .i64 x, .int .i64 y, .int .i64 z]) (.agg #[.int .i64 a, .int .i64 b, .int .i64 c])).run Tryd.prog w = .ok (.bool false) w := by
  rw [eqPr, decide_eq_false h]
theorem compareProc_is (a b c x y z : Int) (w : World) {r : Int} (h : Hid (cmp3 a b c x y z = r)) :
    Calls Tryd.prog 34 #[.agg #[.int .i64 a, .int .i64 b, .int .i64 c], .agg #[.int .i64 x, .int .i64 y, .int .i64 z]] w fun e w' => e = .returned (.int .i64 r) ∧ Below w.heap.size w w' := by
  have h' := h.out
  subst h'
  exact (compareProc_any a b c x y z w).mono fun _ _ h => ⟨h.1, h.2.below⟩
end Go.Proofs.YthclgccgkdijbaaDoor
