/- Contracts: validity by the reference, stamps, generations, Merge. -/
import Derived.Test.YtchffamnamhcdaaDoorIord
namespace Go.Proofs.YtchffamnamhcdaaDoor
open Go.RowKit
open Go.Sort (grow grow_grow alloc_eq_grow)

theorem refValid_any (a b c : Int) (w : World) :
    Calls Tryd.prog 16 #[.agg #[.int .i64 a, .int .i64 b, .int .i64 c]] w fun e w' => e = .returned (.bool (vpB a b c)) ∧ Gro w w' := by
  by_cases h0 : 0 ≤ a
  · skip
    by_cases h1 : a < 4
    · skip
      by_cases h2 : 1 ≤ b
      · skip
        by_cases h3 : b ≤ 99
        · skip
          by_cases h4 : 1 ≤ c
          · skip
            by_cases h5 : c ≤ 999
            · skip
              rw [vpB_mk ⟨h0, h1, h2, h3, h4, h5⟩]
              go_enter Tryd.func16, Tryd.ntmps16
              go_wp2
              go_ret
              exact ⟨rfl, (Gro.refl _).alloc _⟩
            · rw [vpB_false (fun h => h5 (by omega))]
              go_enter Tryd.func16, Tryd.ntmps16
              go_wp2
              go_ret
              exact ⟨rfl, (Gro.refl _).alloc _⟩
          · rw [vpB_false (fun h => h4 (by omega))]
            go_enter Tryd.func16, Tryd.ntmps16
            go_wp2
            go_ret
            exact ⟨rfl, (Gro.refl _).alloc _⟩
        · rw [vpB_false (fun h => h3 (by omega))]
          go_enter Tryd.func16, Tryd.ntmps16
          go_wp2
          go_ret
          exact ⟨rfl, (Gro.refl _).alloc _⟩
      · rw [vpB_false (fun h => h2 (by omega))]
        go_enter Tryd.func16, Tryd.ntmps16
        go_wp2
        go_ret
        exact ⟨rfl, (Gro.refl _).alloc _⟩
    · rw [vpB_false (fun h => h1 (by omega))]
      go_enter Tryd.func16, Tryd.ntmps16
      go_wp2
      go_ret
      exact ⟨rfl, (Gro.refl _).alloc _⟩
  · rw [vpB_false (fun h => h0 (by omega))]
    go_enter Tryd.func16, Tryd.ntmps16
    go_wp2
    go_ret
    exact ⟨rfl, (Gro.refl _).alloc _⟩
theorem vstamp_any (t s : Int) (w : World) :
    Calls Tryd.prog 17 #[.agg #[.int .i64 t, .int .i64 s]] w fun e w' => e = .returned (.bool (vsB t s)) ∧ Gro w w' := by
  by_cases h0 : 0 ≤ t
  · skip
    by_cases h1 : t ≤ 1073741824
    · skip
      by_cases h2 : 0 ≤ s
      · skip
        by_cases h3 : s < 4
        · skip
          rw [vsB_mk ⟨h0, h1, h2, h3⟩]
          go_enter Tryd.func17, Tryd.ntmps17
          go_wp2
          go_ret
          exact ⟨rfl, (Gro.refl _).alloc _⟩
        · rw [vsB_false (fun h => h3 (by omega))]
          go_enter Tryd.func17, Tryd.ntmps17
          go_wp2
          go_ret
          exact ⟨rfl, (Gro.refl _).alloc _⟩
      · rw [vsB_false (fun h => h2 (by omega))]
        go_enter Tryd.func17, Tryd.ntmps17
        go_wp2
        go_ret
        exact ⟨rfl, (Gro.refl _).alloc _⟩
    · rw [vsB_false (fun h => h1 (by omega))]
      go_enter Tryd.func17, Tryd.ntmps17
      go_wp2
      go_ret
      exact ⟨rfl, (Gro.refl _).alloc _⟩
  · rw [vsB_false (fun h => h0 (by omega))]
    go_enter Tryd.func17, Tryd.ntmps17
    go_wp2
    go_ret
    exact ⟨rfl, (Gro.refl _).alloc _⟩
theorem refVstamp_any (t s : Int) (w : World) :
    Calls Tryd.prog 18 #[.agg #[.int .i64 t, .int .i64 s]] w fun e w' => e = .returned (.bool (vsB t s)) ∧ Gro w w' := by
  by_cases h0 : 0 ≤ t
  · skip
    by_cases h1 : t ≤ 1073741824
    · skip
      by_cases h2 : 0 ≤ s
      · skip
        by_cases h3 : s < 4
        · skip
          rw [vsB_mk ⟨h0, h1, h2, h3⟩]
          go_enter Tryd.func18, Tryd.ntmps18
          go_wp2
          go_ret
          exact ⟨rfl, (Gro.refl _).alloc _⟩
        · rw [vsB_false (fun h => h3 (by omega))]
          go_enter Tryd.func18, Tryd.ntmps18
          go_wp2
          go_ret
          exact ⟨rfl, (Gro.refl _).alloc _⟩
      · rw [vsB_false (fun h => h2 (by omega))]
        go_enter Tryd.func18, Tryd.ntmps18
        go_wp2
        go_ret
        exact ⟨rfl, (Gro.refl _).alloc _⟩
    · rw [vsB_false (fun h => h1 (by omega))]
      go_enter Tryd.func18, Tryd.ntmps18
      go_wp2
      go_ret
      exact ⟨rfl, (Gro.refl _).alloc _⟩
  · rw [vsB_false (fun h => h0 (by omega))]
    go_enter Tryd.func18, Tryd.ntmps18
    go_wp2
    go_ret
    exact ⟨rfl, (Gro.refl _).alloc _⟩
theorem valid_is (a b c : Int) (w : World) {r : Bool} (h : Hid (vpB a b c = r)) :
    Calls Tryd.prog 15 #[.agg #[.int .i64 a, .int .i64 b, .int .i64 c]] w fun e w' => e = .returned (.bool r) ∧ Gro w w' := by
  have h' := h.out
  subst h'
  exact valid_any a b c w
theorem refValid_is (a b c : Int) (w : World) {r : Bool} (h : Hid (vpB a b c = r)) :
    Calls Tryd.prog 16 #[.agg #[.int .i64 a, .int .i64 b, .int .i64 c]] w fun e w' => e = .returned (.bool r) ∧ Gro w w' := by
  have h' := h.out
  subst h'
  exact refValid_any a b c w
theorem vstamp_is (t s : Int) (w : World) {r : Bool} (h : Hid (vsB t s = r)) :
    Calls Tryd.prog 17 #[.agg #[.int .i64 t, .int .i64 s]] w fun e w' => e = .returned (.bool r) ∧ Gro w w' := by
  have h' := h.out
  subst h'
  exact vstamp_any t s w
theorem refVstamp_is (t s : Int) (w : World) {r : Bool} (h : Hid (vsB t s = r)) :
    Calls Tryd.prog 18 #[.agg #[.int .i64 t, .int .i64 s]] w fun e w' => e = .returned (.bool r) ∧ Gro w w' := by
  have h' := h.out
  subst h'
  exact refVstamp_any t s w

/-- The order of stamps. -/
def cmp2 (t s u v : Int) : Int := if ord t u = 0 then ord s v else ord t u
theorem cmp2_three (t s u v : Int) : cmp3 t s 0 u v 0 = cmp2 t s u v := by
  unfold cmp3 cmp2
  rw [ord_self]
  by_cases h1 : ord t u = 0
  · rw [if_pos h1, if_pos h1]
    by_cases h2 : ord s v = 0
    · rw [if_pos h2, h2]
    · rw [if_neg h2]
  · rw [if_neg h1, if_neg h1]
theorem compareStamp_any (t s u v : Int) (w : World) :
    Calls Tryd.prog 21 #[.agg #[.int .i64 t, .int .i64 s], .agg #[.int .i64 u, .int .i64 v]] w fun e w' => e = .returned (.int .i64 (cmp2 t s u v)) ∧ Gro w w' := by
  rw [← cmp2_three]
  go_enter Tryd.func21, Tryd.ntmps21
  go_wp2_with (go_at_call 40; refine (compare_any _ _ _ _ _ _ _).mono ?_; rintro e W2 ⟨rfl, hg2⟩)
  go_ret
  exact ⟨rfl, (((Gro.refl _).alloc _).alloc _).trans hg2⟩
theorem order_any (a b : Int) (w : World) : Calls Tryd.prog 42 #[.int .i64 a, .int .i64 b] w fun e w' => e = .returned (.int .i64 (ord a b)) ∧ w' = w := by
  by_cases h1 : a < b
  · rw [show ord a b = -1 from if_pos h1]
    go_enter Tryd.func42, Tryd.ntmps42
    go_wp2
    go_ret
    exact ⟨rfl, rfl⟩
  · by_cases h2 : b < a
    · rw [show ord a b = 1 from (if_neg h1).trans (if_pos h2)]
      go_enter Tryd.func42, Tryd.ntmps42
      go_wp2
      go_ret
      exact ⟨rfl, rfl⟩
    · rw [show ord a b = 0 from (if_neg h1).trans (if_neg h2)]
      go_enter Tryd.func42, Tryd.ntmps42
      go_wp2
      go_ret
      exact ⟨rfl, rfl⟩
theorem order_is (a b r : Int) (w : World) (h : Hid (ord a b = r)) : Calls Tryd.prog 42 #[.int .i64 a, .int .i64 b] w fun e w' => e = .returned (.int .i64 r) ∧ w = w' := by
  have h' := h.out
  subst h'
  exact (order_any a b w).mono fun _ _ h => ⟨h.1, h.2.symm⟩
theorem refCompareProc_any (a b c x y z : Int) (w : World) :
    Calls Tryd.prog 20 #[.agg #[.int .i64 a, .int .i64 b, .int .i64 c], .agg #[.int .i64 x, .int .i64 y, .int .i64 z]] w fun e w' => e = .returned (.int .i64 (cmp3 a b c x y z)) ∧ Gro w w' := by
  obtain ⟨r1, h1⟩ : ∃ r, Hid (ord a x = r) := ⟨_, rfl⟩
  obtain ⟨r2, h2⟩ : ∃ r, Hid (ord b y = r) := ⟨_, rfl⟩
  obtain ⟨r3, h3⟩ : ∃ r, Hid (ord c z = r) := ⟨_, rfl⟩
  by_cases k1 : r1 = 0
  · by_cases k2 : r2 = 0
    · rw [cmp3_eq (by rw [h1.out, k1]) (by rw [h2.out, k2]), h3.out]
      subst k1
      subst k2
      go_enter Tryd.func20, Tryd.ntmps20
      go_wp2_with (first
        | (go_at_call 42; (with_reducible refine (order_is a x 0 _ h1).mono ?_); rintro e W2 ⟨rfl, rfl⟩)
        | (go_at_call 42; (with_reducible refine (order_is b y 0 _ h2).mono ?_); rintro e W2 ⟨rfl, rfl⟩)
        | (go_at_call 42; (with_reducible refine (order_is c z r3 _ h3).mono ?_); rintro e W2 ⟨rfl, rfl⟩))
      go_ret
      exact ⟨rfl, ((Gro.refl _).alloc _).alloc _⟩
    · rw [cmp3_two (by rw [h1.out, k1]) (by rw [h2.out]; exact k2), h2.out]
      subst k1
      go_enter Tryd.func20, Tryd.ntmps20
      go_wp2_with (first
        | (go_at_call 42; (with_reducible refine (order_is a x 0 _ h1).mono ?_); rintro e W2 ⟨rfl, rfl⟩)
        | (go_at_call 42; (with_reducible refine (order_is b y r2 _ h2).mono ?_); rintro e W2 ⟨rfl, rfl⟩))
      go_ret
      exact ⟨rfl, ((Gro.refl _).alloc _).alloc _⟩
  · rw [cmp3_one (by rw [h1.out]; exact k1), h1.out]
    go_enter Tryd.func20, Tryd.ntmps20
    go_wp2_with (go_at_call 42; (with_reducible refine (order_is a x r1 _ h1).mono ?_); rintro e W2 ⟨rfl, rfl⟩)
    go_ret
    exact ⟨rfl, ((Gro.refl _).alloc _).alloc _⟩
theorem refCompareStamp_any (t s u v : Int) (w : World) :
    Calls Tryd.prog 22 #[.agg #[.int .i64 t, .int .i64 s], .agg #[.int .i64 u, .int .i64 v]] w fun e w' => e = .returned (.int .i64 (cmp2 t s u v)) ∧ Gro w w' := by
  obtain ⟨r1, h1⟩ : ∃ r, Hid (ord t u = r) := ⟨_, rfl⟩
  obtain ⟨r2, h2⟩ : ∃ r, Hid (ord s v = r) := ⟨_, rfl⟩
  by_cases k1 : r1 = 0
  · rw [cmp2, if_pos (by rw [h1.out, k1]), h2.out]
    subst k1
    go_enter Tryd.func22, Tryd.ntmps22
    go_wp2_with (first
      | (go_at_call 42; (with_reducible refine (order_is t u 0 _ h1).mono ?_); rintro e W2 ⟨rfl, rfl⟩)
      | (go_at_call 42; (with_reducible refine (order_is s v r2 _ h2).mono ?_); rintro e W2 ⟨rfl, rfl⟩))
    go_ret
    exact ⟨rfl, ((Gro.refl _).alloc _).alloc _⟩
  · rw [cmp2, if_neg (by rw [h1.out]; exact k1), h1.out]
    go_enter Tryd.func22, Tryd.ntmps22
    go_wp2_with (go_at_call 42; (with_reducible refine (order_is t u r1 _ h1).mono ?_); rintro e W2 ⟨rfl, rfl⟩)
    go_ret
    exact ⟨rfl, ((Gro.refl _).alloc _).alloc _⟩

/-- The generation behind another one. -/
def nextI (g : Int) : Int := if 0 ≤ g ∧ g < 1073741824 then g + 1 else 1
theorem next_ok (g : Int) : 1 ≤ nextI g ∧ nextI g ≤ 1073741824 ∧ nextI g ≠ g := by unfold nextI; split <;> omega
theorem next_any (g : Int) (w : World) : Calls Tryd.prog 37 #[.int .i64 g] w fun e w' => e = .returned (.int .i64 (nextI g)) ∧ w = w' := by
  by_cases h1 : g < 0
  · rw [show nextI g = 1 from if_neg (by omega)]
    go_enter Tryd.func37, Tryd.ntmps37
    go_wp2
    go_ret
    exact ⟨rfl, rfl⟩
  · by_cases h2 : 1073741824 ≤ g
    · rw [show nextI g = 1 from if_neg (by omega)]
      go_enter Tryd.func37, Tryd.ntmps37
      go_wp2
      go_ret
      exact ⟨rfl, rfl⟩
    · rw [show nextI g = g + 1 from if_pos (by omega)]
      have h1' : 0 ≤ g := by omega
      have h2' : g < 1073741824 := by omega
      go_enter Tryd.func37, Tryd.ntmps37
      go_wp2
      go_ret
      exact ⟨rfl, rfl⟩
theorem refNext_any (g : Int) (w : World) : Calls Tryd.prog 38 #[.int .i64 g] w fun e w' => e = .returned (.int .i64 (nextI g)) ∧ w = w' := by
  by_cases h1 : g < 0
  · rw [show nextI g = 1 from if_neg (by omega)]
    go_enter Tryd.func38, Tryd.ntmps38
    go_wp2
    go_ret
    exact ⟨rfl, rfl⟩
  · by_cases h2 : 1073741824 ≤ g
    · rw [show nextI g = 1 from if_neg (by omega)]
      go_enter Tryd.func38, Tryd.ntmps38
      go_wp2
      go_ret
      exact ⟨rfl, rfl⟩
    · rw [show nextI g = g + 1 from if_pos (by omega)]
      have h1' : 0 ≤ g := by omega
      have h2' : g < 1073741824 := by omega
      go_enter Tryd.func38, Tryd.ntmps38
      go_wp2
      go_ret
      exact ⟨rfl, rfl⟩
end Go.Proofs.YtchffamnamhcdaaDoor
