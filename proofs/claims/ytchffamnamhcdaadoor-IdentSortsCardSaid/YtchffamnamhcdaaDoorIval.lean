/- Contracts: which processes and stamps are valid, numbers and their order. -/
import Derived.Test.YtchffamnamhcdaaDoorShelf
import Derived.Test.YtchffamnamhcdaaDoorIdn
import Derived.WalkLawsBesides
import Derived.Deep.RegionHeld3
import Derived.KernelRfl
import Derived.BigQuiet
import Derived.Deep.QuietTactic
namespace Go.Proofs.YtchffamnamhcdaaDoor
open Go.RowKit
open Go.Sort (grow grow_grow alloc_eq_grow)

theorem ret_bool {b c : Bool} (h : b = c) : Ending.returned (.bool b) = .returned (.bool c) := by rw [h]
/-- A call that leaves the world, in a region behind draws. -/
theorem quietA {P : Program} {f : FuncId} {args : Array Value} {w : World} {a n : Nat} {v : Value} (h : ∀ W, Calls P f args W fun e w' => e = .returned v ∧ w' = W) :
    Calls P f args (w.drewN (a + n)) fun e w' => e = .returned v ∧ ∃ m, w' = w.drewN (a + m) := (h _).mono fun _ _ k => ⟨k.1, n, k.2⟩
theorem ret_i64 {a b : Int} (h : a = b) : Ending.returned (.int .i64 a) = .returned (.int .i64 b) := by rw [h]

theorem valid_yes (a b c : Int) (w : World) (h : 0 ≤ a ∧ a < 4 ∧ 1 ≤ b ∧ b ≤ 99 ∧ 1 ≤ c ∧ c ≤ 999) :
    Calls Tryd.prog 15 #[.agg #[.int .i64 a, .int .i64 b, .int .i64 c]] w fun e w' => e = .returned (.bool true) ∧ Gro w w' := by
  obtain ⟨h1, h2, h3, h4, h5, h6⟩ := h
  go_enter Tryd.func15, Tryd.ntmps15
  go_wp2
  go_ret
  exact ⟨rfl, (Gro.refl _).alloc _⟩
theorem valid_no (a b c : Int) (w : World) (h : ¬ (0 ≤ a ∧ a < 4 ∧ 1 ≤ b ∧ b ≤ 99 ∧ 1 ≤ c ∧ c ≤ 999)) :
    Calls Tryd.prog 15 #[.agg #[.int .i64 a, .int .i64 b, .int .i64 c]] w fun e w' => e = .returned (.bool false) ∧ Gro w w' := by
  by_cases h1 : 0 ≤ a
  · by_cases h2 : a < 4
    · by_cases h3 : 1 ≤ b
      · by_cases h4 : b ≤ 99
        · by_cases h5 : 1 ≤ c
          · have h6 : ¬ c ≤ 999 := by omega
            clear h
            go_enter Tryd.func15, Tryd.ntmps15
            go_wp2
            go_ret
            exact ⟨rfl, (Gro.refl _).alloc _⟩
          · clear h
            go_enter Tryd.func15, Tryd.ntmps15
            go_wp2
            go_ret
            exact ⟨rfl, (Gro.refl _).alloc _⟩
        · clear h
          go_enter Tryd.func15, Tryd.ntmps15
          go_wp2
          go_ret
          exact ⟨rfl, (Gro.refl _).alloc _⟩
      · clear h
        go_enter Tryd.func15, Tryd.ntmps15
        go_wp2
        go_ret
        exact ⟨rfl, (Gro.refl _).alloc _⟩
    · clear h
      go_enter Tryd.func15, Tryd.ntmps15
      go_wp2
      go_ret
      exact ⟨rfl, (Gro.refl _).alloc _⟩
  · clear h
    go_enter Tryd.func15, Tryd.ntmps15
    go_wp2
    go_ret
    exact ⟨rfl, (Gro.refl _).alloc _⟩
theorem valid_any (a b c : Int) (w : World) :
    Calls Tryd.prog 15 #[.agg #[.int .i64 a, .int .i64 b, .int .i64 c]] w fun e w' => e = .returned (.bool (vpB a b c)) ∧ Gro w w' := by
  by_cases h : 0 ≤ a ∧ a < 4 ∧ 1 ≤ b ∧ b ≤ 99 ∧ 1 ≤ c ∧ c ≤ 999
  · rw [vpB_mk h]; exact valid_yes a b c w h
  · rw [vpB_false h]; exact valid_no a b c w h
end Go.Proofs.YtchffamnamhcdaaDoor
