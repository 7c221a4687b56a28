/- Contracts: processes and stamps compared, by the program and by the reference. -/
import Derived.Test.YtchffamnamhcdaaDoorIcmp
namespace Go.Proofs.YtchffamnamhcdaaDoor
open Go.RowKit
open Go.Sort (grow grow_grow alloc_eq_grow)

theorem numbers_any (a b c : Int) (w : World) :
    Calls Tryd.prog 41 #[.agg #[.int .i64 a, .int .i64 b, .int .i64 c]] w fun e w' => e = .returned (.agg #[.int .i64 a, .int .i64 b, .int .i64 c]) ∧ Gro w w' := by
  go_enter Tryd.func41, Tryd.ntmps41
  go_wp2
  exact bodyPost_ret (v := .agg #[.int .i64 a, .int .i64 b, .int .i64 c]) (by simp [results, Tryd.results41, go_sem]) rfl ⟨rfl, ((Gro.refl _).alloc _).alloc _⟩
theorem fromNumbers_any (a b c : Int) (w : World) :
    Calls Tryd.prog 46 #[.agg #[.int .i64 a, .int .i64 b, .int .i64 c]] w fun e w' => e = .returned (.agg #[.int .i64 a, .int .i64 b, .int .i64 c]) ∧ Gro w w' := by
  go_enter Tryd.func46, Tryd.ntmps46
  go_wp2
  exact bodyPost_ret (v := .agg #[.int .i64 a, .int .i64 b, .int .i64 c]) (by simp [results, Tryd.results46, go_sem]) rfl ⟨rfl, ((Gro.refl _).alloc _).alloc _⟩

/-- Two blocks of three numbers read as they were laid in every world that kept them. -/
theorem two3 {w W : World} {T U : TypeId} {a b c x y z : Value} (h : Below ((w.alloc (.cells #[a, b, c] T)).alloc (.cells #[x, y, z] U)).heap.size ((w.alloc (.cells #[a, b, c] T)).alloc (.cells #[x, y, z] U)) W) :
    W.cell? ⟨w.heap.size, 0, none⟩ = some a ∧ W.cell? ⟨w.heap.size, 1, none⟩ = some b ∧ W.cell? ⟨w.heap.size, 2, none⟩ = some c ∧
      W.cell? ⟨w.heap.size + 1, 0, none⟩ = some x ∧ W.cell? ⟨w.heap.size + 1, 1, none⟩ = some y ∧ W.cell? ⟨w.heap.size + 1, 2, none⟩ = some z := by
  have e : ∀ p : Addr, p.block < w.heap.size + 2 → W.cell? p = ((w.alloc (.cells #[a, b, c] T)).alloc (.cells #[x, y, z] U)).cell? p := fun p hp => h.cell (by simp; omega)
  refine ⟨?_, ?_, ?_, ?_, ?_, ?_⟩ <;> rw [e _ (by simp)] <;> simp
theorem two3G {w W : World} {T U : TypeId} {a b c x y z : Value} (h : Gro ((w.alloc (.cells #[a, b, c] T)).alloc (.cells #[x, y, z] U)) W) :
    Gro ((w.alloc (.cells #[a, b, c] T)).alloc (.cells #[x, y, z] U)) W ∧ W.cell? ⟨w.heap.size, 0, none⟩ = some a ∧ W.cell? ⟨w.heap.size, 1, none⟩ = some b ∧ W.cell? ⟨w.heap.size, 2, none⟩ = some c ∧
      W.cell? ⟨w.heap.size + 1, 0, none⟩ = some x ∧ W.cell? ⟨w.heap.size + 1, 1, none⟩ = some y ∧ W.cell? ⟨w.heap.size + 1, 2, none⟩ = some z := ⟨h, two3 h.below⟩

set_option maxHeartbeats 400000 in
theorem compareProc_any (a b c x y z : Int) (w : World) :
    Calls Tryd.prog 19 #[.agg #[.int .i64 a, .int .i64 b, .int .i64 c], .agg #[.int .i64 x, .int .i64 y, .int .i64 z]] w fun e w' => e = .returned (.int .i64 (cmp3 a b c x y z)) ∧ Gro w w' := by
  have g0 : Gro w ((w.alloc (.cells #[.int .i64 a, .int .i64 b, .int .i64 c] 23)).alloc (.cells #[.int .i64 x, .int .i64 y, .int .i64 z] 23)) := ((Gro.refl w).alloc _).alloc _
  go_enter Tryd.func19, Tryd.ntmps19
  go_wp2
  go_region_held3 (fun W => Gro ((w.alloc (.cells #[.int .i64 a, .int .i64 b, .int .i64 c] 23)).alloc (.cells #[.int .i64 x, .int .i64 y, .int .i64 z] 23)) W ∧ W.cell? ⟨w.heap.size, 0, none⟩ = some (.int .i64 a) ∧ W.cell? ⟨w.heap.size, 1, none⟩ = some (.int .i64 b) ∧ W.cell? ⟨w.heap.size, 2, none⟩ = some (.int .i64 c) ∧
      W.cell? ⟨w.heap.size + 1, 0, none⟩ = some (.int .i64 x) ∧ W.cell? ⟨w.heap.size + 1, 1, none⟩ = some (.int .i64 y) ∧ W.cell? ⟨w.heap.size + 1, 2, none⟩ = some (.int .i64 z))
    (first
      | exact two3G (Gro.refl _)
      | exact two3G (Gro.refl _).drew
      | (go_split_ands; exact two3G (Gro.trans (by assumption) hg2))
      | (go_split_ands; exact two3G (Gro.trans (by assumption) hg1)))
    (first
      | (go_at_call 41; refine (numbers_any _ _ _ _).mono ?_; rintro e W1 ⟨rfl, hg1⟩)
      | (go_at_call 40; refine (compare_any _ _ _ _ _ _ _).mono ?_; rintro e W2 ⟨rfl, hg2⟩))
  all_goals (go_wp2; go_ret; go_split_ands; exact ⟨rfl, g0.trans (by assumption)⟩)
end Go.Proofs.YtchffamnamhcdaaDoor
