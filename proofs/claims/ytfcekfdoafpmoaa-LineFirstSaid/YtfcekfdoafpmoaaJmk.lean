/- Picked from Hpr. -/
import Derived.Test.YtfcekfdoafpmoaaJpr
import Derived.Test.YtfcekfdoafpmoaaJo
namespace Go.Proofs.Ytfcekfdoafpmoaa
open Go.RowKit
open Go.Sort (grow grow_grow alloc_eq_grow)
set_option linter.unusedVariables false
set_option linter.unusedSimpArgs false

theorem pvs_set : ∀ (l : List P3) (i : Nat) (x : P3), (((pvs l).set (i * 3) (.int .i64 x.1)).set (i * 3 + 1) (.int .i64 x.2.1)).set (i * 3 + 2) (.int .i64 x.2.2) = pvs (l.set i x)
  | [], i, x => by simp [pvs]
  | p :: l, 0, x => by simp [pvs]
  | p :: l, i + 1, x => by
    have := pvs_set l i x
    rw [show (i + 1) * 3 = i * 3 + 1 + 1 + 1 by omega]
    simpa [pvs] using this
theorem pvs_zero : ∀ n : Nat, pvs (List.replicate n ((0, 0, 0) : P3)) = List.replicate (n * 3) (.int .i64 0)
  | 0 => rfl
  | n + 1 => by rw [List.replicate_succ, pvs, pvs_zero n, show (n + 1) * 3 = n * 3 + 1 + 1 + 1 by omega]; rfl
theorem av_set : ∀ (l : List P2) (i : Nat) (x : P2), ((av l).set (i * 2) (.int .i64 x.1)).set (i * 2 + 1) (.int .i64 x.2) = av (l.set i x)
  | [], i, x => by simp [av]
  | p :: l, 0, x => by simp [av]
  | p :: l, i + 1, x => by
    have := av_set l i x
    rw [show (i + 1) * 2 = i * 2 + 1 + 1 by omega]
    simpa [av] using this
theorem made_same (z : Value) (m : Nat) : (madeCells #[z, z, z] m) = (List.replicate m z).toArray ∧ (madeCells #[z, z] m) = (List.replicate m z).toArray := by
  refine ⟨Array.ext (by simp [madeCells]) fun i h1 h2 => ?_, Array.ext (by simp [madeCells]) fun i h1 h2 => ?_⟩
  · have hf : ∀ k : Nat, (#[z, z, z] : Array Value)[k % 3]! = z := fun k => by
      have hc : k % 3 = 0 ∨ k % 3 = 1 ∨ k % 3 = 2 := by omega
      rcases hc with e | e | e <;> rw [e] <;> rfl
    simp [madeCells, hf]
  · have hf : ∀ k : Nat, (#[z, z] : Array Value)[k % 2]! = z := fun k => by
      have hc : k % 2 = 0 ∨ k % 2 = 1 := by omega
      rcases hc with e | e <;> rw [e] <;> rfl
    simp [madeCells, hf]
abbrev zPr (n : Nat) : List P3 := List.replicate n (0, 0, 0)
theorem make_pr (n : Nat) (hn : n ≤ 1000000) (w : World) : (Instr.makeSlice 41 (.int .i64 (n : Int)) (.int .i64 (n : Int))).run Try.prog w = .ok (.slice (some ⟨w.heap.size, 0, none⟩) n n) (w.alloc (.cells (pvs (zPr n)).toArray 24)) := by
  obtain ⟨i0, hi, hz0, hz1, hz2⟩ := info_parts pr_info
  have hr := run_make (P := Try.prog) w 41 24 i0 _ Try.underlying41 hi hz0 .i64 .i64 n n (by omega) (Int.le_refl _) (by rw [hz2]; omega) (by omega)
  rw [hr]
  simp only [Int.toNat_natCast, hz1, Value.cells, (made_same _ _).1, pvs_zero]
theorem own_pr_new (w : World) (n : Nat) (hn : n ≤ 1000000) : OwnPr (w.alloc (.cells (pvs (zPr n)).toArray 24)) w.heap.size (.slice (some ⟨w.heap.size, 0, none⟩) n n) (zPr n) := by
  have := World.ownsRow_lit (base := w.heap.size) (e := 24) (size := 3) w (pvs (zPr n)).toArray n (Nat.le_refl _) (by simp only [maxLen]; omega) (by simp [pvs_length])
  unfold OwnPr
  rw [List.length_replicate]
  exact this
theorem OwnPr.store {w : World} {base g n cap : Nat} {l : List P3} (h : OwnPr w base (.slice (some ⟨g, 0, none⟩) n cap) l) (hn : l.length = n) (i : Nat) (x : P3) :
    OwnPr (((w.setCell ⟨g, i * 3, none⟩ (.int .i64 x.1)).setCell ⟨g, i * 3 + 1, none⟩ (.int .i64 x.2.1)).setCell ⟨g, i * 3 + 2, none⟩ (.int .i64 x.2.2)) base (.slice (some ⟨g, 0, none⟩) n cap) (l.set i x) := by
  subst hn
  have h1 := ((h.stored (i * 3) (.int .i64 x.1)).1.stored (i * 3 + 1) (.int .i64 x.2.1)).1.stored (i * 3 + 2) (.int .i64 x.2.2)
  unfold OwnPr
  rw [List.length_set, ← pvs_set]
  exact h1.1
theorem OwnA.store {w : World} {base g n cap : Nat} {l : List P2} (h : OwnA w base (.slice (some ⟨g, 0, none⟩) n cap) l) (hn : l.length = n) (i : Nat) (x : P2) :
    OwnA ((w.setCell ⟨g, i * 2, none⟩ (.int .i64 x.1)).setCell ⟨g, i * 2 + 1, none⟩ (.int .i64 x.2)) base (.slice (some ⟨g, 0, none⟩) n cap) (l.set i x) := by
  subst hn
  have h1 := (h.stored (i * 2) (.int .i64 x.1)).1.stored (i * 2 + 1) (.int .i64 x.2)
  unfold OwnA
  rw [List.length_set, ← av_set]
  exact h1.1
/-- What a row filled from the front holds after k steps. -/
theorem fill_step {α : Type} [Inhabited α] (l : List α) (z : α) {k n : Nat} (hn : l.length = n) (hk : k < n) : (l.take k ++ List.replicate (n - k) z).set k (l.getD k default) = l.take (k + 1) ++ List.replicate (n - (k + 1)) z := by
  rw [List.take_succ_eq_append_getElem (by omega), List.set_append, if_neg (by simp; omega), List.length_take, show min k l.length = k by omega, Nat.sub_self, show n - k = (n - (k + 1)) + 1 by omega, List.replicate_succ, List.set_cons_zero, List.getD_eq_getElem?_getD, List.getElem?_eq_getElem (by omega), List.append_assoc]
  rfl
end Go.Proofs.Ytfcekfdoafpmoaa
