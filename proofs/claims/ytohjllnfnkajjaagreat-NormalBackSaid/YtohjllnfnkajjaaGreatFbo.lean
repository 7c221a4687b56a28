/- Slices of bools as lists; blocks of bools of the call's own. -/
import Derived.Test.YtohjllnfnkajjaaGreatRsv
import Derived.Test.YtohjllnfnkajjaaGreatRblk
import Derived.Deep.OwnRows
import Derived.Deep.QuietTactic
namespace Go.Proofs.YtohjllnfnkajjaaGreat
open Go.RowKit
set_option linter.unusedVariables false

def bvs (l : List Bool) : List Value := l.map Value.bool
theorem bvs_len (l : List Bool) : (bvs l).length = l.length := by simp [bvs]
theorem bvs_at {l : List Bool} {i : Nat} (h : i < l.length) : (bvs l)[i]? = some (.bool (l.getD i false)) := by
  simp [bvs, List.getD_eq_getElem?_getD, List.getElem?_eq_getElem h]
theorem bvs_set (l : List Bool) (i : Nat) (v : Bool) : (bvs l).set i (.bool v) = bvs (l.set i v) := by simp [bvs, List.map_set]
/-- The slice at A reads as the bools l. -/
def BR (w : World) (A : Option Addr) (l : List Bool) : Prop :=
  l ≠ [] → ∃ b o, A = some ⟨b, o, none⟩ ∧ b < w.heap.size ∧ ∀ i, i < l.length → w.cell? ⟨b, o + i, none⟩ = some (.bool (l.getD i false))
theorem BR.nil (w : World) (A : Option Addr) : BR w A [] := fun h => absurd rfl h
theorem BR.at_ {w : World} {A : Option Addr} {l : List Bool} (h : BR w A l) {i : Nat} (hi : i < l.length) :
    ∃ b o v, A = some ⟨b, o, none⟩ ∧ b < w.heap.size ∧ Hid (l.getD i false = v) ∧ w.cell? ⟨b, o + i, none⟩ = some (.bool v) := by
  obtain ⟨b, o, hA, hb, hc⟩ := h (by rintro rfl; simp at hi)
  exact ⟨b, o, _, hA, hb, rfl, hc i hi⟩
theorem BR.below {w w' : World} {A : Option Addr} {l : List Bool} (h : BR w A l) (hb : Below w.heap.size w w') : BR w' A l := fun hx => by
  obtain ⟨b, o, hA, hlt, hc⟩ := h hx
  exact ⟨b, o, hA, Nat.lt_of_lt_of_le hlt hb.size, fun i hi => (hb.cell (p := ⟨b, o + i, none⟩) hlt).trans (hc i hi)⟩
theorem Blk.br {w : World} {g : Nat} {l : List Bool} (h : Blk w g (bvs l)) : BR w (some ⟨g, 0, none⟩) l := fun _ =>
  ⟨g, 0, rfl, h.lt, fun i hi => by rw [Nat.zero_add]; exact h.cell i (bvs_at hi)⟩
theorem Blk.bset {w : World} {g : Nat} {l : List Bool} (h : Blk w g (bvs l)) (i : Nat) (v : Bool) : Blk (w.setCell ⟨g, i, none⟩ (.bool v)) g (bvs (l.set i v)) := by
  rw [← bvs_set]
  exact h.set i _
theorem made_bools (n : Nat) : madeCells #[.bool false] n = (bvs (List.replicate n false)).toArray := by
  refine Array.ext (by simp [madeCells, bvs]) fun i h1 h2 => ?_
  have hf : ∀ k : Nat, (#[Value.bool false] : Array Value)[k % 1]! = .bool false := fun k => by rw [Nat.mod_one]; rfl
  simp [madeCells, bvs, hf]
theorem bool_info : (Tryz.prog.info? 4).map (fun i => (i.zero, i.size, i.bytes)) = some (some (.bool false), 1, 1) := by kernel_rfl
/-- make([]bool, n). -/
theorem make_bools (n : Nat) (hn : n ≤ 1000000) (w : World) : (Instr.makeSlice 39 (.int .i64 (n : Int)) (.int .i64 (n : Int))).run Tryz.prog w = .ok (.slice (some ⟨w.heap.size, 0, none⟩) n n) (w.alloc (.cells (bvs (List.replicate n false)).toArray 4)) := by
  rw [← made_bools]
  exact run_make_row' (P := Tryz.prog) 39 4 (.bool false) 1 Tryz.underlying39 bool_info rfl .i64 .i64 n (by omega) (by omega) w
/-- A slice of bools that came in. -/
structure InB (w : World) (A : Option Addr) (n c : Nat) (l : List Bool) : Prop where
  len : l.length = n
  rd : BR w A l
  fit : n ≤ c
  big : n ≤ 140737488355328
end Go.Proofs.YtohjllnfnkajjaaGreat
