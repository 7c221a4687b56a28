/- Slices of resources cut at a place. -/
import Derived.Test.YtmfdafffafbmpaaDoorCsame
namespace Go.Proofs.YtmfdafffafbmpaaDoor
open Go.RowKit
set_option linter.unusedVariables false
set_option linter.unusedSimpArgs false

theorem elemR : Tryd.prog.elem 24 = 26 := by kernel_rfl
theorem sizeR (W : World) : (sizeOf 26).run Tryd.prog W = .ok 4 W := by
  obtain ⟨i0, hi, hz0, hz1, hz2⟩ := info_parts res_info
  simp [sizeOf, typeInfo, hi, hz1]
theorem cut_front {w : World} {A : Option Addr} {n c : Nat} {l : List P4} (hl : InR w A n c l) {p : Nat} (hp : p ≤ n) (W : World) :
    (Instr.slice 24 (.slice A n c) none (some (.int .i64 (p : Int))) none).run Tryd.prog W = .ok (.slice A p c) W := by
  have hu : Tryd.prog.underlying 24 = some (.slice (Tryd.prog.elem 24)) := by rw [elemR]; exact Tryd.underlying24
  have h2 := hl.fit
  rw [run_slice_h W 24 A n c hu .i64 (p : Int) (by omega) (by omega), elemR, sizeR]
  cases A <;> simp [sliced, Result.andThen, Addr.add]
theorem cut_back {w : World} {A : Option Addr} {n c : Nat} {l : List P4} (hl : InR w A n c l) {p : Nat} (hp : p ≤ n) :
    ∃ A2 c2, (∀ W, (Instr.slice 24 (.slice A n c) (some (.int .i64 (p : Int))) none none).run Tryd.prog W = .ok (.slice A2 (n - p) c2) W) ∧ RRd w A2 (l.drop p) := by
  have hu : Tryd.prog.underlying 24 = some (.slice (Tryd.prog.elem 24)) := by rw [elemR]; exact Tryd.underlying24
  have hn := hl.len
  have hr := fun W => run_slice_l (P := Tryd.prog) W 24 A n c hu .i64 (p : Int) (by omega) (by omega)
  refine ⟨if c = p then A else A.map (·.add (p * 4)), c - p, fun W => ?_, ?_⟩
  · rw [hr W, elemR, sizeR]
    simp [Result.andThen, sliced]
  · split
    · rename_i hcp
      have hd : l.drop p = [] := List.drop_eq_nil_of_le (by have := hl.fit; omega)
      rw [hd]
      exact RRd.nil _ _
    · exact hl.rd.drop p
end Go.Proofs.YtmfdafffafbmpaaDoor
