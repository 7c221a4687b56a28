/- Opening the arguments of a statement: slices of integers. -/
import Derived.Test.YtfcekfdoafpmoaaRows
import Derived.Test.YtfcekfdoafpmoaaInts
import Derived.WalkKit
import Derived.ProofKit
import Derived.OpenShut
import Derived.ShutString
import Derived.ChangeOld
import Derived.Below
import Derived.Deep.CondSized
namespace Go.Proofs.Ytfcekfdoafpmoaa
open Go.ChangeShapes Go.WideShapes Go.ChangeAt Go.RowKit
open Go.ChangeMaps (open_string shut_string)

theorem own : ownKnob Try.prog.godebug = none := by kernel_rfl
theorem laidOut : laidOutB Try.prog = true := by kernel_rfl

/-- A slice of integers that came in. -/
structure InI (w : World) (A : Option Addr) (n c : Nat) (xs : List Int) : Prop where
  len : xs.length = n
  rd : IRd w A xs
  fit : n ≤ c
  small : n ≤ 140737488351232
  wf : ∀ x ∈ xs, (Lit.int .i64 x).wf = true

theorem open_intsI {H : Type} {enc : TypeId × Value → H} {W : World} {held : Bool}
    {a : Option Addr} {len cap : Nat} {d : DataW H} {p : List MemPlace} (h : DataW.Trod enc Try.prog W 0 (fun _ => true) held 44 (.slice a len cap) d p) (hs : ∀ el sp, d = .slice el sp → (el.length + sp.length) * 8 ≤ reachBytes) :
    ∃ xs, InI W a len cap xs := by
  obtain ⟨fuel, hf⟩ := h
  rcases open_ints Try.underlying44 Try.underlying3 (by kernel_rfl) hf with ⟨hcs, _⟩ | ⟨x, l, c, zs, hcs, _, hl, _, hz, hx, hcell, hwz⟩
  · simp [Value.cells] at hcs
    obtain ⟨rfl, rfl, rfl⟩ := hcs
    exact ⟨[], rfl, IRd.nil _ _, Nat.le_refl _, by omega, fun _ h => by cases h⟩
  · simp [Value.cells] at hcs
    obtain ⟨rfl, rfl, rfl⟩ := hcs
    simp only [Prod.mk.injEq] at hx
    have hz' : zs.length = cap := by simpa using hz
    have hr := hs _ _ hx.1
    simp only [lits, List.length_map, List.length_take, List.length_drop, reachBytes] at hr
    refine ⟨zs.take len, by rw [List.length_take]; omega, fun hne => ?_, hl, by omega, fun n hn => hwz n (List.mem_of_mem_take hn)⟩
    have hpos : 0 < len := by
      rcases Nat.eq_zero_or_pos len with h0 | h0
      · rw [h0] at hne; exact absurd rfl hne
      · exact h0
    obtain ⟨b, off, spot⟩ := x
    have h0 := hcell 0 (by omega)
    have hspot : spot = none := by simpa [Addr.add] using World.cell?_spot h0
    subst hspot
    refine ⟨b, off, rfl, ?_, fun i hi => ?_⟩
    · have := World.block_lt_of_cell? W _ h0
      rwa [add_at] at this
    · rw [List.length_take] at hi
      have hi' := hcell i (by omega)
      rw [add_at] at hi'
      rw [hi']
      simp [List.getD_eq_getElem?_getD, show i < len by omega]
end Go.Proofs.Ytfcekfdoafpmoaa
