/- The contract of the statements' own examples. -/
import Derived.Test.YtbddgdicnonadaaDoorAjoin
import Derived.Test.YtbddgdicnonadaaDoorAcomp
import Derived.Test.YtbddgdicnonadaaDoorAtxt
namespace Go.Proofs.YtbddgdicnonadaaDoor
open Go.RowKit
set_option linter.unusedVariables false
set_option linter.unusedSimpArgs false

theorem ard_two {W : World} {g : Nat} {x y p q : Int} (h0 : W.cell? ⟨g, 0, none⟩ = some (.int .i64 x)) (h1 : W.cell? ⟨g, 1, none⟩ = some (.int .i64 y)) (h2 : W.cell? ⟨g, 2, none⟩ = some (.int .i64 p)) (h3 : W.cell? ⟨g, 3, none⟩ = some (.int .i64 q)) :
    ARd W (some ⟨g, 0, none⟩) [(x, y), (p, q)] := fun _ =>
  ⟨g, 0, rfl, World.block_lt_of_cell? W _ h0, fun i hi => by
    have hc : i = 0 ∨ i = 1 := by simp at hi; omega
    rcases hc with rfl | rfl
    · exact ⟨h0, h1⟩
    · exact ⟨h2, h3⟩⟩
set_option maxHeartbeats 1000000 in
theorem awake_any (w : World) (hV : Vars w) : Calls Tryd.prog 12 #[] w fun e w' => e = .returned (.bool true) ∧ Below w.heap.size w w' := by
  have hx : Hid (jm 1 1 2 0 3 0 = 4) := by show _ = _; decide
  have hy : Hid (ju 1 1 2 0 3 0 = 0) := by show _ = _; decide
  have hc : Hid (Cmp 2 3 [(0, 1), (0, 2)]) := by
    refine ⟨by decide, fun a ha => ?_, fun h => by omega, fun _ => by decide⟩
    simp at ha
    rcases ha with rfl | rfl <;> decide
  have hf : Hid (fit 2 3 0 4 = false) := by show _ = _; decide
  have hm : Hid (fmA 0 3 = ⟨#[42, 51]⟩) := by show _ = _; decide
  have e0 := eqAm 4 0 4 0
  have HV := Lib.hid hV
  clear hV
  go_enter Tryd.func12, Tryd.ntmps12
  go_wp2_with (first
    | (go_at_call 20; refine (join_is _ _ _ _ _ _ _ _ _ hx hy).mono ?_; rintro e W1 ⟨rfl, hb1⟩; obtain ⟨hc1, hf1⟩ := bcell hb1)
    | (go_at_call 23; refine (compat_is _ _ _ _ _ 2 2 [(0, 1), (0, 2)] _ (HV.out.below (nxA (dn2 hb1) _)) (ard_two (by simp) (by simp) (by simp) (by simp)) rfl (by show _ ≤ _; omega) (r := true) ⟨fun _ => rfl, fun _ => hc.out⟩).mono ?_; rintro e W2 ⟨rfl, hb2⟩; have hb2 := nx (nxA hb1 _) hb2; obtain ⟨hc2, hf2⟩ := bcell hb2)
    | (go_at_call 16; refine (fits_is _ _ _ _ _ _ _ hf).mono ?_; rintro e W3 ⟨rfl, hb3⟩; have hb3 := nx hb2 hb3; obtain ⟨hc3, hf3⟩ := bcell hb3)
    | (go_at_call 27; refine (formatA_is _ _ _ (HV.out.below (dn2 hb3)) hm).mono ?_; rintro e W4 ⟨rfl, hb4⟩; have hb4 := nx hb3 hb4))
  go_ret
  exact ⟨rfl, dn2 hb4⟩
end Go.Proofs.YtbddgdicnonadaaDoor
