/- Contracts: which resources and which catalogs are valid. -/
import Derived.Test.YtmfdafffafbmpaaDoorCnam
import Derived.Shelf.SlSortCmp.QuietGrown
namespace Go.Proofs.YtmfdafffafbmpaaDoor
open Go.RowKit
open Go.Sort (grow)
set_option linter.unusedVariables false
set_option linter.unusedSimpArgs false

theorem below_grow (w : World) (os : Array Obj) : Below w.heap.size w (grow w os) := ⟨rfl, rfl, rfl, by simp, fun _ hk => Go.Sort.heap_grow_old w os hk⟩
/-- w' is w with draws and new blocks. -/
def Gro (w w' : World) : Prop := ∃ q os, w' = grow (w.drewN q) os
theorem Gro.refl (w : World) : Gro w w := ⟨0, #[], by rw [World.drewN_zero, Go.Sort.grow_empty]⟩
theorem Gro.trans {a b c : World} (h : Gro a b) (k : Gro b c) : Gro a c := by
  obtain ⟨q, os, rfl⟩ := h
  obtain ⟨q', os', rfl⟩ := k
  exact ⟨q + q', os ++ os', by rw [show (grow (a.drewN q) os).drewN q' = grow ((a.drewN q).drewN q') os from rfl, Go.Sort.grow_grow, World.drewN_drewN]⟩
theorem Gro.alloc {a b : World} (h : Gro a b) (o : Obj) : Gro a (b.alloc o) := h.trans ⟨0, #[o], by rw [World.drewN_zero, Go.Sort.alloc_eq_grow]⟩
theorem Gro.new (a : World) (o : Obj) : Gro a (a.alloc o) := (Gro.refl a).alloc o
theorem Gro.below {a b : World} (h : Gro a b) : Below a.heap.size a b := by
  obtain ⟨q, os, rfl⟩ := h
  exact (below_drewN a q).trans ((below_grow _ os).mono (Nat.le_refl _))

theorem shaped_gro (s : ByteArray) (k u h : Int) (w : World) {r : Bool} (hr : Hid (shp k u = r)) : Calls Tryd.prog 41 #[ra s k u h] w fun e w' => e = .returned (.bool r) ∧ Gro w w' := by
  go_enter Tryd.func41, Tryd.ntmps41
  go_wp2_with (first
    | (go_at_call 55; refine (pu_any _ _).mono ?_; rintro e W1 ⟨rfl, rfl⟩))
  all_goals (go_ret; have h := hr.out; unfold shp at h; clear hr; refine ⟨ret_bool ?_, Gro.new _ _⟩; subst h; (try simp only [beq_iff_eq, beq_eq_false_iff_ne, ne_eq, pu] at *); rw [Bool.eq_iff_iff]; simp; omega)
theorem refShaped_gro (s : ByteArray) (k u h : Int) (w : World) {r : Bool} (hr : Hid (shp k u = r)) : Calls Tryd.prog 42 #[ra s k u h] w fun e w' => e = .returned (.bool r) ∧ Gro w w' := by
  go_enter Tryd.func42, Tryd.ntmps42
  go_wp2
  all_goals (go_ret; have h := hr.out; unfold shp at h; clear hr; refine ⟨ret_bool ?_, Gro.new _ _⟩; subst h; (try simp only [beq_iff_eq, beq_eq_false_iff_ne, ne_eq] at *); rw [Bool.eq_iff_iff]; simp; omega)

theorem nam_ex (s : ByteArray) : ∃ r, Hid (Nam s ↔ r = true) := by
  by_cases h : Nam s
  · exact ⟨true, fun _ => rfl, fun _ => h⟩
  · exact ⟨false, fun k => absurd k h, fun k => by cases k⟩
theorem rsr_ex (s : ByteArray) (k u h : Int) : ∃ r, Hid (Rsr s k u h ↔ r = true) := by
  by_cases h : Rsr s k u h
  · exact ⟨true, fun _ => rfl, fun _ => h⟩
  · exact ⟨false, fun k => absurd k h, fun k => by cases k⟩
set_option maxHeartbeats 1000000 in
theorem rsr_is (s : ByteArray) (k u h : Int) (w : World) {r : Bool} (hr : Hid (Rsr s k u h ↔ r = true)) : Calls Tryd.prog 18 #[ra s k u h] w fun e w' => e = .returned (.bool r) ∧ Gro w w' := by
  obtain ⟨a, ha⟩ := nam_ex s
  obtain ⟨b, hb⟩ : ∃ v, Hid (shp k u = v) := ⟨_, rfl⟩
  have hfin : Hid (r = (a && b && decide (0 ≤ h ∧ h < 4))) := by
    show _ = _
    have h1 := hr.out
    unfold Rsr at h1
    rw [ha.out, hb.out] at h1
    rw [Bool.eq_iff_iff, ← h1]
    simp [and_assoc]
  clear hr
  go_enter Tryd.func18, Tryd.ntmps18
  go_wp2_with (first
    | (go_at_call 16; refine (nam_is _ _ ha).mono ?_; rintro e W1 ⟨rfl, rfl⟩)
    | (go_at_call 41; refine (shaped_gro _ _ _ _ _ hb).mono ?_; rintro e W2 ⟨rfl, hg2⟩; obtain ⟨hc2, hf2⟩ := bcell hg2.below))
  all_goals (go_ret; have h := hfin.out; clear hfin; refine ⟨ret_bool ?_, by first | exact (Gro.new _ _).trans hg2 | exact Gro.new _ _⟩; subst h; clear ha hb; (try clear hc2 hf2 hg2); rw [Bool.eq_iff_iff]; simp_all <;> omega)
set_option maxHeartbeats 1000000 in
theorem refRsr_is (s : ByteArray) (k u h : Int) (w : World) {r : Bool} (hr : Hid (Rsr s k u h ↔ r = true)) : Calls Tryd.prog 19 #[ra s k u h] w fun e w' => e = .returned (.bool r) ∧ Gro w w' := by
  obtain ⟨a, ha⟩ := nam_ex s
  obtain ⟨b, hb⟩ : ∃ v, Hid (shp k u = v) := ⟨_, rfl⟩
  have hfin : Hid (r = (a && b && decide (0 ≤ h ∧ h < 4))) := by
    show _ = _
    have h1 := hr.out
    unfold Rsr at h1
    rw [ha.out, hb.out] at h1
    rw [Bool.eq_iff_iff, ← h1]
    simp [and_assoc]
  clear hr
  go_enter Tryd.func19, Tryd.ntmps19
  go_wp2_with (first
    | (go_at_call 17; refine (refNam_is _ _ ha).mono ?_; rintro e W1 ⟨rfl, rfl⟩)
    | (go_at_call 42; refine (refShaped_gro _ _ _ _ _ hb).mono ?_; rintro e W2 ⟨rfl, hg2⟩; obtain ⟨hc2, hf2⟩ := bcell hg2.below))
  all_goals (go_ret; have h := hfin.out; clear hfin; refine ⟨ret_bool ?_, by first | exact (Gro.new _ _).trans hg2 | exact Gro.new _ _⟩; subst h; clear ha hb; (try clear hc2 hf2 hg2); rw [Bool.eq_iff_iff]; simp_all <;> omega)
end Go.Proofs.YtmfdafffafbmpaaDoor
