/- Contracts: which numbers are modes; covering. -/
import Derived.Test.YtbddgdicnonadaaDoorProg
import Derived.Test.YtbddgdicnonadaaDoorMd
import Derived.WalkKit
import Derived.Lib.Hide
import Derived.WalkLawsBesides
import Derived.KernelRfl
namespace Go.Proofs.YtbddgdicnonadaaDoor
open Go.RowKit
set_option linter.unusedSimpArgs false

theorem valid_any (a : Int) (w : World) : Calls Tryd.prog 30 #[.int .i64 a] w fun e w' => e = .returned (.bool (vmd a)) ∧ w = w' := by
  obtain ⟨r, hr⟩ : ∃ r, Hid (vmd a = r) := ⟨_, rfl⟩
  rw [hr.out]
  go_enter Tryd.func30, Tryd.ntmps30
  go_wp2
  all_goals (go_ret; have h := hr.out; unfold vmd at h; clear hr; refine ⟨ret_bool ?_, rfl⟩; subst h; (try simp only [beq_iff_eq, beq_eq_false_iff_ne, ne_eq] at *); rw [Bool.eq_iff_iff]; simp; omega)
theorem refValid_any (a : Int) (w : World) : Calls Tryd.prog 31 #[.int .i64 a] w fun e w' => e = .returned (.bool (vmd a)) ∧ w = w' := by
  obtain ⟨r, hr⟩ : ∃ r, Hid (vmd a = r) := ⟨_, rfl⟩
  rw [hr.out]
  go_enter Tryd.func31, Tryd.ntmps31
  go_wp2
  all_goals (go_ret; have h := hr.out; unfold vmd at h; clear hr; refine ⟨ret_bool ?_, rfl⟩; subst h; (try simp only [beq_iff_eq, beq_eq_false_iff_ne, ne_eq] at *); rw [Bool.eq_iff_iff]; simp; omega)
theorem covers_any (a b : Int) (w : World) : Calls Tryd.prog 33 #[.int .i64 a, .int .i64 b] w fun e w' => e = .returned (.bool (cov a b)) ∧ w = w' := by
  obtain ⟨r, hr⟩ : ∃ r, Hid (cov a b = r) := ⟨_, rfl⟩
  rw [hr.out]
  go_enter Tryd.func33, Tryd.ntmps33
  go_wp2
  all_goals (go_ret; have h := hr.out; unfold cov at h; clear hr; refine ⟨ret_bool ?_, rfl⟩; subst h; (try simp only [beq_iff_eq, beq_eq_false_iff_ne, ne_eq] at *); rw [Bool.eq_iff_iff]; simp; omega)
theorem refCovers_any (a b : Int) (w : World) : Calls Tryd.prog 35 #[.int .i64 a, .int .i64 b] w fun e w' => e = .returned (.bool (cov a b)) ∧ w = w' := by
  obtain ⟨r, hr⟩ : ∃ r, Hid (cov a b = r) := ⟨_, rfl⟩
  rw [hr.out]
  go_enter Tryd.func35, Tryd.ntmps35
  go_wp2_with (first | (go_at_call 31; refine (refValid_any _ _).mono ?_; rintro e W1 ⟨rfl, rfl⟩))
  all_goals (go_ret; have h := hr.out; unfold cov at h; clear hr; refine ⟨ret_bool ?_, rfl⟩; subst h; (try simp only [beq_iff_eq, beq_eq_false_iff_ne, ne_eq, vmd, Bool.not_eq_true', Bool.not_eq_false', decide_eq_true_eq, decide_eq_false_iff_not] at *); rw [Bool.eq_iff_iff]; simp; omega)
end Go.Proofs.YtbddgdicnonadaaDoor
