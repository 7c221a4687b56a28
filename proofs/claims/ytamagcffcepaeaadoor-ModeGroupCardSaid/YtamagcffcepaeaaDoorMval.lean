/- Contracts: which numbers are modes; covering. -/
import Derived.Test.YtamagcffcepaeaaDoorInts
import Derived.Test.YtamagcffcepaeaaDoorMd
import Derived.WalkLawsBesides
import Derived.KernelRfl
namespace Go.Proofs.YtamagcffcepaeaaDoor
open Go.RowKit
set_option linter.unusedSimpArgs false

theorem valid_any (a : Int) (w : World) : Calls Tryd.prog 11 #[.int .i64 a] w fun e w' => e = .returned (.bool (vmd a)) ∧ w = w' := by
  obtain ⟨r, hr⟩ : ∃ r, Hid (vmd a = r) := ⟨_, rfl⟩
  rw [hr.out]
  go_enter Tryd.func11, Tryd.ntmps11
  go_wp2
  all_goals (go_ret; have h := hr.out; unfold vmd at h; clear hr; refine ⟨ret_bool ?_, rfl⟩; subst h; (try simp only [beq_iff_eq, beq_eq_false_iff_ne, ne_eq] at *); rw [Bool.eq_iff_iff]; simp; omega)
theorem refValid_any (a : Int) (w : World) : Calls Tryd.prog 12 #[.int .i64 a] w fun e w' => e = .returned (.bool (vmd a)) ∧ w = w' := by
  obtain ⟨r, hr⟩ : ∃ r, Hid (vmd a = r) := ⟨_, rfl⟩
  rw [hr.out]
  go_enter Tryd.func12, Tryd.ntmps12
  go_wp2
  all_goals (go_ret; have h := hr.out; unfold vmd at h; clear hr; refine ⟨ret_bool ?_, rfl⟩; subst h; (try simp only [beq_iff_eq, beq_eq_false_iff_ne, ne_eq] at *); rw [Bool.eq_iff_iff]; simp; omega)
theorem covers_any (a b : Int) (w : World) : Calls Tryd.prog 15 #[.int .i64 a, .int .i64 b] w fun e w' => e = .returned (.bool (cov a b)) ∧ w = w' := by
  obtain ⟨r, hr⟩ : ∃ r, Hid (cov a b = r) := ⟨_, rfl⟩
  rw [hr.out]
  go_enter Tryd.func15, Tryd.ntmps15
  go_wp2
  all_goals (go_ret; have h := hr.out; unfold cov at h; clear hr; refine ⟨ret_bool ?_, rfl⟩; subst h; (try simp only [beq_iff_eq, beq_eq_false_iff_ne, ne_eq] at *); rw [Bool.eq_iff_iff]; simp; omega)
theorem refCovers_any (a b : Int) (w : World) : Calls Tryd.prog 16 #[.int .i64 a, .int .i64 b] w fun e w' => e = .returned (.bool (cov a b)) ∧ w = w' := by
  obtain ⟨r, hr⟩ : ∃ r, Hid (cov a b = r) := ⟨_, rfl⟩
  rw [hr.out]
  go_enter Tryd.func16, Tryd.ntmps16
  go_wp2_with (first | (go_at_call 12; refine (refValid_any _ _).mono ?_; rintro e W1 ⟨rfl, rfl⟩))
  all_goals (go_ret; have h := hr.out; unfold cov at h; clear hr; refine ⟨ret_bool ?_, rfl⟩; subst h; (try simp only [beq_iff_eq, beq_eq_false_iff_ne, ne_eq, vmd, Bool.not_eq_true', Bool.not_eq_false', decide_eq_true_eq, decide_eq_false_iff_not] at *); rw [Bool.eq_iff_iff]; simp; omega)
end Go.Proofs.YtamagcffcepaeaaDoor
