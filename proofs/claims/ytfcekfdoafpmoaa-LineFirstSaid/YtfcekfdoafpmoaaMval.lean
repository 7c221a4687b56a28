/- Contracts: which numbers are modes; covering. -/
import Derived.Test.YtfcekfdoafpmoaaProg
import Derived.Test.YtfcekfdoafpmoaaMd
import Derived.WalkKit
import Derived.Lib.Hide
import Derived.WalkLawsBesides
import Derived.KernelRfl
namespace Go.Proofs.Ytfcekfdoafpmoaa
open Go.RowKit
set_option linter.unusedSimpArgs false

theorem valid_any (a : Int) (w : World) : Calls Try.prog 47 #[.int .i64 a] w fun e w' => e = .returned (.bool (vmd a)) ∧ w = w' := by
  obtain ⟨r, hr⟩ : ∃ r, Hid (vmd a = r) := ⟨_, rfl⟩
  rw [hr.out]
  go_enter Try.func47, Try.ntmps47
  go_wp2
  all_goals (go_ret; have h := hr.out; unfold vmd at h; clear hr; refine ⟨ret_bool ?_, rfl⟩; subst h; (try simp only [beq_iff_eq, beq_eq_false_iff_ne, ne_eq] at *); rw [Bool.eq_iff_iff]; simp; omega)
theorem refValid_any (a : Int) (w : World) : Calls Try.prog 44 #[.int .i64 a] w fun e w' => e = .returned (.bool (vmd a)) ∧ w = w' := by
  obtain ⟨r, hr⟩ : ∃ r, Hid (vmd a = r) := ⟨_, rfl⟩
  rw [hr.out]
  go_enter Try.func44, Try.ntmps44
  go_wp2
  all_goals (go_ret; have h := hr.out; unfold vmd at h; clear hr; refine ⟨ret_bool ?_, rfl⟩; subst h; (try simp only [beq_iff_eq, beq_eq_false_iff_ne, ne_eq] at *); rw [Bool.eq_iff_iff]; simp; omega)
end Go.Proofs.Ytfcekfdoafpmoaa
