/- Contracts: which amounts cover which; the least amount above two. -/
import Derived.Test.YtbddgdicnonadaaDoorAval
import Derived.Test.YtbddgdicnonadaaDoorMsup
namespace Go.Proofs.YtbddgdicnonadaaDoor
open Go.RowKit
set_option linter.unusedSimpArgs false
set_option linter.unusedVariables false

set_option maxHeartbeats 2000000 in
theorem amCovers_any (s : ByteArray) (k u h m n p q : Int) (w : World) : Calls Tryd.prog 18 #[ra s k u h, aa m n, aa p q] w fun e w' => e = .returned (.bool (cvr k u m n p q)) ∧ Below w.heap.size w w' := by
  obtain ⟨r, hr⟩ : ∃ r, Hid (cvr k u m n p q = r) := ⟨_, rfl⟩
  rw [hr.out]
  go_enter Tryd.func18, Tryd.ntmps18
  go_wp2_with (first
    | (go_at_call 32; refine (permitted_any _ _ _ _ _ _ _).mono ?_; rintro e W2 ⟨rfl, hb2⟩; have hb2 := nx hb1 hb2; obtain ⟨hc2, hf2⟩ := bcell hb2)
    | (go_at_call 32; refine (permitted_any _ _ _ _ _ _ _).mono ?_; rintro e W1 ⟨rfl, hb1⟩; obtain ⟨hc1, hf1⟩ := bcell hb1)
    | (go_at_call 15; refine (zero_any _ _ _).mono ?_; rintro e W3 ⟨rfl, hb3⟩; have hb3 := nx hb2 hb3; obtain ⟨hc3, hf3⟩ := bcell hb3)
    | (go_at_call 33; refine (covers_any _ _ _).mono ?_; rintro e W4 ⟨rfl, rfl⟩))
  all_goals (go_ret; have h := hr.out; unfold cvr at h; clear hr; refine ⟨ret_bool ?_, by first | exact dn3 hb3 | exact dn3 hb2 | exact dn3 hb1⟩; subst h; (try simp only [beq_iff_eq, beq_eq_false_iff_ne, ne_eq, per, cov, zer, Bool.not_eq_true', Bool.not_eq_false', decide_eq_true_eq, decide_eq_false_iff_not] at *); rw [Bool.eq_iff_iff]; simp; omega)
set_option maxHeartbeats 2000000 in
theorem refAmCovers_any (s : ByteArray) (k u h m n p q : Int) (w : World) : Calls Tryd.prog 19 #[ra s k u h, aa m n, aa p q] w fun e w' => e = .returned (.bool (cvr k u m n p q)) ∧ Below w.heap.size w w' := by
  obtain ⟨r, hr⟩ : ∃ r, Hid (cvr k u m n p q = r) := ⟨_, rfl⟩
  rw [hr.out]
  go_enter Tryd.func19, Tryd.ntmps19
  go_wp2_with (first
    | (go_at_call 22; refine (refPermitted_any _ _ _ _ _ _ _).mono ?_; rintro e W2 ⟨rfl, hb2⟩; have hb2 := nx hb1 hb2; obtain ⟨hc2, hf2⟩ := bcell hb2)
    | (go_at_call 22; refine (refPermitted_any _ _ _ _ _ _ _).mono ?_; rintro e W1 ⟨rfl, hb1⟩; obtain ⟨hc1, hf1⟩ := bcell hb1)
    | (go_at_call 34; refine (refZero_any _ _ _).mono ?_; rintro e W4 ⟨rfl, hb4⟩; have hb4 := nx hb3 hb4; obtain ⟨hc4, hf4⟩ := bcell hb4)
    | (go_at_call 34; refine (refZero_any _ _ _).mono ?_; rintro e W3 ⟨rfl, hb3⟩; have hb3 := nx hb2 hb3; obtain ⟨hc3, hf3⟩ := bcell hb3)
    | (go_at_call 35; refine (refCovers_any _ _ _).mono ?_; rintro e W5 ⟨rfl, rfl⟩))
  all_goals (go_ret; have h := hr.out; unfold cvr at h; clear hr; refine ⟨ret_bool ?_, by first | exact dn3 hb4 | exact dn3 hb3 | exact dn3 hb2 | exact dn3 hb1⟩; subst h; (try simp only [beq_iff_eq, beq_eq_false_iff_ne, ne_eq, per, cov, zer, Bool.not_eq_true', Bool.not_eq_false', decide_eq_true_eq, decide_eq_false_iff_not] at *); rw [Bool.eq_iff_iff]; simp; omega)
theorem amCovers_is (s : ByteArray) (k u h m n p q : Int) (w : World) {r : Bool} (hr : Hid (cvr k u m n p q = r)) : Calls Tryd.prog 18 #[ra s k u h, aa m n, aa p q] w fun e w' => e = .returned (.bool r) ∧ Below w.heap.size w w' := by
  rw [← hr.out]; exact amCovers_any s k u h m n p q w
theorem refAmCovers_is (s : ByteArray) (k u h m n p q : Int) (w : World) {r : Bool} (hr : Hid (cvr k u m n p q = r)) : Calls Tryd.prog 19 #[ra s k u h, aa m n, aa p q] w fun e w' => e = .returned (.bool r) ∧ Below w.heap.size w w' := by
  rw [← hr.out]; exact refAmCovers_any s k u h m n p q w
end Go.Proofs.YtbddgdicnonadaaDoor
