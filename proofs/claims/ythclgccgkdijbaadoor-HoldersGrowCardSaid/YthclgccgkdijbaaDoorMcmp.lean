/- As XMcmp, where the translation holds the table of compatibility alone (ALT="Mcmp:Mcmq"). -/
import Derived.Test.YthclgccgkdijbaaDoorMval
import Derived.ChangeBears2
import Derived.Deep.RegionHeld3
import Derived.BigQuiet
import Derived.Deep.QuietTactic
namespace Go.Proofs.YthclgccgkdijbaaDoor
open Go.RowKit

theorem gTab : Tryd.prog.globalNamed "clusterlocks/mode.compatible" = some 0 := by kernel_rfl
def tabV : List Value := ([true, true, true, true, false, true, true, false, false, false, true, false, true, false, false, true, false, false, false, false, false, false, false, false, false] : List Bool).map .bool
/-- The variable of the package lies as its text lays it. -/
structure Vars (w : World) : Prop where
  tab : ∀ i, i < 25 → w.cell? ⟨0, i, none⟩ = tabV[i]?
theorem cell_size {w : World} {p : Addr} {v : Value} (h : w.cell? p = some v) : p.block < w.heap.size := World.block_lt_of_cell? w _ h
theorem Vars.below {w w' : World} (h : Vars w) (hb : Below w.heap.size w w') : Vars w' := by
  refine ⟨fun i hi => ?_⟩
  rw [← h.tab i hi]
  exact hb.cell (p := ⟨_, i, none⟩) (cell_size (h.tab 0 (by omega)) : _ < _)

set_option linter.unusedSimpArgs false in
theorem refCpt_any (a b : Int) (w : World) : Calls Tryd.prog 66 #[.int .i64 a, .int .i64 b] w fun e w' => e = .returned (.bool (cpt a b)) ∧ w = w' := by
  obtain ⟨r, hr⟩ : ∃ r, Hid (cpt a b = r) := ⟨_, rfl⟩
  rw [hr.out]
  go_enter Tryd.func66, Tryd.ntmps66
  go_wp2_with (first | (go_at_call 63; refine (refValid_any _ _).mono ?_; rintro e W1 ⟨rfl, rfl⟩))
  all_goals (go_ret; have h := hr.out; unfold cpt at h; clear hr; refine ⟨ret_bool ?_, rfl⟩; subst h; (try simp only [beq_iff_eq, beq_eq_false_iff_ne, ne_eq, vmd, Bool.not_eq_true', Bool.not_eq_false', decide_eq_true_eq, decide_eq_false_iff_not] at *); rw [Bool.eq_iff_iff]; simp; omega)
set_option linter.unusedSimpArgs false
theorem cpt_no (a b : Int) (w : World) (h : ¬ ((1 ≤ a ∧ a ≤ 5) ∧ (1 ≤ b ∧ b ≤ 5))) : Calls Tryd.prog 76 #[.int .i64 a, .int .i64 b] w fun e w' => e = .returned (.bool false) ∧ w = w' := by
  by_cases ha : 1 ≤ a ∧ a ≤ 5
  · have hb : vmd b = false := by unfold vmd; simp; omega
    have ha' : vmd a = true := by unfold vmd; simp; omega
    clear h ha
    go_enter Tryd.func76, Tryd.ntmps76
    go_wp2_with (first | (go_at_call 57; refine (valid_any _ _).mono ?_; rintro e W1 ⟨rfl, rfl⟩))
    go_ret
    exact ⟨rfl, rfl⟩
  · have ha' : vmd a = false := by unfold vmd; simp; omega
    clear h ha
    go_enter Tryd.func76, Tryd.ntmps76
    go_wp2_with (first | (go_at_call 57; refine (valid_any _ _).mono ?_; rintro e W1 ⟨rfl, rfl⟩))
    go_ret
    exact ⟨rfl, rfl⟩
theorem cpt_11 (w : World) (hV : Vars w) : Calls Tryd.prog 76 #[.int .i64 1, .int .i64 1] w fun e w' => e = .returned (.bool true) ∧ w = w' := by
  have e1 : w.cell? ⟨0, 0, none⟩ = some (.bool true) := hV.tab 0 (by omega)
  clear hV
  go_enter Tryd.func76, Tryd.ntmps76
  go_wp2_with (first | (go_at_call 57; refine (valid_any _ _).mono ?_; rintro e W1 ⟨rfl, rfl⟩))
  go_ret
  exact ⟨rfl, rfl⟩
theorem cpt_12 (w : World) (hV : Vars w) : Calls Tryd.prog 76 #[.int .i64 1, .int .i64 2] w fun e w' => e = .returned (.bool true) ∧ w = w' := by
  have e1 : w.cell? ⟨0, 1, none⟩ = some (.bool true) := hV.tab 1 (by omega)
  clear hV
  go_enter Tryd.func76, Tryd.ntmps76
  go_wp2_with (first | (go_at_call 57; refine (valid_any _ _).mono ?_; rintro e W1 ⟨rfl, rfl⟩))
  go_ret
  exact ⟨rfl, rfl⟩
theorem cpt_13 (w : World) (hV : Vars w) : Calls Tryd.prog 76 #[.int .i64 1, .int .i64 3] w fun e w' => e = .returned (.bool true) ∧ w = w' := by
  have e1 : w.cell? ⟨0, 2, none⟩ = some (.bool true) := hV.tab 2 (by omega)
  clear hV
  go_enter Tryd.func76, Tryd.ntmps76
  go_wp2_with (first | (go_at_call 57; refine (valid_any _ _).mono ?_; rintro e W1 ⟨rfl, rfl⟩))
  go_ret
  exact ⟨rfl, rfl⟩
theorem cpt_14 (w : World) (hV : Vars w) : Calls Tryd.prog 76 #[.int .i64 1, .int .i64 4] w fun e w' => e = .returned (.bool true) ∧ w = w' := by
  have e1 : w.cell? ⟨0, 3, none⟩ = some (.bool true) := hV.tab 3 (by omega)
  clear hV
  go_enter Tryd.func76, Tryd.ntmps76
  go_wp2_with (first | (go_at_call 57; refine (valid_any _ _).mono ?_; rintro e W1 ⟨rfl, rfl⟩))
  go_ret
  exact ⟨rfl, rfl⟩
theorem cpt_15 (w : World) (hV : Vars w) : Calls Tryd.prog 76 #[.int .i64 1, .int .i64 5] w fun e w' => e = .returned (.bool false) ∧ w = w' := by
  have e1 : w.cell? ⟨0, 4, none⟩ = some (.bool false) := hV.tab 4 (by omega)
  clear hV
  go_enter Tryd.func76, Tryd.ntmps76
  go_wp2_with (first | (go_at_call 57; refine (valid_any _ _).mono ?_; rintro e W1 ⟨rfl, rfl⟩))
  go_ret
  exact ⟨rfl, rfl⟩
theorem cpt_21 (w : World) (hV : Vars w) : Calls Tryd.prog 76 #[.int .i64 2, .int .i64 1] w fun e w' => e = .returned (.bool true) ∧ w = w' := by
  have e1 : w.cell? ⟨0, 5, none⟩ = some (.bool true) := hV.tab 5 (by omega)
  clear hV
  go_enter Tryd.func76, Tryd.ntmps76
  go_wp2_with (first | (go_at_call 57; refine (valid_any _ _).mono ?_; rintro e W1 ⟨rfl, rfl⟩))
  go_ret
  exact ⟨rfl, rfl⟩
theorem cpt_22 (w : World) (hV : Vars w) : Calls Tryd.prog 76 #[.int .i64 2, .int .i64 2] w fun e w' => e = .returned (.bool true) ∧ w = w' := by
  have e1 : w.cell? ⟨0, 6, none⟩ = some (.bool true) := hV.tab 6 (by omega)
  clear hV
  go_enter Tryd.func76, Tryd.ntmps76
  go_wp2_with (first | (go_at_call 57; refine (valid_any _ _).mono ?_; rintro e W1 ⟨rfl, rfl⟩))
  go_ret
  exact ⟨rfl, rfl⟩
theorem cpt_23 (w : World) (hV : Vars w) : Calls Tryd.prog 76 #[.int .i64 2, .int .i64 3] w fun e w' => e = .returned (.bool false) ∧ w = w' := by
  have e1 : w.cell? ⟨0, 7, none⟩ = some (.bool false) := hV.tab 7 (by omega)
  clear hV
  go_enter Tryd.func76, Tryd.ntmps76
  go_wp2_with (first | (go_at_call 57; refine (valid_any _ _).mono ?_; rintro e W1 ⟨rfl, rfl⟩))
  go_ret
  exact ⟨rfl, rfl⟩
theorem cpt_24 (w : World) (hV : Vars w) : Calls Tryd.prog 76 #[.int .i64 2, .int .i64 4] w fun e w' => e = .returned (.bool false) ∧ w = w' := by
  have e1 : w.cell? ⟨0, 8, none⟩ = some (.bool false) := hV.tab 8 (by omega)
  clear hV
  go_enter Tryd.func76, Tryd.ntmps76
  go_wp2_with (first | (go_at_call 57; refine (valid_any _ _).mono ?_; rintro e W1 ⟨rfl, rfl⟩))
  go_ret
  exact ⟨rfl, rfl⟩
theorem cpt_25 (w : World) (hV : Vars w) : Calls Tryd.prog 76 #[.int .i64 2, .int .i64 5] w fun e w' => e = .returned (.bool false) ∧ w = w' := by
  have e1 : w.cell? ⟨0, 9, none⟩ = some (.bool false) := hV.tab 9 (by omega)
  clear hV
  go_enter Tryd.func76, Tryd.ntmps76
  go_wp2_with (first | (go_at_call 57; refine (valid_any _ _).mono ?_; rintro e W1 ⟨rfl, rfl⟩))
  go_ret
  exact ⟨rfl, rfl⟩
theorem cpt_31 (w : World) (hV : Vars w) : Calls Tryd.prog 76 #[.int .i64 3, .int .i64 1] w fun e w' => e = .returned (.bool true) ∧ w = w' := by
  have e1 : w.cell? ⟨0, 10, none⟩ = some (.bool true) := hV.tab 10 (by omega)
  clear hV
  go_enter Tryd.func76, Tryd.ntmps76
  go_wp2_with (first | (go_at_call 57; refine (valid_any _ _).mono ?_; rintro e W1 ⟨rfl, rfl⟩))
  go_ret
  exact ⟨rfl, rfl⟩
theorem cpt_32 (w : World) (hV : Vars w) : Calls Tryd.prog 76 #[.int .i64 3, .int .i64 2] w fun e w' => e = .returned (.bool false) ∧ w = w' := by
  have e1 : w.cell? ⟨0, 11, none⟩ = some (.bool false) := hV.tab 11 (by omega)
  clear hV
  go_enter Tryd.func76, Tryd.ntmps76
  go_wp2_with (first | (go_at_call 57; refine (valid_any _ _).mono ?_; rintro e W1 ⟨rfl, rfl⟩))
  go_ret
  exact ⟨rfl, rfl⟩
theorem cpt_33 (w : World) (hV : Vars w) : Calls Tryd.prog 76 #[.int .i64 3, .int .i64 3] w fun e w' => e = .returned (.bool true) ∧ w = w' := by
  have e1 : w.cell? ⟨0, 12, none⟩ = some (.bool true) := hV.tab 12 (by omega)
  clear hV
  go_enter Tryd.func76, Tryd.ntmps76
  go_wp2_with (first | (go_at_call 57; refine (valid_any _ _).mono ?_; rintro e W1 ⟨rfl, rfl⟩))
  go_ret
  exact ⟨rfl, rfl⟩
theorem cpt_34 (w : World) (hV : Vars w) : Calls Tryd.prog 76 #[.int .i64 3, .int .i64 4] w fun e w' => e = .returned (.bool false) ∧ w = w' := by
  have e1 : w.cell? ⟨0, 13, none⟩ = some (.bool false) := hV.tab 13 (by omega)
  clear hV
  go_enter Tryd.func76, Tryd.ntmps76
  go_wp2_with (first | (go_at_call 57; refine (valid_any _ _).mono ?_; rintro e W1 ⟨rfl, rfl⟩))
  go_ret
  exact ⟨rfl, rfl⟩
theorem cpt_35 (w : World) (hV : Vars w) : Calls Tryd.prog 76 #[.int .i64 3, .int .i64 5] w fun e w' => e = .returned (.bool false) ∧ w = w' := by
  have e1 : w.cell? ⟨0, 14, none⟩ = some (.bool false) := hV.tab 14 (by omega)
  clear hV
  go_enter Tryd.func76, Tryd.ntmps76
  go_wp2_with (first | (go_at_call 57; refine (valid_any _ _).mono ?_; rintro e W1 ⟨rfl, rfl⟩))
  go_ret
  exact ⟨rfl, rfl⟩
theorem cpt_41 (w : World) (hV : Vars w) : Calls Tryd.prog 76 #[.int .i64 4, .int .i64 1] w fun e w' => e = .returned (.bool true) ∧ w = w' := by
  have e1 : w.cell? ⟨0, 15, none⟩ = some (.bool true) := hV.tab 15 (by omega)
  clear hV
  go_enter Tryd.func76, Tryd.ntmps76
  go_wp2_with (first | (go_at_call 57; refine (valid_any _ _).mono ?_; rintro e W1 ⟨rfl, rfl⟩))
  go_ret
  exact ⟨rfl, rfl⟩
theorem cpt_42 (w : World) (hV : Vars w) : Calls Tryd.prog 76 #[.int .i64 4, .int .i64 2] w fun e w' => e = .returned (.bool false) ∧ w = w' := by
  have e1 : w.cell? ⟨0, 16, none⟩ = some (.bool false) := hV.tab 16 (by omega)
  clear hV
  go_enter Tryd.func76, Tryd.ntmps76
  go_wp2_with (first | (go_at_call 57; refine (valid_any _ _).mono ?_; rintro e W1 ⟨rfl, rfl⟩))
  go_ret
  exact ⟨rfl, rfl⟩
theorem cpt_43 (w : World) (hV : Vars w) : Calls Tryd.prog 76 #[.int .i64 4, .int .i64 3] w fun e w' => e = .returned (.bool false) ∧ w = w' := by
  have e1 : w.cell? ⟨0, 17, none⟩ = some (.bool false) := hV.tab 17 (by omega)
  clear hV
  go_enter Tryd.func76, Tryd.ntmps76
  go_wp2_with (first | (go_at_call 57; refine (valid_any _ _).mono ?_; rintro e W1 ⟨rfl, rfl⟩))
  go_ret
  exact ⟨rfl, rfl⟩
theorem cpt_44 (w : World) (hV : Vars w) : Calls Tryd.prog 76 #[.int .i64 4, .int .i64 4] w fun e w' => e = .returned (.bool false) ∧ w = w' := by
  have e1 : w.cell? ⟨0, 18, none⟩ = some (.bool false) := hV.tab 18 (by omega)
  clear hV
  go_enter Tryd.func76, Tryd.ntmps76
  go_wp2_with (first | (go_at_call 57; refine (valid_any _ _).mono ?_; rintro e W1 ⟨rfl, rfl⟩))
  go_ret
  exact ⟨rfl, rfl⟩
theorem cpt_45 (w : World) (hV : Vars w) : Calls Tryd.prog 76 #[.int .i64 4, .int .i64 5] w fun e w' => e = .returned (.bool false) ∧ w = w' := by
  have e1 : w.cell? ⟨0, 19, none⟩ = some (.bool false) := hV.tab 19 (by omega)
  clear hV
  go_enter Tryd.func76, Tryd.ntmps76
  go_wp2_with (first | (go_at_call 57; refine (valid_any _ _).mono ?_; rintro e W1 ⟨rfl, rfl⟩))
  go_ret
  exact ⟨rfl, rfl⟩
theorem cpt_51 (w : World) (hV : Vars w) : Calls Tryd.prog 76 #[.int .i64 5, .int .i64 1] w fun e w' => e = .returned (.bool false) ∧ w = w' := by
  have e1 : w.cell? ⟨0, 20, none⟩ = some (.bool false) := hV.tab 20 (by omega)
  clear hV
  go_enter Tryd.func76, Tryd.ntmps76
  go_wp2_with (first | (go_at_call 57; refine (valid_any _ _).mono ?_; rintro e W1 ⟨rfl, rfl⟩))
  go_ret
  exact ⟨rfl, rfl⟩
theorem cpt_52 (w : World) (hV : Vars w) : Calls Tryd.prog 76 #[.int .i64 5, .int .i64 2] w fun e w' => e = .returned (.bool false) ∧ w = w' := by
  have e1 : w.cell? ⟨0, 21, none⟩ = some (.bool false) := hV.tab 21 (by omega)
  clear hV
  go_enter Tryd.func76, Tryd.ntmps76
  go_wp2_with (first | (go_at_call 57; refine (valid_any _ _).mono ?_; rintro e W1 ⟨rfl, rfl⟩))
  go_ret
  exact ⟨rfl, rfl⟩
theorem cpt_53 (w : World) (hV : Vars w) : Calls Tryd.prog 76 #[.int .i64 5, .int .i64 3] w fun e w' => e = .returned (.bool false) ∧ w = w' := by
  have e1 : w.cell? ⟨0, 22, none⟩ = some (.bool false) := hV.tab 22 (by omega)
  clear hV
  go_enter Tryd.func76, Tryd.ntmps76
  go_wp2_with (first | (go_at_call 57; refine (valid_any _ _).mono ?_; rintro e W1 ⟨rfl, rfl⟩))
  go_ret
  exact ⟨rfl, rfl⟩
theorem cpt_54 (w : World) (hV : Vars w) : Calls Tryd.prog 76 #[.int .i64 5, .int .i64 4] w fun e w' => e = .returned (.bool false) ∧ w = w' := by
  have e1 : w.cell? ⟨0, 23, none⟩ = some (.bool false) := hV.tab 23 (by omega)
  clear hV
  go_enter Tryd.func76, Tryd.ntmps76
  go_wp2_with (first | (go_at_call 57; refine (valid_any _ _).mono ?_; rintro e W1 ⟨rfl, rfl⟩))
  go_ret
  exact ⟨rfl, rfl⟩
theorem cpt_55 (w : World) (hV : Vars w) : Calls Tryd.prog 76 #[.int .i64 5, .int .i64 5] w fun e w' => e = .returned (.bool false) ∧ w = w' := by
  have e1 : w.cell? ⟨0, 24, none⟩ = some (.bool false) := hV.tab 24 (by omega)
  clear hV
  go_enter Tryd.func76, Tryd.ntmps76
  go_wp2_with (first | (go_at_call 57; refine (valid_any _ _).mono ?_; rintro e W1 ⟨rfl, rfl⟩))
  go_ret
  exact ⟨rfl, rfl⟩
theorem cpt_any (a b : Int) (w : World) (hV : Vars w) : Calls Tryd.prog 76 #[.int .i64 a, .int .i64 b] w fun e w' => e = .returned (.bool (cpt a b)) ∧ w = w' := by
  by_cases h : (1 ≤ a ∧ a ≤ 5) ∧ (1 ≤ b ∧ b ≤ 5)
  · rcases md_cases h.1 with rfl | rfl | rfl | rfl | rfl <;> rcases md_cases h.2 with rfl | rfl | rfl | rfl | rfl
    · exact cpt_11 w hV
    · exact cpt_12 w hV
    · exact cpt_13 w hV
    · exact cpt_14 w hV
    · exact cpt_15 w hV
    · exact cpt_21 w hV
    · exact cpt_22 w hV
    · exact cpt_23 w hV
    · exact cpt_24 w hV
    · exact cpt_25 w hV
    · exact cpt_31 w hV
    · exact cpt_32 w hV
    · exact cpt_33 w hV
    · exact cpt_34 w hV
    · exact cpt_35 w hV
    · exact cpt_41 w hV
    · exact cpt_42 w hV
    · exact cpt_43 w hV
    · exact cpt_44 w hV
    · exact cpt_45 w hV
    · exact cpt_51 w hV
    · exact cpt_52 w hV
    · exact cpt_53 w hV
    · exact cpt_54 w hV
    · exact cpt_55 w hV
  · rw [show cpt a b = false by unfold cpt; simp; omega]
    exact cpt_no a b w h
end Go.Proofs.YthclgccgkdijbaaDoor
