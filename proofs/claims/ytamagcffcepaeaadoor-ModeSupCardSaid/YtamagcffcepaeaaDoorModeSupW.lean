/- ModeSup walked. -/
import Derived.Test.YtamagcffcepaeaaDoorMawake
namespace Go.Proofs.YtamagcffcepaeaaDoor
set_option linter.unusedVariables false
open Go.RowKit
theorem sup_assoc {a b : Int} (ha : 1 ≤ a ∧ a ≤ 5) (hb : 1 ≤ b ∧ b ≤ 5) (c : Int) : sup (sup a b) c = sup a (sup b c) := by
  by_cases hc : 1 ≤ c ∧ c ≤ 5
  · have h : ∀ a ∈ ([1, 2, 3, 4, 5] : List Int), ∀ b ∈ ([1, 2, 3, 4, 5] : List Int), ∀ c ∈ ([1, 2, 3, 4, 5] : List Int), sup (sup a b) c = sup a (sup b c) := by decide
    have hm : ∀ x : Int, 1 ≤ x ∧ x ≤ 5 → x ∈ ([1, 2, 3, 4, 5] : List Int) := fun x hx => by rcases md_cases hx with rfl | rfl | rfl | rfl | rfl <;> decide
    exact h a (hm a ha) b (hm b hb) c (hm c hc)
  · rw [sup_no_right hc, sup_no_right hc, sup_no_right (by omega)]
set_option maxHeartbeats 1000000 in
theorem ModeSup_walk (a0 : Int) (a1 : Int) (a2 : Int) (w : World) (hV : Vars w) (w0 : (Lit.int .i64 a0).wf = true) (w1 : (Lit.int .i64 a1).wf = true) (w2 : (Lit.int .i64 a2).wf = true) :
    Calls Tryd.prog 5 #[.int .i64 a0, .int .i64 a1, .int .i64 a2] w fun e w' => e = .returned (.bool true) ∧ Below w.heap.size w w' := by
  have HV := Lib.hid hV
  clear hV w0 w1 w2
  have e1 : sup a1 a0 = sup a0 a1 := by unfold sup; split <;> split <;> (try split) <;> omega
  by_cases ha : vmd a0 = true
  · by_cases hb : vmd a1 = true
    · have ha' := vmd_true ha
      have hb' := vmd_true hb
      obtain ⟨e2, e3⟩ := cov_sup ha' hb'
      have e4 : sup (sup a0 a1) a2 = sup a0 (sup a1 a2) := sup_assoc ha' hb' a2
      have e5 : Hid (cov a2 a0 = true → cov a2 a1 = true → cov a2 (sup a0 a1) = true) := fun h k => sup_least h k
      clear ha' hb'
      go_enter Tryd.func5, Tryd.ntmps5
      go_wp2_with (first
        | (go_at_call 10; refine (awake_any _ HV.out).mono ?_; rintro e W1 ⟨rfl, hb1⟩)
        | (go_at_call 11; refine (valid_any _ _).mono ?_; rintro e W2 ⟨rfl, rfl⟩)
        | (go_at_call 12; refine (refValid_any _ _).mono ?_; rintro e W2 ⟨rfl, rfl⟩)
        | (go_at_call 13; refine (cpt_any _ _ _ (by first | exact HV.out | exact HV.out.below (by assumption))).mono ?_; rintro e W2 ⟨rfl, rfl⟩)
        | (go_at_call 14; refine (refCpt_any _ _ _).mono ?_; rintro e W2 ⟨rfl, rfl⟩)
        | (go_at_call 15; refine (covers_any _ _ _).mono ?_; rintro e W2 ⟨rfl, rfl⟩)
        | (go_at_call 16; refine (refCovers_any _ _ _).mono ?_; rintro e W2 ⟨rfl, rfl⟩)
        | (go_at_call 17; refine (sup_any _ _ _).mono ?_; rintro e W2 ⟨rfl, rfl⟩)
        | (go_at_call 18; refine (refSup_any _ _ _).mono ?_; rintro e W2 ⟨rfl, rfl⟩))
      all_goals first
        | (go_ret; exact ⟨rfl, hb1⟩)
        | (exfalso; have h1 := e5.out (by assumption) (by assumption); simp_all; done)
    · have e6 : sup a0 a1 = 0 := sup_no_right (fun h => hb (decide_eq_true h))
      go_enter Tryd.func5, Tryd.ntmps5
      go_wp2_with (first
        | (go_at_call 10; refine (awake_any _ HV.out).mono ?_; rintro e W1 ⟨rfl, hb1⟩)
        | (go_at_call 11; refine (valid_any _ _).mono ?_; rintro e W2 ⟨rfl, rfl⟩)
        | (go_at_call 12; refine (refValid_any _ _).mono ?_; rintro e W2 ⟨rfl, rfl⟩)
        | (go_at_call 13; refine (cpt_any _ _ _ (by first | exact HV.out | exact HV.out.below (by assumption))).mono ?_; rintro e W2 ⟨rfl, rfl⟩)
        | (go_at_call 14; refine (refCpt_any _ _ _).mono ?_; rintro e W2 ⟨rfl, rfl⟩)
        | (go_at_call 15; refine (covers_any _ _ _).mono ?_; rintro e W2 ⟨rfl, rfl⟩)
        | (go_at_call 16; refine (refCovers_any _ _ _).mono ?_; rintro e W2 ⟨rfl, rfl⟩)
        | (go_at_call 17; refine (sup_any _ _ _).mono ?_; rintro e W2 ⟨rfl, rfl⟩)
        | (go_at_call 18; refine (refSup_any _ _ _).mono ?_; rintro e W2 ⟨rfl, rfl⟩))
      all_goals (go_ret; exact ⟨rfl, hb1⟩)
  · have e6 : sup a0 a1 = 0 := sup_no_left (fun h => ha (decide_eq_true h))
    go_enter Tryd.func5, Tryd.ntmps5
    go_wp2_with (first
      | (go_at_call 10; refine (awake_any _ HV.out).mono ?_; rintro e W1 ⟨rfl, hb1⟩)
      | (go_at_call 11; refine (valid_any _ _).mono ?_; rintro e W2 ⟨rfl, rfl⟩)
      | (go_at_call 12; refine (refValid_any _ _).mono ?_; rintro e W2 ⟨rfl, rfl⟩)
      | (go_at_call 13; refine (cpt_any _ _ _ (by first | exact HV.out | exact HV.out.below (by assumption))).mono ?_; rintro e W2 ⟨rfl, rfl⟩)
      | (go_at_call 14; refine (refCpt_any _ _ _).mono ?_; rintro e W2 ⟨rfl, rfl⟩)
      | (go_at_call 15; refine (covers_any _ _ _).mono ?_; rintro e W2 ⟨rfl, rfl⟩)
      | (go_at_call 16; refine (refCovers_any _ _ _).mono ?_; rintro e W2 ⟨rfl, rfl⟩)
      | (go_at_call 17; refine (sup_any _ _ _).mono ?_; rintro e W2 ⟨rfl, rfl⟩)
      | (go_at_call 18; refine (refSup_any _ _ _).mono ?_; rintro e W2 ⟨rfl, rfl⟩))
    all_goals (go_ret; exact ⟨rfl, hb1⟩)
end Go.Proofs.YtamagcffcepaeaaDoor
