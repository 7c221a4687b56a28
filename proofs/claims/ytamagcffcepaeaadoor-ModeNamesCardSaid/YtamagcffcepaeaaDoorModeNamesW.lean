/- ModeNames walked. -/
import Derived.Test.YtamagcffcepaeaaDoorMawake
namespace Go.Proofs.YtamagcffcepaeaaDoor
set_option linter.unusedVariables false
open Go.RowKit
theorem parse_named (s : ByteArray) (w : World) (hV : Vars w) {r : Int} (h : Hid (prs s = r)) : Calls Tryd.prog 23 #[.string s] w fun e w' => e = .returned (.tuple #[.int .i64 r, .bool (decide (1 ≤ r))]) ∧ w = w' := by
  rw [← h.out]
  exact parse_any s w hV
theorem refParse_named (s : ByteArray) (w : World) {r : Int} (h : Hid (prs s = r)) : Calls Tryd.prog 24 #[.string s] w fun e w' => e = .returned (.tuple #[.int .i64 r, .bool (decide (1 ≤ r))]) ∧ w = w' := by
  rw [← h.out]
  exact refParse_any s w
theorem format_is (a : Int) (w : World) (hV : Vars w) {r : ByteArray} (h : Hid (nmB a = r)) : Calls Tryd.prog 22 #[.int .i64 a] w fun e w' => e = .returned (.string r) ∧ w = w' := by
  rw [← h.out]
  exact format_any a w hV
theorem prs_range (s : ByteArray) : 0 ≤ prs s ∧ prs s ≤ 5 := by
  unfold prs
  split
  · omega
  split
  · omega
  split
  · omega
  split
  · omega
  split <;> omega
theorem prs_nm {s : ByteArray} (h : 1 ≤ prs s) : nmB (prs s) = s := by
  unfold prs at *
  split at *
  · next e => rw [e]; rfl
  split at *
  · next e => rw [e]; rfl
  split at *
  · next e => rw [e]; rfl
  split at *
  · next e => rw [e]; rfl
  split at *
  · next e => rw [e]; rfl
  · omega
set_option maxHeartbeats 1000000 in
theorem ModeNames_walk (a0 : Int) (s1 : ByteArray) (w : World) (hV : Vars w) (w0 : (Lit.int .i64 a0).wf = true) (w1 : s1.size ≤ 140737488351232) :
    Calls Tryd.prog 9 #[.int .i64 a0, .string s1] w fun e w' => e = .returned (.bool true) ∧ Below w.heap.size w w' := by
  have HV := Lib.hid hV
  clear hV w0 w1
  obtain ⟨t, ht⟩ : ∃ t, Hid (nmB a0 = t) := ⟨_, rfl⟩
  obtain ⟨n, hn⟩ : ∃ n, Hid (prs t = n) := ⟨_, rfl⟩
  obtain ⟨k, hk⟩ : ∃ k, Hid (prs s1 = k) := ⟨_, rfl⟩
  obtain ⟨u, hu⟩ : ∃ u, Hid (nmB k = u) := ⟨_, rfl⟩
  obtain ⟨v, hv⟩ : ∃ v, Hid (vmd a0 = v) := ⟨_, rfl⟩
  have tt : (t.toList == t.toList) = true := by simp
  have uu : 1 ≤ k → (u.toList == s1.toList) = true := fun h => by
    rw [← hu.out, ← hk.out, prs_nm (by rw [hk.out]; exact h)]
    simp
  have nv : decide (1 ≤ n) = v := by
    rw [← hn.out, ← ht.out, ← hv.out]
    by_cases h : 1 ≤ a0 ∧ a0 ≤ 5
    · rw [nm_prs h]; unfold vmd; simp; omega
    · rw [nmB_no h]; unfold vmd; rw [show prs ⟨#[]⟩ = 0 by decide]; simp; omega
  have na : 1 ≤ n → n = a0 := fun h => by
    rw [← hn.out, ← ht.out] at h ⊢
    by_cases ha : 1 ≤ a0 ∧ a0 ≤ 5
    · exact nm_prs ha
    · rw [nmB_no ha, show prs ⟨#[]⟩ = 0 by decide] at h; omega
  have nv' : (decide (1 ≤ n) == v) = true := by rw [nv]; simp
  have Q1 : Hid (v = true → n = a0) := fun h => na (of_decide_eq_true (nv.trans h))
  have Q2 : Hid (1 ≤ k → (u.toList == s1.toList) = true) := uu
  clear na uu
  have tok : True := trivial
  go_enter Tryd.func9, Tryd.ntmps9
  go_wp2_with (first
    | (go_at_call 10; refine (awake_any _ HV.out).mono ?_; rintro e W1 ⟨rfl, hb1⟩)
    | (have _t := tok; go_at_call 22; refine (format_is _ _ HV.out ht).mono ?_; rintro e W2 ⟨rfl, rfl⟩; clear tok; have tok2 : True := trivial)
    | (have _t := tok2; go_at_call 23; refine (parse_named _ _ HV.out hn).mono ?_; rintro e W2 ⟨rfl, rfl⟩; clear tok2)
    | (go_at_call 23; refine (parse_named _ _ HV.out hk).mono ?_; rintro e W2 ⟨rfl, rfl⟩)
    | (go_at_call 24; refine (refParse_named _ _ hk).mono ?_; rintro e W2 ⟨rfl, rfl⟩)
    | (go_at_call 25; refine (refFormat_is _ _ ht).mono ?_; rintro e W2 ⟨rfl, rfl⟩)
    | (go_at_call 12; refine (refValid_is _ _ hv).mono ?_; rintro e W2 ⟨rfl, rfl⟩)
    | (go_at_call 22; refine (format_is _ _ (HV.out.below hb1) hu).mono ?_; rintro e W2 ⟨rfl, rfl⟩))
  all_goals first
    | (go_ret; exact ⟨rfl, hb1⟩)
    | (exfalso; exact absurd (Q1.out (by assumption)) (by assumption))
    | (go_ret; exact ⟨ret_bool (Q2.out (by assumption)), hb1⟩)
end Go.Proofs.YtamagcffcepaeaaDoor
