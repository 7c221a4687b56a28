/- IdentBytes walked. -/
import Derived.Test.YtchffamnamhcdaaDoorIrput
namespace Go.Proofs.YtchffamnamhcdaaDoor
set_option linter.unusedVariables false
open Go.RowKit

theorem retT {b : Bool} (h : b = true) : Ending.returned (.bool b) = .returned (.bool true) := by rw [h]
set_option maxHeartbeats 2000000 in
set_option maxRecDepth 8000 in
theorem IdentBytes_walk (a0 b0 d0 : Int) (A1 : Option Addr) (n1 c1 : Nat) (x1 : List Int) (A2 : Option Addr) (n2 c2 : Nat) (x2 : List Int) (w : World) (hV : Vars w) (wa0 : (Lit.int .i64 a0).wf = true) (wb0 : (Lit.int .i64 b0).wf = true) (wc0 : (Lit.int .i64 d0).wf = true) (w1 : In w A1 n1 c1 x1) (w2 : In w A2 n2 c2 x2) :
    Calls Tryd.prog 9 #[.agg #[.int .i64 a0, .int .i64 b0, .int .i64 d0], .slice A1 n1 c1, .slice A2 n2 c2] w fun e w' => e = .returned (.bool true) ∧ Below w.heap.size w w' := by
  obtain ⟨hl1, hr1, hb1, hf1, hc1⟩ := w1
  obtain ⟨hl2, hr2, hb2, hf2, hc2⟩ := w2
  have s1 : Hid (n1 ≤ 140737488351232) := by show _ ≤ _; omega
  have s2 : Hid (n2 ≤ 140737488351232) := by show _ ≤ _; omega
  have L1 := Lib.hid hl1
  have L2 := Lib.hid hl2
  have HV := Lib.hid hV
  have R1 := Lib.hid hr1
  have R2 := Lib.hid hr2
  clear hV wa0 wb0 wc0 hl1 hl2 hc1 hc2 hr1 hr2
  cases hv : vpB a0 b0 d0
  · have hr := Lib.hid hv
    clear hv
    go_enter Tryd.func9, Tryd.ntmps9
    go_wp2_with (first
      | (go_at_call 30; refine (putProc_no _ _ _ _ _ _ _ _ (R1.out.below (newB w _)) L1 s1 hr).mono ?_; rintro e W1 ⟨B1, k1, rfl, hk1, hm1, hp1, hg1⟩; have hW1 := nx (newB w _) hg1; have y1 := Lib.hid ((B3.new w _ _ _ _).below hg1); obtain ⟨i0, i1, i2, i3⟩ := y1.out)
      | (go_at_call 16; refine (refValid_b _ _ _ _ hr).mono ?_; rintro e W2 ⟨rfl, hg2⟩; have hW2 := nx hW1 hg2)
      | (go_at_call 14; refine (awake_any _ (HV.out.below hW2)).mono ?_; rintro e W3 ⟨rfl, hg3⟩; have hW3 := nx hW2 hg3)
      | (go_at_call 31; refine (equal_ln B1 A1 _ _ k1 c1 x1 x1 W3 ((hp1.below hg2).below hg3) (R1.out.below hW3) hb1 hb1 L1 L1 (eqSelf _)).mono ?_; rintro e1 W4 ⟨rfl, rfl⟩))
    go_ret
    exact ⟨rfl, hW3⟩
  · have hr := Lib.hid hv
    obtain ⟨k, hk⟩ : ∃ k, Hid ((procB a0 b0 d0).length = k) := ⟨_, rfl⟩
    have hk1 : 3 ≤ k ∧ k ≤ 30 := by rw [← hk.out]; exact procB_len _ _ _
    have hn : Hid ((x1 ++ procB a0 b0 d0).length = n1 + k) := by show _ = _; rw [List.length_append, hk.out, L1.out]
    have hpb : Byt (procB a0 b0 d0) := procB_byt hv
    have hxb : Byt (x1 ++ procB a0 b0 d0) := hb1.append hpb
    have hdr : Hid ((x1 ++ procB a0 b0 d0).drop n1 = procB a0 b0 d0) := by show _ = _; rw [← L1.out]; simp
    have hrd : Hid (readP ([] ++ procB a0 b0 d0 ++ x2) = (a0, b0, d0, (k : Int), 0)) := by show _ = _; rw [List.nil_append, readP_own hv, hk.out]
    have hlen : Hid (([] ++ procB a0 b0 d0 ++ x2).length = k + n2) := by show _ = _; rw [List.nil_append, List.length_append, hk.out, L2.out]
    have hkm : Hid (k + n2 ≤ 140737488351262) := by have := s2.out; show _ ≤ _; omega
    have t1 : Hid (k ≤ 225179981368000) := by show _ ≤ _; omega
    clear hv
    go_enter Tryd.func9, Tryd.ntmps9
    go_wp2_with (first
      | (go_at_call 30; refine (putProc_yes _ _ _ _ _ _ _ _ (R1.out.below (newB w _)) L1 s1 hf1 hr hn).mono ?_; rintro e W1 ⟨B1, k1, rfl, hkk1, hm1, hp1, hg1⟩; have hcne : ¬ k1 = n1 := (by omega); have hW1 := nx (newB w _) hg1; have y1 := Lib.hid ((B3.new w _ _ _ _).below hg1); obtain ⟨i0, i1, i2, i3⟩ := y1.out)
      | (go_at_call 16; refine (refValid_b _ _ _ _ hr).mono ?_; rintro e W2 ⟨rfl, hg2⟩; have hW2 := nx hW1 hg2; have y2 := Lib.hid (y1.out.below hg2); clear i0 i1 i2 i3; obtain ⟨i0, i1, i2, i3⟩ := y2.out)
      | (go_at_call 14; refine (awake_any _ (HV.out.below hW2)).mono ?_; rintro e W3 ⟨rfl, hg3⟩; have hW3 := nx hW2 hg3; have y3 := Lib.hid (y2.out.below hg3); clear i0 i1 i2 i3; obtain ⟨i0, i1, i2, i3⟩ := y3.out)
      | (go_at_call 32; refine (refPutProc_yes _ _ _ _ _ _ _ _ (R1.out.below hW3) L1 s1 hf1 hr hn).mono ?_; rintro e W4 ⟨B4, k4, rfl, hk4, hm4, hp4, hg4⟩; have hW4 := nx hW3 hg4; have hq4 := Lib.hid (((hp1.below hg2).below hg3).below hg4); have y4 := Lib.hid (y3.out.below hg4); clear i0 i1 i2 i3; obtain ⟨i0, i1, i2, i3⟩ := y4.out)
      | (go_at_call 31; refine (equal_ln B1 B4 _ _ k1 k4 (x1 ++ procB a0 b0 d0) (x1 ++ procB a0 b0 d0) W4 hq4.out hp4 hxb hxb hn hn (eqSelf _)).mono ?_; rintro e1 W5 ⟨rfl, rfl⟩)
      | (at_builtin; (refine app_ln rfl (.tmp 41) (.tmp 45) rfl W4.heap.size _ [] (B1.map fun a => a.add n1) (procB a0 b0 d0) _ _ hk rfl rfl (.inl (Own.empty _ _ _ (Nat.le_refl _))) (.inl (Own.empty _ _ _ (Nat.le_refl _))) (by have h9 := (hq4.out.below (below_new W4 (.cells #[] 5))).drop n1; rw [hdr.out] at h9; exact h9) (by have := t1.out; simp; omega) (by simp) ?_); intro V5 W5 ho5 hg5 _ _)
      | (at_builtin; (refine app_ln rfl (.tmp 46) (.tmp 47) rfl W4.heap.size _ ([] ++ procB a0 b0 d0) A2 x2 _ c2 L2 rfl rfl (.inl ho5) (.inl ho5) ((R2.out.below hW4).below ((below_new W4 (.cells #[] 5)).trans hg5)) (by have := hkm.out; simp; rw [hk.out]; omega) ((below_new W4 (.cells #[] 5)).trans hg5).size ?_); intro V6 W6 ho6 hg6 _ _; have hB6 := ((below_new W4 (.cells #[] 5)).trans hg5).trans hg6; have hW6 := nx hW4 hB6; have y6 := Lib.hid (y4.out.below hB6); obtain ⟨A6, k6, rfl, hk6, hm6, hr6, _⟩ := Own.form ho6; rw [hlen.out])
      | (go_at_call 33; refine (proc_is _ _ _ _ _ hr6 (by rw [List.nil_append]; exact hpb.append hb2) hlen (by have := hkm.out; unfold maxLen; omega) (by rw [hlen.out] at hk6; exact hk6) hrd).mono ?_; rintro e W7 ⟨rfl, hg7⟩; have hW7 := nx hW6 hg7; have y7 := Lib.hid (y6.out.below hg7); have z7 := Lib.hid ((B3.new W7 23 (.int .i64 a0) (.int .i64 b0) (.int .i64 d0))); clear i0 i1 i2 i3; obtain ⟨i0, i1, i2, i3⟩ := y7.out))
    go_ret
    refine ⟨retT (by rw [beq_iff_eq]; omega), nxA hW7 _⟩
end Go.Proofs.YtchffamnamhcdaaDoor
