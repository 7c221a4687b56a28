/- The walk of CodecTexts. -/
import Derived.Test.YtodoiobhphahcaaForm
namespace Go.Proofs.Ytodoiobhphahcaa
open Go.RowKit
theorem putText_form (A : Option Addr) (c : Nat) (xs : List Int) (s : ByteArray) (w : World) (h : Rd w A xs) (hl : xs.length ≤ 140737488351232) (hs : s.size ≤ 84442493016000) (hc : xs.length ≤ c) {n : Nat} (hn : Hid ((xs ++ vint s.size ++ sb s).length = n)) :
    Calls Try.prog 21 #[.slice A xs.length c, .string s] w (GivesF w (xs ++ vint s.size ++ sb s) n) := (putText_any A c xs s w h hl hs hc).mono fun _ _ => Gives.form hn
theorem refPutText_form (A : Option Addr) (c : Nat) (xs : List Int) (s : ByteArray) (w : World) (h : Rd w A xs) (hl : xs.length ≤ 140737488351232) (hs : s.size ≤ 84442493016000) {n : Nat} (hn : Hid ((xs ++ vint s.size ++ sb s).length = n)) :
    Calls Try.prog 22 #[.slice A xs.length c, .string s] w (GivesF w (xs ++ vint s.size ++ sb s) n) := (refPutText_any A c xs s w h hl hs).mono fun _ _ => Gives.form hn

set_option maxHeartbeats 800000 in
theorem CodecTexts_walk (s0 : ByteArray) (A1 : Option Addr) (n1 c1 : Nat) (x1 : List Int) (A2 : Option Addr) (n2 c2 : Nat) (x2 : List Int) (w : World) (w0 : s0.size ≤ 1048576) (w1 : In w A1 n1 c1 x1) (w2 : In w A2 n2 c2 x2) :
    Calls Try.prog 6 #[.string s0, .slice A1 n1 c1, .slice A2 n2 c2] w fun e w' => e = .returned (.bool true) ∧ Below w.heap.size w w' := by
  obtain ⟨rfl, hr, hb, hf, hc⟩ := w1
  obtain ⟨rfl, hr2, hb2, hf2, hc2⟩ := w2
  obtain ⟨ys, hys⟩ : ∃ ys, Hid (vint s0.size ++ sb s0 = ys) := ⟨_, rfl⟩
  obtain ⟨k, hk⟩ : ∃ k, Hid (ys.length = k) := ⟨_, rfl⟩
  have hk1 : s0.size < k ∧ k ≤ s0.size + 10 := by
    have := vint_len (s0.size : Int)
    rw [← hk.out, ← hys.out, List.length_append, sb_length]
    omega
  have hkv : Hid (((vint (s0.size : Int)).length : Int) + ((sb s0).length : Int) = (k : Int)) := by show _ = _; rw [← hk.out, ← hys.out, List.length_append]; push_cast; rfl
  have hyb : Byt ys := by rw [← hys.out]; exact (vint_byt (by omega) (by omega)).append (sb_byt s0)
  have hn : Hid ((x1 ++ vint s0.size ++ sb s0).length = x1.length + k) := by show _ = _; rw [List.append_assoc, hys.out, List.length_append, hk.out]
  have hxb : Byt (x1 ++ vint s0.size ++ sb s0) := by rw [List.append_assoc, hys.out]; exact hb.append hyb
  have hdr : Hid ((x1 ++ vint s0.size ++ sb s0).drop x1.length = ys) := by show _ = _; rw [List.append_assoc, hys.out]; simp
  have ht : Hid (textS (ys ++ x2) = if 1024 < ((sb s0).length : Int) then ([], 0, 3) else (sb s0, (k : Int), 0)) := by
    show _ = _
    have h := textS_put (sb s0) x2 (by rw [sb_length]; omega)
    have hkv' := hkv.out
    rw [sb_length] at h hkv' ⊢
    rw [← hkv', ← h, ← hys.out]
  rw [sb_length] at ht
  have hP1 := Lib.hid (putText_form A1 c1 x1 s0 w hr (by omega) (by omega) hf hn)
  have hP2 := fun W (h : Rd W A1 x1) => refPutText_form A1 c1 x1 s0 W h (by omega) (by omega) hn
  have hP2 := Lib.hid hP2
  generalize x1 ++ vint s0.size ++ sb s0 = zs at *
  by_cases hbig : 1024 < s0.size
  · have hbig' : (1024 : Int) < (s0.size : Int) := by omega
    have hu : Hid (∃ t, textS (ys ++ x2) = (t, 0, 3) ∧ strOfNums t = ⟨#[]⟩) := ⟨[], by rw [ht.out, if_pos hbig'], rfl⟩
    go_enter Try.func6, Try.ntmps6
    go_wp2_with (first
      | (go_at_call 21; refine hP1.out.mono ?_; rintro e1 W1 ⟨Ab, cb, rfl, hcb, ho1, hr1, hb1⟩; have hcne : ¬ cb = x1.length := by omega)
      | (go_at_call 17; refine (awake_any _).mono ?_; rintro e1 W3 ⟨rfl, hb3⟩)
      | (go_at_call 22; refine (hP2.out W3 ((hr.below hb1).below hb3)).mono ?_; rintro e1 W4 ⟨Aw, cw, rfl, hcw, ho2, hr4, hb4⟩)
      | (go_at_call 18; refine (equal_is Ab Aw _ _ cb cw zs zs W4 ((hr1.below hb3).below hb4) hr4 hxb hxb hn hn (eq_self _)).mono ?_; rintro e1 W5 ⟨rfl, rfl⟩)
      | (at_builtin; (refine app_bytes' rfl (.tmp 25) (.tmp 29) rfl W4.heap.size _ [] (Ab.map fun a => a.add x1.length) ys _ _ hk rfl rfl (.inl (Own.empty _ _ _ (Nat.le_refl _))) (.inl (Own.empty _ _ _ (Nat.le_refl _))) (by have h9 := (((hr1.below hb3).below hb4).below (below_new W4 (.cells #[] 5))).drop x1.length; rw [hdr.out] at h9; exact h9) (by simp; omega) (by simp) ?_); intro V5 W5 ho5 hb5 _ _)
      | (at_builtin; (refine app_bytes rfl (.tmp 30) (.tmp 31) rfl W4.heap.size _ ([] ++ ys) A2 x2 c2 rfl rfl (.inl ho5) (.inl ho5) ((((hr2.below hb1).below hb3).below hb4).below ((below_new W4 (.cells #[] 5)).trans hb5)) (by simp; rw [hk.out]; omega) ((below_new W4 (.cells #[] 5)).trans hb5).size ?_); intro V6 W6 ho6 hb6 _ _)
      | (go_at_call 23; refine (text_own W4.heap.size V6 ([] ++ ys ++ x2) W6 ho6 (by simpa using hyb.append hb2) (by simp [maxLen]; rw [hk.out]; omega) (by simpa using hu)).mono ?_; rintro e1 W7 ⟨rfl, rfl⟩))
    go_ret
    exact ⟨rfl, nx (nx (nx hb1 hb3) hb4) (((below_new W4 _).trans hb5).trans hb6)⟩
  · have hbig' : ¬ (1024 : Int) < (s0.size : Int) := by omega
    have hu : Hid (∃ t, textS (ys ++ x2) = (t, (k : Int), 0) ∧ strOfNums t = s0) := ⟨sb s0, by rw [ht.out, if_neg hbig'], sb_back s0⟩
    go_enter Try.func6, Try.ntmps6
    go_wp2_with (first
      | (go_at_call 21; refine hP1.out.mono ?_; rintro e1 W1 ⟨Ab, cb, rfl, hcb, ho1, hr1, hb1⟩; have hcne : ¬ cb = x1.length := by omega)
      | (go_at_call 17; refine (awake_any _).mono ?_; rintro e1 W3 ⟨rfl, hb3⟩)
      | (go_at_call 22; refine (hP2.out W3 ((hr.below hb1).below hb3)).mono ?_; rintro e1 W4 ⟨Aw, cw, rfl, hcw, ho2, hr4, hb4⟩)
      | (go_at_call 18; refine (equal_is Ab Aw _ _ cb cw zs zs W4 ((hr1.below hb3).below hb4) hr4 hxb hxb hn hn (eq_self _)).mono ?_; rintro e1 W5 ⟨rfl, rfl⟩)
      | (at_builtin; (refine app_bytes' rfl (.tmp 25) (.tmp 29) rfl W4.heap.size _ [] (Ab.map fun a => a.add x1.length) ys _ _ hk rfl rfl (.inl (Own.empty _ _ _ (Nat.le_refl _))) (.inl (Own.empty _ _ _ (Nat.le_refl _))) (by have h9 := (((hr1.below hb3).below hb4).below (below_new W4 (.cells #[] 5))).drop x1.length; rw [hdr.out] at h9; exact h9) (by simp; omega) (by simp) ?_); intro V5 W5 ho5 hb5 _ _)
      | (at_builtin; (refine app_bytes rfl (.tmp 30) (.tmp 31) rfl W4.heap.size _ ([] ++ ys) A2 x2 c2 rfl rfl (.inl ho5) (.inl ho5) ((((hr2.below hb1).below hb3).below hb4).below ((below_new W4 (.cells #[] 5)).trans hb5)) (by simp; rw [hk.out]; omega) ((below_new W4 (.cells #[] 5)).trans hb5).size ?_); intro V6 W6 ho6 hb6 _ _)
      | (go_at_call 23; refine (text_own W4.heap.size V6 ([] ++ ys ++ x2) W6 ho6 (by simpa using hyb.append hb2) (by simp [maxLen]; rw [hk.out]; omega) (by simpa using hu)).mono ?_; rintro e1 W7 ⟨rfl, rfl⟩))
    go_ret
    refine ⟨ret_true (by rw [beq_iff_eq]; omega), nx (nx (nx hb1 hb3) hb4) (((below_new W4 _).trans hb5).trans hb6)⟩
end Go.Proofs.Ytodoiobhphahcaa
