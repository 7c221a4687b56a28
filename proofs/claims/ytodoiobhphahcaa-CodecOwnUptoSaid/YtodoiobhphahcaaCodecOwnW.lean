/- The walk of CodecOwn. -/
import Derived.Test.YtodoiobhphahcaaCodecTextsW
namespace Go.Proofs.Ytodoiobhphahcaa
open Go.RowKit
/-- A call that leaves all that was there as it was. -/
def Leaves (w : World) (e : Ending) (w' : World) : Prop := ∃ v, e = .returned v ∧ Below w.heap.size w w'
theorem put_leaves (A : Option Addr) (c : Nat) (xs : List Int) (v : Int) (w : World) (h : Rd w A xs) (hl : xs.length ≤ 140737488351232) (hv0 : 0 ≤ v) (hv1 : v < 18446744073709551616) (hc : xs.length ≤ c) :
    Calls Try.prog 15 #[.slice A xs.length c, .int .u64 v] w (Leaves w) := (put_any A c xs v w h hl hv0 hv1 hc).mono fun _ _ ⟨V, h1, _, h3⟩ => ⟨V, h1, h3⟩
theorem putText_leaves (A : Option Addr) (c : Nat) (xs : List Int) (s : ByteArray) (w : World) (h : Rd w A xs) (hl : xs.length ≤ 140737488351232) (hs : s.size ≤ 84442493016000) (hc : xs.length ≤ c) :
    Calls Try.prog 21 #[.slice A xs.length c, .string s] w (Leaves w) := (putText_any A c xs s w h hl hs hc).mono fun _ _ ⟨V, h1, _, h3⟩ => ⟨V, h1, h3⟩
theorem uint_leaves (A : Option Addr) (c : Nat) (xs : List Int) (w : World) (h : Rd w A xs) (hb : Byt xs) (hm : xs.length ≤ maxLen) :
    Calls Try.prog 19 #[.slice A xs.length c] w (Leaves w) := (uint_any A c xs w h hb hm).mono fun _ _ ⟨h1, h2⟩ => ⟨_, h1, h2 ▸ Below.refl _ _⟩
theorem text_leaves (A : Option Addr) (c : Nat) (xs : List Int) (w : World) (h : Rd w A xs) (hb : Byt xs) (hm : xs.length ≤ maxLen) (hc : xs.length ≤ c) :
    Calls Try.prog 23 #[.slice A xs.length c] w (Leaves w) := (text_any A c xs w h hb hm hc).mono fun _ _ ⟨h1, h2⟩ => ⟨_, h1, h2 ▸ Below.refl _ _⟩
theorem frame_leaves (A : Option Addr) (c : Nat) (xs : List Int) (w : World) (h : Rd w A xs) (hb : Byt xs) :
    Calls Try.prog 27 #[.slice A xs.length c] w (Leaves w) := by
  by_cases hl : xs.length ≤ 4096
  · exact (frame_yes A c xs w h hb hl).mono fun _ _ ⟨_, h1, _, h3⟩ => ⟨_, h1, h3⟩
  · exact (frame_no A c xs w (by omega)).mono fun _ _ ⟨h1, h2⟩ => ⟨_, h1, h2 ▸ Below.refl _ _⟩
theorem unframe_leaves (A : Option Addr) (c : Nat) (xs : List Int) (w : World) (h : Rd w A xs) (hb : Byt xs) (hm : xs.length ≤ maxLen) (hc : xs.length ≤ c) :
    Calls Try.prog 29 #[.slice A xs.length c] w (Leaves w) := (unframe_any A c xs w h hb hm hc).mono fun _ _ ⟨_, h1, _, h3⟩ => ⟨_, h1, h3⟩
theorem sum_leaves (A : Option Addr) (c : Nat) (xs : List Int) (w : World) (h : Rd w A xs) (hb : Byt xs) (hm : xs.length ≤ maxLen) :
    Calls Try.prog 25 #[.slice A xs.length c] w (Leaves w) := (sum_any A c xs w h hb hm).mono fun _ _ ⟨h1, h2⟩ => ⟨_, h1, h2 ▸ Below.refl _ _⟩

set_option maxHeartbeats 1600000 in
theorem CodecOwn_walk (A0 : Option Addr) (n0 c0 : Nat) (x0 : List Int) (a1 : Int) (s2 : ByteArray) (w : World) (w0 : In w A0 n0 c0 x0) (w1 : (Lit.int .u64 a1).wf = true) (w2 : s2.size ≤ 1048576) :
    Calls Try.prog 14 #[.slice A0 n0 c0, .int .u64 a1, .string s2] w fun e w' => e = .returned (.bool true) ∧ Below w.heap.size w w' := by
  obtain ⟨rfl, hr, hb, hf, hc⟩ := w0
  obtain ⟨v0, v1⟩ := wf_u64 w1
  have HV := Lib.hid v1
  clear v1 w1
  have hm : Hid (x0.length ≤ maxLen) := by show _ ≤ _; simp only [maxLen]; omega
  have h7 : Byt [7, 7, 7, 7] := by intro x hx; simp at hx; omega
  have hx7 : Byt (x0 ++ [7, 7, 7, 7]) := hb.append h7
  have hn7 : Hid ((x0 ++ [7, 7, 7, 7]).length = x0.length + 4) := by show _ = _; simp
  have ht7 : Hid ((x0 ++ [7, 7, 7, 7]).take x0.length = x0) := by show _ = _; simp
  go_enter Try.func14, Try.ntmps14
  go_wp2_with (first
    | (at_builtin; (refine app_bytes rfl (.tmp 9) (.tmp 10) rfl w.heap.size _ [] A0 x0 c0 rfl rfl (.inl (Own.empty _ _ _ (Nat.le_refl _))) (.inl (Own.empty _ _ _ (Nat.le_refl _))) (hr.below (below_new w (.cells #[] 5))) (by simp; omega) (by simp) ?_); intro V1 W1 ho1 hb1 _ _; have hB1 := (below_new w (.cells #[] 5)).trans hb1)
    | (at_builtin; (refine app_bytes rfl (.tmp 11) (.tmp 12) rfl w.heap.size _ ([] ++ x0) (some ⟨W1.heap.size, 0, none⟩) [7, 7, 7, 7] 4 rfl rfl (.inl (ho1.below (below_new _ _))) (.inl (ho1.below (below_new _ _))) (rd_four W1 7 7 7 7) (by simp; omega) (by have := hB1.size; simp; omega) ?_); intro V2 W2 ho2 hb2 _ _; have hB2 : Below w.heap.size w W2 := (hB1.alloc hB1.size _).trans hb2; obtain ⟨Ar, cr, rfl, hcr, _, hrr, _⟩ := Own.form ho2; rw [List.nil_append] at ho2 hrr hcr; rw [List.nil_append, hn7.out]; rw [hn7.out] at hcr ho2; have hcr2 : x0.length ≤ cr := (by omega); have hp : Rd W2 Ar x0 := by have h9 := hrr.take x0.length; rw [ht7.out] at h9; exact h9)
    | (go_at_call 15; refine (put_leaves Ar cr x0 a1 W2 hp (by omega) v0 HV.out hcr2).mono ?_; rintro e1 W3 ⟨u3, rfl, hb3⟩)
    | (go_at_call 21; refine (putText_leaves Ar cr x0 s2 W3 (hp.below hb3) (by omega) (by omega) hcr2).mono ?_; rintro e1 W4 ⟨u4, rfl, hb4⟩; have hB4 := nx hb3 hb4)
    | (go_at_call 19; refine (uint_leaves Ar cr x0 W4 (hp.below hB4) hb hm.out).mono ?_; rintro e1 W5 ⟨u5, rfl, hb5⟩; have hB5 := nx hB4 hb5)
    | (go_at_call 23; refine (text_leaves Ar cr x0 W5 (hp.below hB5) hb hm.out hcr2).mono ?_; rintro e1 W6 ⟨u6, rfl, hb6⟩; have hB6 := nx hB5 hb6)
    | (go_at_call 27; refine (frame_leaves Ar cr x0 W6 (hp.below hB6) hb).mono ?_; rintro e1 W7 ⟨u7, rfl, hb7⟩; have hB7 := nx hB6 hb7)
    | (go_at_call 29; refine (unframe_leaves Ar cr x0 W7 (hp.below hB7) hb hm.out hcr2).mono ?_; rintro e1 W8 ⟨u8, rfl, hb8⟩; have hB8 := nx hB7 hb8)
    | (go_at_call 25; refine (sum_leaves Ar cr x0 W8 (hp.below hB8) hb hm.out).mono ?_; rintro e1 W9 ⟨u9, rfl, hb9⟩; have hB9 := nx hB8 hb9)
    | (go_at_call 17; refine (awake_any _).mono ?_; rintro e1 X0 ⟨rfl, hb10⟩; have hBX := nx hB9 hb10; have hBw := hB2.trans (hBX.mono hB2.size))
    | (at_builtin; (refine app_bytes rfl (.tmp 37) (.tmp 38) rfl X0.heap.size _ [] A0 x0 c0 rfl rfl (.inl (Own.empty _ _ _ (Nat.le_refl _))) (.inl (Own.empty _ _ _ (Nat.le_refl _))) ((hr.below hBw).below (below_new X0 (.cells #[] 5))) (by simp; omega) (by simp) ?_); intro V3 X1 ho3 hx1 _ _; have hC1 := (below_new X0 (.cells #[] 5)).trans hx1)
    | (at_builtin; (refine app_bytes rfl (.tmp 39) (.tmp 40) rfl X0.heap.size _ ([] ++ x0) (some ⟨X1.heap.size, 0, none⟩) [7, 7, 7, 7] 4 rfl rfl (.inl (ho3.below (below_new _ _))) (.inl (ho3.below (below_new _ _))) (rd_four X1 7 7 7 7) (by simp; omega) (by have := hC1.size; simp; omega) ?_); intro V4 X2 ho4 hx2 _ _; have hC2 : Below X0.heap.size X0 X2 := (hC1.alloc hC1.size _).trans hx2; obtain ⟨As, cs, rfl, hcs, _, hrs, _⟩ := Own.form ho4; rw [List.nil_append] at ho4 hrs hcs; rw [List.nil_append, hn7.out]; rw [hn7.out] at hcs ho4)
    | (go_at_call 18; refine (equal_is Ar As _ _ cr cs (x0 ++ [7, 7, 7, 7]) (x0 ++ [7, 7, 7, 7]) X2 ((hrr.below hBX).below hC2) hrs hx7 hx7 hn7 hn7 (eq_self _)).mono ?_; rintro e1 X3 ⟨rfl, rfl⟩))
  go_ret
  exact ⟨rfl, nx hBw hC2⟩
end Go.Proofs.Ytodoiobhphahcaa
