/- RequestTapes walked. -/
import Derived.Test.YtlokcmbkkfjlkaaGreatDoorRaw
import Derived.Test.YtlokcmbkkfjlkaaGreatDoorRsm
import Derived.Test.YtlokcmbkkfjlkaaGreatDoorRtx
import Derived.Test.YtlokcmbkkfjlkaaGreatDoorTrq
import Derived.Test.YtlokcmbkkfjlkaaGreatDoorTin
namespace Go.Proofs.YtlokcmbkkfjlkaaGreatDoor
set_option linter.unusedVariables false
set_option linter.unusedSimpArgs false
open Go.RowKit
theorem TIn.lo {lo : Nat} {w : World} {v : XV} {e : Ex} (h : TIn (Snc lo w) w v e) : TIn (Lo w.heap.size) w v e := h.mono (fun k hk => hk.2)
theorem nxB {b : Nat} {w a c : World} (h : Below b w a) (k : Below a.heap.size a c) (hb : w.heap.size = b) : Below b w c := h.trans (k.mono (by have := h.size; omega))
theorem tape_new {W : World} {A : Option Addr} {n c : Nat} {xs : List Int} (h : InI W A n c xs) (hn : n ≤ 300) : Tp (W.alloc (.cells #[.slice A n c, .int .i64 0] 45)) W.heap.size := by
  have hk := Blk.new W [.slice A n c, .int .i64 0] 45 rfl
  refine ⟨A, n, c, xs, 0, hk.lt, hk.cell 0 rfl, hk.cell 1 rfl, hk.fz, h.len, fun h0 => ?_, h.wf, hn, Nat.zero_le _, h.fit⟩
  obtain ⟨g, o, hA, hg, hc⟩ := h.rd (by rintro rfl; have := h.len; simp at this; omega)
  exact ⟨g, o, hA, hg, fun j hj => (cell_of_block ((newB W _).block g hg) _).trans (hc j (by rw [h.len]; exact hj))⟩
set_option maxHeartbeats 8000000 in
set_option maxRecDepth 100000 in
theorem RequestTapes_walk (A0 : Option Addr) (n0 c0 : Nat) (x0 : List Int) (w : World) (hV : VR w) (w0 : InI w A0 n0 c0 x0) :
    Calls Tryz.prog 7 #[.slice A0 n0 c0] w fun e w' => e = .returned (.bool true) ∧ Below w.heap.size w w' := by
  have HV := Lib.hid hV
  have HI := Lib.hid w0
  clear hV w0
  by_cases hn : (n0 : Int) ≤ 300
  · have hd : decide ((n0 : Int) ≤ 300) = true := decide_eq_true hn
    have HT := Lib.hid (tape_new HI.out (by omega))
    have HB0 := Lib.hid (newB w (.cells #[.slice A0 n0 c0, .int .i64 0] 45))
    have M1 := Lib.hid trivial
    go_enter Tryz.func7, Tryz.ntmps7
    go_upto_region 4 with (first
      | (go_at_call 22; refine (light_is A0 n0 c0 _).mono ?_; rintro e W1 ⟨rfl, rfl⟩; rw [hd]))
    obtain ⟨b, hb⟩ : ∃ b, w.heap.size = b := ⟨_, rfl⟩
    rw [hb] at HT ⊢
    have hbl : Hid (b ≤ (w.alloc (.cells #[.slice A0 n0 c0, .int .i64 0] 45)).heap.size) := Lib.hid (by have := HT.out.lt; omega)
    have HBB : Hid (Below b w (w.alloc (.cells #[.slice A0 n0 c0, .int .i64 0] 45))) := Lib.hid (by rw [← hb]; exact HB0.out)
    have HVB : Hid (∀ W, Below b w W → VR W) := Lib.hid (fun W h => HV.out.below (by rw [hb]; exact h))
    have hbH := Lib.hid hb
    clear hb HB0 HI hd hn
    generalize w.alloc (.cells #[.slice A0 n0 c0, .int .i64 0] 45) = W0 at HT hbl HBB ⊢
    go_upto_region 5 with (first
      | (go_at_call 24; refine (catalog_any b _ HT.out).mono ?_; rintro e W1 ⟨⟨A1, c1, l, rfl, hl6, hC, hO⟩, ht, hf⟩; have HT1 := Lib.hid ht; have HB1 := Lib.hid (HBB.out.trans (hf.below hbl.out)); have hL6 := Lib.hid hl6; have HC := Lib.hid hC; have hA1 : Hid (∀ g o, A1 = some ⟨g, o, none⟩ → g ≠ b) := Lib.hid (fun g o h => by have h1 := (own_lt hO (g := g) (by rw [h]; rfl)).1; have h2 := HT.out.lt; omega); have hR1 : Hid (RRd W1 A1 l) := Lib.hid (by obtain ⟨A2, c2, hV, h1, h2, h3⟩ := hO.form; injection hV with q1; rw [q1]; exact h2); clear ht hf hl6 hC hO)
      | (go_at_call 23; refine (mreq_any l b A1 c1 _ HT1.out hL6 HC hR1.out hA1.out).mono ?_; rintro e W2 ⟨⟨k', s', m', u', A', n', c', p', t', y, rfl, ht, hv⟩, hp2, hf2⟩; have HB2 := Lib.hid (HB1.out.trans (hf2.below (Nat.le_of_lt HT1.out.lt))); have HT2 := Lib.hid ht.lo; have hvq := Lib.hid hv; clear ht hv hp2 hf2))
    have HK0 := Lib.hid (Blk.new W2 [.int .i64 k', .string s', .int .i64 m', .int .i64 u', .slice A' n' c', .int .i64 p', .int .i64 t'] 30 rfl)
    have HT0 := Lib.hid (HT2.out.grow (.cells #[.int .i64 k', .string s', .int .i64 m', .int .i64 u', .slice A' n' c', .int .i64 p', .int .i64 t'] 30))
    have hws : b ≤ W2.heap.size := by have h1 := HB2.out.size; have h2 := hbH.out; omega
    have HB3 := Lib.hid (HB2.out.trans ((newB W2 (.cells #[.int .i64 k', .string s', .int .i64 m', .int .i64 u', .slice A' n' c', .int .i64 p', .int .i64 t'] 30)).mono hws))
    obtain ⟨W3, hW3⟩ : ∃ W3, W2.alloc (.cells #[.int .i64 k', .string s', .int .i64 m', .int .i64 u', .slice A' n' c', .int .i64 p', .int .i64 t'] 30) = W3 := ⟨_, rfl⟩
    have hs3 : Hid (W2.heap.size < W3.heap.size) := Lib.hid (by rw [← hW3]; simp)
    rw [hW3] at HK0 HT0 HB3 ⊢
    obtain ⟨g4, hg4⟩ : ∃ g4, W2.heap.size = g4 := ⟨_, rfl⟩
    rw [hg4] at HK0 hs3 ⊢
    obtain ⟨T, hT⟩ : ∃ T, Hid (mkB (txR (y, p', t')) = T) := ⟨_, rfl⟩
    have hx2 : Hid (pR T = .ok (y, p', t')) := pR_back hvq.out hT.out.symm
    have hvb : Hid (vrqB y p' t' = true) := vrqB_iff.2 hvq.out
    clear hW3 hg4 hws HT1 HB1 hL6 HC hA1 hR1 HB2 HT2 HT hbl HBB
    obtain ⟨x0, x1, x2, x3, x4, x5, x6⟩ := HK0.out.s7
    go_wp2_with (first
      | (go_at_call 18; refine (format_yes (e := y) k' s' m' u' A' n' c' p' t' _ (HVB.out _ HB3.out) HT0.out hvq hT).mono ?_; rintro x W4 ⟨rfl, hb1⟩; have HK4 := Lib.hid (HK0.out.up hb1 HK0.out.lt); have HT4 := Lib.hid (HT0.out.up hb1); have HB4 := Lib.hid (nxB HB3.out hb1 hbH.out); clear hb1)
      | (go_at_call 15; refine (parse_is _ _ (HVB.out _ HB4.out).1 hx2).mono ?_; rintro x W5 ⟨⟨k2, s2, m2, u2, A2, n2, c2, rfl, ht⟩, hb1⟩; have HK5 := Lib.hid (HK4.out.up hb1 HK4.out.lt); have HT5 := Lib.hid (HT4.out.up hb1); have HJ5 := Lib.hid (Blk.new W5 [.int .i64 k2, .string s2, .int .i64 m2, .int .i64 u2, .slice A2 n2 c2, .int .i64 p', .int .i64 t'] 30 rfl); have HT5b : Hid (TIn (Lo W5.heap.size) W5 ⟨k2, s2, m2, u2, A2, n2, c2⟩ y) := ht; have HB5 := Lib.hid (nxB HB4.out hb1 hbH.out); clear hb1 ht)
      | (go_at_call 10; refine (awake_any _ (HVB.out _ (nxB HB5.out (newB _ _) hbH.out))).mono ?_; rintro x W6 ⟨rfl, hb4⟩; have hk := (HK5.out.grow _).up hb4 (HK5.out.grow _).lt; have hk2 := HJ5.out.up hb4 HJ5.out.lt; clear x0 x1 x2 x3 x4 x5 x6; obtain ⟨x0, x1, x2, x3, x4, x5, x6⟩ := hk.s7; obtain ⟨y0, y1, y2, y3, y4, y5, y6⟩ := hk2.s7; have HT6 := Lib.hid ((HT5.out.grow _).up hb4); have HT6b := Lib.hid ((HT5b.out.grow _).up hb4); have HB6 := Lib.hid (nxB HB5.out (dn1 hb4) hbH.out); have HK6 := Lib.hid hk; have HJ6 := Lib.hid hk2; clear hb4 hk hk2)
      | (go_at_call 13; refine (valid_is (e := y) k' s' m' u' A' n' c' p' t' _ HT6.out hvb).mono ?_; rintro x W7 ⟨rfl, hb7⟩; have hk := HK6.out.up hb7 HK6.out.lt; have hk2 := HJ6.out.up hb7 HJ6.out.lt; clear x0 x1 x2 x3 x4 x5 x6 y0 y1 y2 y3 y4 y5 y6; obtain ⟨x0, x1, x2, x3, x4, x5, x6⟩ := hk.s7; obtain ⟨y0, y1, y2, y3, y4, y5, y6⟩ := hk2.s7; have HT7 := Lib.hid (HT6.out.up hb7); have HT7b := Lib.hid (HT6b.out.up hb7); have HB7 := Lib.hid (nxB HB6.out hb7 hbH.out); clear hb7 hk hk2)
      | (go_at_call 17; refine (sameR_is (e := y) k2 s2 m2 u2 A2 n2 c2 k' s' m' u' A' n' c' p' t' _ HT7b.out HT7.out).mono ?_; rintro x W8 ⟨rfl, hb8⟩; have HB8 := Lib.hid (nxB HB7.out hb8 hbH.out); clear hb8))
    go_ret
    exact ⟨by simp, by rw [hbH.out]; exact HB8.out⟩
  · have hd : decide ((n0 : Int) ≤ 300) = false := decide_eq_false hn
    go_enter Tryz.func7, Tryz.ntmps7
    go_wp2_with (first
      | (go_at_call 22; refine (light_is A0 n0 c0 _).mono ?_; rintro e W1 ⟨rfl, rfl⟩; rw [hd])
      | (go_at_call 10; refine (awake_any _ HV.out).mono ?_; rintro e W2 ⟨rfl, hb2⟩; have HB2 := Lib.hid hb2; clear hb2))
    go_ret
    exact ⟨rfl, HB2.out⟩
end Go.Proofs.YtlokcmbkkfjlkaaGreatDoor
