/- Contracts of the reference's reader: fail, is, want, option. -/
import Derived.Test.YtlokcmbkkfjlkaaGreatDoorRqs
import Derived.BigRegion
namespace Go.Proofs.YtlokcmbkkfjlkaaGreatDoor.Rdr
open Go.RowKit
set_option linter.unusedVariables false
set_option linter.unusedSimpArgs false

/-- What a walk wants of the reader's box and the token at which it stands. -/
theorem Ps.open_ {w : World} {b : Nat} {t : List T4} {n : Nat} {l : List A3} (h : Ps w b t n l) (h0 : 0 < t.length) :
    ∃ j V tb tq c tl, RsV w b j t n l V tb tq c ∧ Hid (j + t.length = tl) ∧ (j : Int) < (tl : Int) ∧ tl ≤ c ∧ tl ≤ 100000 ∧ b < w.heap.size ∧ w.cell? ⟨b, 0, none⟩ = some (.slice (some ⟨tb, tq, none⟩) tl c) ∧ w.cell? ⟨b, 1, none⟩ = some (.int .i64 (j : Int)) ∧ w.cell? ⟨b, 2, none⟩ = some (.int .i64 (n : Int)) ∧ w.cell? ⟨b, 3, none⟩ = some V ∧ w.cell? ⟨b, 4, none⟩ = some (.int .i64 0) ∧ w.cell? ⟨b, 5, none⟩ = some (.int .i64 0) ∧ (∀ o, w.frozen? ⟨b, o, none⟩ = false) ∧ tb < w.heap.size ∧
      w.cell? ⟨tb, tq + j * 4, none⟩ = some (.int .i64 (hd t).1) ∧ w.cell? ⟨tb, tq + j * 4 + 1, none⟩ = some (.string (hd t).2.1) ∧ w.cell? ⟨tb, tq + j * 4 + 2, none⟩ = some (.int .i64 (hd t).2.2.1) ∧ w.cell? ⟨tb, tq + j * 4 + 3, none⟩ = some (.int .i64 (hd t).2.2.2) := by
  obtain ⟨j, V, tb, tq, c, hp⟩ := h
  obtain ⟨z0, z1, z2, z3⟩ := hp.tok 0 h0
  have e : t.getD 0 default = hd t := by cases t with | nil => simp at h0 | cons a r => rfl
  rw [e] at z0 z1 z2 z3
  simp only [Nat.add_zero] at z0 z1 z2 z3
  exact ⟨j, V, tb, tq, c, _, hp, rfl, by omega, hp.fit, hp.small, hp.lt, hp.c0, hp.c1, hp.c2, hp.c3, hp.c4, hp.c5, hp.fz, Nat.lt_trans hp.tlt hp.lt, z0, z1, z2, z3⟩
def Go1 (b : Nat) (t : List T4) (n : Nat) (l : List A3) (w w' : World) : Prop := Ps w' b t n l ∧ Kp b w w'
/-- The box has no error yet. -/
structure RF (w : World) (b : Nat) : Prop where
  lt : b < w.heap.size
  c4 : w.cell? ⟨b, 4, none⟩ = some (.int .i64 0)
  c5 : w.cell? ⟨b, 5, none⟩ = some (.int .i64 0)
  fz : ∀ o, w.frozen? ⟨b, o, none⟩ = false
theorem RsV.rf {w : World} {b j : Nat} {t : List T4} {n : Nat} {l : List A3} {V : Value} {tb tq c : Nat} (h : RsV w b j t n l V tb tq c) : RF w b := ⟨h.lt, h.c4, h.c5, h.fz⟩
theorem Ps.rf {w : World} {b : Nat} {t : List T4} {n : Nat} {l : List A3} (h : Ps w b t n l) : RF w b := by
  obtain ⟨j, V, tb, tq, c, h⟩ := h
  exact h.rf
theorem RF.up {w w' : World} {b : Nat} (h : RF w b) (hb : Below w.heap.size w w') : RF w' b := by
  have e := hb.block b h.lt
  exact ⟨Nat.lt_of_lt_of_le h.lt hb.size, (cell_of_block e _).trans h.c4, (cell_of_block e _).trans h.c5, fun o => (frozen_of_block e o).trans (h.fz o)⟩
/-- What a method leaves behind an error. -/
def Er (b : Nat) (p e : Int) (w w' : World) : Prop := RE w' b p e ∧ Kp b w w'
theorem fail_is (b : Nat) (p e : Int) (w : World) (h : RF w b) (he : Hid (e ≠ 0)) :
    Calls Tryz.prog 38 #[.pointer (some ⟨b, 0, none⟩), .int .i64 p, .int .i64 e] w fun x w' => x = .returned (.tuple #[]) ∧ Er b p e w w' := by
  obtain ⟨h0, h4, h5, hf⟩ := h
  have hlt := Lib.hid h0
  have H4 := Lib.hid h4
  have H5 := Lib.hid h5
  have HF := Lib.hid hf
  go_enter Tryz.func38, Tryz.ntmps38
  go_wp2
  go_end0
  refine ⟨rfl, ⟨by simpa using hlt.out, ?_, ?_, he.out⟩, (Kp.set 4 (by decide) _).trans (Kp.set 5 (by decide) _)⟩
  · simp [go_sem, H4.out, H5.out]
  · simp [go_sem, H4.out, H5.out]
def tkIs (h : T4) (k : Int) (x : ByteArray) : Bool := decide (h.1 = k) && eqS h.2.1 x
set_option maxHeartbeats 2000000 in
set_option maxRecDepth 8000 in
theorem is_is (b : Nat) (t : List T4) (n : Nat) (l : List A3) (k : Int) (x : ByteArray) (w : World) (hp : Ps w b t n l) (h0 : 0 < t.length) {r : Bool} (hr : Hid (tkIs (hd t) k x = r)) :
    Calls Tryz.prog 62 #[.pointer (some ⟨b, 0, none⟩), .int .i64 k, .string x] w fun e w' => e = .returned (.bool r) ∧ Below w.heap.size w w' := by
  obtain ⟨j, V, tb, tq, c, tl, hpv, htl, g0, hfit, hsm, hlt, c0, c1, c2, c3, c4, c5, fz, htb, z0, z1, z2, z3⟩ := hp.open_ h0
  obtain ⟨k0, hk0⟩ : ∃ k0, Hid ((hd t).1 = k0) := ⟨_, rfl⟩
  obtain ⟨s0, hs0⟩ : ∃ s0, Hid ((hd t).2.1 = s0) := ⟨_, rfl⟩
  have hend : Hid (r = (decide (k0 = k) && eqS s0 x)) := by show _ = _; rw [← hr.out, ← hk0.out, ← hs0.out]; rfl
  rw [hk0.out] at z0
  rw [hs0.out] at z1
  obtain ⟨n0, hn0⟩ : ∃ n0, Hid ((hd t).2.2.1 = n0) := ⟨_, rfl⟩
  obtain ⟨p0, hp0⟩ : ∃ p0, Hid ((hd t).2.2.2 = p0) := ⟨_, rfl⟩
  rw [hn0.out] at z2
  rw [hp0.out] at z3
  clear hpv hp h0 c2 c3 c4 c5 hr hk0 hs0 hn0 hp0 htl
  by_cases hk : k0 = k
  · have b1 : (k0 == k) = true := by rw [beq_iff_eq]; exact hk
    have he2 : Hid (r = eqS s0 x) := by show _ = _; rw [hend.out, decide_eq_true hk]; rfl
    clear hk hend
    cases hx : eqS s0 x with
    | false =>
      have b2 : (s0.toList == x.toList) = false := hx
      rw [hx] at he2
      go_enter Tryz.func62, Tryz.ntmps62
      go_wp2
      go_region
      all_goals (go_wp2; go_ret; exact ⟨ret_bool he2.out.symm, by first | exact nxA (bdD (Below.refl _ _)) _ | exact bdD (newB _ _)⟩)
    | true =>
      have b2 : (s0.toList == x.toList) = true := hx
      rw [hx] at he2
      go_enter Tryz.func62, Tryz.ntmps62
      go_wp2
      go_region
      all_goals (go_wp2; go_ret; exact ⟨ret_bool he2.out.symm, by first | exact nxA (bdD (Below.refl _ _)) _ | exact bdD (newB _ _)⟩)
  · have b1 : (k0 == k) = false := by rw [beq_eq_false_iff_ne]; exact hk
    have he2 : Hid (r = false) := by show _ = _; rw [hend.out, decide_eq_false hk]; rfl
    clear hk hend
    go_enter Tryz.func62, Tryz.ntmps62
    go_wp2
    go_region
    all_goals (go_wp2; go_ret; exact ⟨ret_bool he2.out.symm, by first | exact nxA (bdD (Below.refl _ _)) _ | exact bdD (newB _ _)⟩)
set_option maxHeartbeats 2000000 in
set_option maxRecDepth 8000 in
theorem want_yes (b : Nat) (t : List T4) (n : Nat) (l : List A3) (k : Int) (x : ByteArray) (w : World) (hp : Ps w b t n l) (h0 : 0 < t.length) (hr : Hid (tkIs (hd t) k x = true)) :
    Calls Tryz.prog 61 #[.pointer (some ⟨b, 0, none⟩), .int .i64 k, .string x] w fun e w' => e = .returned (.tuple #[]) ∧ Go1 b t.tail n l w w' := by
  obtain ⟨j, V, tb, tq, c, tl, hpv, htl, g0, hfit, hsm, hlt, c0, c1, c2, c3, c4, c5, fz, htb, z0, z1, z2, z3⟩ := hp.open_ h0
  have HP := Lib.hid hp
  have HPV := Lib.hid hpv
  have H0 := Lib.hid h0
  have e5 : IntKind.i64.wrap ((j : Int) + 1) = (j : Int) + 1 := by rw [IntKind.wrap_i64]; omega
  clear hpv hp h0 c0 c2 c3 c5 z0 z1 z2 z3 htl htb
  go_enter Tryz.func61, Tryz.ntmps61
  go_wp2_with (go_at_call 62; refine (is_is b t n l k x _ HP.out H0.out hr).mono ?_; rintro e W1 ⟨rfl, hb1⟩; have hv := HPV.out.up hb1; clear c1 c4 fz; have c1 := hv.c1; have c4 := hv.c4; have fz := hv.fz; have HV1 := Lib.hid hv; have HB1 := Lib.hid hb1; clear hb1 hv)
  go_end0
  exact ⟨rfl, (HV1.out.adv H0.out (by omega)).ps, (Kp.up HB1.out hlt).trans (Kp.set 1 (by decide) _)⟩
set_option maxHeartbeats 2000000 in
set_option maxRecDepth 8000 in
theorem want_no (b : Nat) (t : List T4) (n : Nat) (l : List A3) (k : Int) (x : ByteArray) (w : World) (hp : Ps w b t n l) (h0 : 0 < t.length) (hr : Hid (tkIs (hd t) k x = false)) {p : Int} (hpp : Hid ((hd t).2.2.2 = p)) :
    Calls Tryz.prog 61 #[.pointer (some ⟨b, 0, none⟩), .int .i64 k, .string x] w fun e w' => e = .returned (.tuple #[]) ∧ Er b p 8 w w' := by
  obtain ⟨j, V, tb, tq, c, tl, hpv, htl, g0, hfit, hsm, hlt, c0, c1, c2, c3, c4, c5, fz, htb, z0, z1, z2, z3⟩ := hp.open_ h0
  have HP := Lib.hid hp
  have H0 := Lib.hid h0
  have h8 : Hid ((8 : Int) ≠ 0) := by show _ ≠ _; decide
  have hlt' := Lib.hid hlt
  clear hpv hp h0 c2 c3 c5 z0 z1 z2 z3 htl htb
  go_enter Tryz.func61, Tryz.ntmps61
  go_wp2_with (go_at_call 62; refine (is_is b t n l k x _ HP.out H0.out hr).mono ?_; rintro e W1 ⟨rfl, hb1⟩; have hv := HP.out.up hb1; have HV1 := Lib.hid hv; have HB1 := Lib.hid hb1; clear hb1 hv)
  clear g0 hfit hsm c0 c1 c4 fz hlt
  obtain ⟨j, V, tb, tq, c, tl, hpv, htl, g0, hfit, hsm, hlt, c0, c1, c2, c3, c4, c5, fz, htb, z0, z1, z2, z3⟩ := HV1.out.open_ H0.out
  rw [hpp.out] at z3
  clear hpv htl c2 c3 c4 c5 z0 z1 z2
  go_region_with (go_at_call 38; refine (fail_is b p 8 _ (RF.up HV1.out.rf (bdD (Below.refl _ _))) h8).mono ?_; rintro e W2 ⟨rfl, he2, hk2⟩; have HE2 := Lib.hid he2; have HK2 : Hid (Kp b W1 W2) := (Kp.up (bdD (Below.refl _ _)) HV1.out.lt).trans hk2; clear he2 hk2)
  all_goals (
    go_wp2
    ((try simp only [Exit.inBlock, Exit.then]); refine bodyPost_ret (results_none rfl _ _ _) rfl ?_)
    exact ⟨rfl, HE2.out, (Kp.up HB1.out hlt'.out).trans HK2.out⟩)
theorem want_skip (b : Nat) (k : Int) (x : ByteArray) (w : World) {p e : Int} (he : Hid (RE w b p e)) :
    Calls Tryz.prog 61 #[.pointer (some ⟨b, 0, none⟩), .int .i64 k, .string x] w fun x w' => x = .returned (.tuple #[]) ∧ w = w' := by
  have c4 := he.out.c4
  have hlt := he.out.lt
  have b1 : (e != 0) = true := by rw [bne_iff_ne]; exact he.out.ne
  have b2 : (e == 0) = false := by rw [beq_eq_false_iff_ne]; exact he.out.ne
  go_enter Tryz.func61, Tryz.ntmps61
  go_wp2
  ((try simp only [Exit.inBlock, Exit.then]); refine bodyPost_ret (results_none rfl _ _ _) rfl ?_)
  exact ⟨rfl, rfl⟩
/-- What option answers. -/
def OptP (b n : Nat) (l : List A3) (r : PR Int) (w : World) (e : Ending) (w' : World) : Prop :=
  match r with
  | .ok v t' _ _ => e = .returned (.int .i64 v) ∧ Go1 b t' n l w w'
  | .no p x => (∃ v, e = .returned (.int .i64 v)) ∧ Er b p x w w'
theorem opt_skip (b : Nat) (x : ByteArray) (g : Int) (w : World) {p e : Int} (he : Hid (RE w b p e)) :
    Calls Tryz.prog 37 #[.pointer (some ⟨b, 0, none⟩), .string x, .int .i64 g] w fun x w' => x = .returned (.int .i64 0) ∧ w = w' := by
  have c4 := he.out.c4
  have hlt := he.out.lt
  have b1 : (e != 0) = true := by rw [bne_iff_ne]; exact he.out.ne
  have b2 : (e == 0) = false := by rw [beq_eq_false_iff_ne]; exact he.out.ne
  go_enter Tryz.func37, Tryz.ntmps37
  go_wp2
  go_ret
  exact ⟨rfl, rfl⟩
theorem tkIs_yes {h : T4} {k : Int} {x : ByteArray} (h1 : h.1 = k) (h2 : h.2.1 = x) : tkIs h k x = true := by unfold tkIs; rw [h1, h2, eqS_iff.2 rfl]; simp
theorem tkIs_no {h : T4} {k : Int} {x : ByteArray} (h2 : h.2.1 ≠ x) : tkIs h k x = false := by
  unfold tkIs
  cases he : eqS h.2.1 x with
  | false => simp
  | true => exact absurd (eqS_iff.1 he) h2
set_option maxHeartbeats 8000000 in
set_option maxRecDepth 100000 in
theorem option_is (b : Nat) (t : List T4) (n : Nat) (l : List A3) (x : ByteArray) (g : Int) (w : World) (hp : Ps w b t n l) (hw : WT t) (hx : ltr (byt x 0) = true) :
    Calls Tryz.prog 37 #[.pointer (some ⟨b, 0, none⟩), .string x, .int .i64 g] w (OptP b n l (pS x g t) w) := by
  have HP := Lib.hid hp
  have hlt := hp.lt
  have h0 : 0 < t.length := by have := hw.ne; cases t with | nil => exact absurd rfl this | cons a r => simp
  obtain ⟨j, V, tb, tq, c, tl, hpv, htl, g0, hfit, hsm, -, c0, c1, c2, c3, c4, c5, fz, htb, z0, z1, z2, z3⟩ := hp.open_ h0
  have HPV := Lib.hid hpv
  have H0 := Lib.hid h0
  clear hp hpv z0 z1 z2 z3 c2 c3 c5
  unfold pS
  by_cases e1 : (hd t).2.1 = x
  · rw [if_pos e1]
    obtain ⟨w1, w2, w3, w4⟩ := hw.word (by rw [e1]; exact hx)
    have hr := Lib.hid (tkIs_yes w1 e1)
    have h2 : 0 < t.tail.length := by have := w2.ne; cases hh : t.tail with | nil => exact absurd hh this | cons a r => simp
    have H2 := Lib.hid h2
    have HW2 := Lib.hid w2
    have e5 : IntKind.i64.wrap ((j : Int) + 1) = (j : Int) + 1 := by rw [IntKind.wrap_i64]; omega
    obtain ⟨k0, hk0⟩ : ∃ k0, Hid ((hd t.tail).1 = k0) := ⟨_, rfl⟩
    obtain ⟨s0, hs0⟩ : ∃ s0, Hid ((hd t.tail).2.1 = s0) := ⟨_, rfl⟩
    obtain ⟨n0, hn0⟩ : ∃ n0, Hid ((hd t.tail).2.2.1 = n0) := ⟨_, rfl⟩
    obtain ⟨p0, hpp⟩ : ∃ p0, Hid ((hd t.tail).2.2.2 = p0) := ⟨_, rfl⟩
    obtain ⟨R, hR⟩ : ∃ R, Hid ((if (hd t.tail).1 = 3 then if g < (hd t.tail).2.2.1 then PR.no (hd t.tail).2.2.2 1 else .ok (hd t.tail).2.2.1 t.tail.tail 0 [] else PR.no (hd t.tail).2.2.2 8) = R) := ⟨_, rfl⟩
    rw [hR.out]
    rw [hk0.out, hn0.out, hpp.out] at hR
    have h8 : Hid ((8 : Int) ≠ 0) := by show _ ≠ _; decide
    have h1' : Hid ((1 : Int) ≠ 0) := by show _ ≠ _; decide
    have hj1 : (j : Int) + 1 = ((j + 1 : Nat) : Int) := by omega
    have HJ1 := Lib.hid hj1
    clear e1 w1 w2 w3 w4 h0 h2 hw hj1
    go_enter Tryz.func37, Tryz.ntmps37
    go_upto_region 4 with (go_at_call 62; refine (is_is b t n l 1 x _ HP.out H0.out hr).mono ?_; rintro e W1 ⟨rfl, hb1⟩; have hv := HPV.out.up hb1; clear c0 c1 c4 fz; have c1 := hv.c1; have c4 := hv.c4; have fz := hv.fz; have HV1 := Lib.hid hv; have HB1 := Lib.hid hb1; clear hb1 hv)
    have HG : Hid (Go1 b t.tail n l w (W1.setCell ⟨b, 1, none⟩ (.int .i64 ((j : Int) + 1)))) := ⟨(HV1.out.adv H0.out (by omega)).ps, (Kp.up HB1.out hlt).trans (Kp.set 1 (by decide) _)⟩
    generalize W1.setCell ⟨b, 1, none⟩ (.int .i64 ((j : Int) + 1)) = wx at HG ⊢
    clear c1 c4 fz htb g0 hfit hsm hlt e5 htl
    obtain ⟨j2, V2, tb2, tq2, c2, tl2, hpv2, htl2, g0, hfit, hsm, hlt, c0, c1, -, -, c4, c5, fz, htb, z0, z1, z2, z3⟩ := HG.out.1.open_ H2.out
    rw [hk0.out] at z0
    rw [hs0.out] at z1
    rw [hn0.out] at z2
    rw [hpp.out] at z3
    have HPV2 := Lib.hid hpv2
    have e5 : IntKind.i64.wrap ((j2 : Int) + 1) = (j2 : Int) + 1 := by rw [IntKind.wrap_i64]; omega
    have hne1 : ¬ wx.heap.size = b := by omega
    have hne2 : ¬ b = wx.heap.size := by omega
    clear hpv2 htl2
    have HV3 : Hid (RsV (wx.setCell ⟨b, 1, none⟩ (.int .i64 ((j2 : Int) + 1))) b (j2 + 1) t.tail.tail n l V2 tb2 tq2 c2) := HPV2.out.adv H2.out rfl
    have HK3 : Hid (Kp b wx (wx.setCell ⟨b, 1, none⟩ (.int .i64 ((j2 : Int) + 1)))) := Kp.set 1 (by decide) _
    by_cases hk3 : k0 = 3
    · have b3 : (k0 != 3) = false := by rw [bne_eq_false_iff_eq]; exact hk3
      have b4 : (k0 == 3) = true := by rw [beq_iff_eq]; exact hk3
      by_cases hg : g < n0
      · have hend : Hid (R = .no p0 1) := by show _ = _; rw [← hR.out, if_pos hk3, if_pos hg]
        have HBX : Hid (Bx (((wx.setCell ⟨b, 1, none⟩ (.int .i64 ((j2 : Int) + 1))).alloc (.cells #[.int .i64 k0, .string s0, .int .i64 n0, .int .i64 p0] 53)).drew) b wx.heap.size [.int .i64 k0, .string s0, .int .i64 n0, .int .i64 p0]) := by
          have := Bx.new HV3.out.ps [.int .i64 k0, .string s0, .int .i64 n0, .int .i64 p0] 53
          rw [show (wx.setCell ⟨b, 1, none⟩ (.int .i64 ((j2 : Int) + 1))).heap.size = wx.heap.size by simp] at this
          exact this
        clear hk3 hR
        go_region
        all_goals (
          go_wp2_with (go_at_call 38; refine (fail_is b p0 1 _ (HV3.out.rf.up (bdD (newB _ _))) h1').mono ?_; rintro e W2 ⟨rfl, he2, hk2⟩; have HE2 := Lib.hid he2; have HK2 : Hid (Kp b wx W2) := (HK3.out.trans (Kp.up (bdD (newB _ _)) HV3.out.lt)).trans hk2; have hbx := HBX.out.kp hk2; have y2 := hbx.1.cell 2 rfl; have y3 := hbx.1.lt; clear he2 hk2 hbx)
          go_ret
          have e := hend.out
          subst e
          exact ⟨⟨_, rfl⟩, HE2.out, HG.out.2.trans HK2.out⟩)
      · have hend : Hid (R = .ok n0 t.tail.tail 0 []) := by show _ = _; rw [← hR.out, if_pos hk3, if_neg hg]
        clear hk3 hR
        go_region
        all_goals (
          go_wp2
          go_ret
          have e := hend.out
          subst e
          exact ⟨rfl, (HV3.out.up (bdD (newB _ _))).ps, HG.out.2.trans (HK3.out.trans (Kp.up (bdD (newB _ _)) HV3.out.lt))⟩)
    · have hend : Hid (R = .no p0 8) := by show _ = _; rw [← hR.out, if_neg hk3]
      have b3 : (k0 != 3) = true := by rw [bne_iff_ne]; exact hk3
      have b4 : (k0 == 3) = false := by rw [beq_eq_false_iff_ne]; exact hk3
      clear hk3 hR
      go_region
      all_goals (
        go_wp2_with (go_at_call 38; refine (fail_is b p0 8 _ (HPV2.out.up (by first | exact nxA (bdD (Below.refl _ _)) _ | exact bdD (newB _ _))).rf h8).mono ?_; rintro e W2 ⟨rfl, he2, hk2⟩; have HE2 := Lib.hid he2; have HK2 : Hid (Kp b wx W2) := (Kp.up (by first | exact nxA (bdD (Below.refl _ _)) _ | exact bdD (newB _ _)) HPV2.out.lt).trans hk2; clear he2 hk2)
        go_ret
        have e := hend.out
        subst e
        exact ⟨⟨_, rfl⟩, HE2.out, HG.out.2.trans HK2.out⟩)
  · rw [if_neg e1]
    have hr := Lib.hid (tkIs_no (k := 1) e1)
    clear e1 hw h0
    go_enter Tryz.func37, Tryz.ntmps37
    go_wp2_with (go_at_call 62; refine (is_is b t n l 1 x _ HP.out H0.out hr).mono ?_; rintro e W1 ⟨rfl, hb1⟩; have HB1 := Lib.hid hb1; clear hb1)
    go_ret
    exact ⟨rfl, HP.out.up HB1.out, Kp.up HB1.out hlt⟩
end Go.Proofs.YtlokcmbkkfjlkaaGreatDoor.Rdr
