/- Contracts: the parser's begin, setting, amount. -/
import Derived.Test.YtlokcmbkkfjlkaaGreatDoorRpm
namespace Go.Proofs.YtlokcmbkkfjlkaaGreatDoor
open Go.RowKit
set_option linter.unusedVariables false
set_option linter.unusedSimpArgs false

theorem hd_eta (t : List T4) : hd t = ((hd t).1, (hd t).2.1, (hd t).2.2.1, (hd t).2.2.2) := rfl
set_option maxHeartbeats 2000000 in
set_option maxRecDepth 8000 in
theorem begin_yes (b : Nat) (t : List T4) (n : Nat) (l : List A3) (d : Nat) (w : World) (hp : Ps w b t n l) (h0 : 0 < t.length) (hm : Hid (mayB (hd t) = true)) (hd4 : d ≤ 4) (hn : n + 1 ≤ 24) :
    Calls Tryz.prog 84 #[.pointer (some ⟨b, 0, none⟩), .int .i64 (d : Int)] w fun e w' => e = .returned (.tuple #[]) ∧ Go1 b t (n + 1) l w w' := by
  obtain ⟨V, tb, tq, c, tl, hpv, htl, g0, hfit, hlt, c0, c1, c2, fz, htb, z0, z1, z2, z3⟩ := hp.open_ h0
  have HP := Lib.hid hpv
  obtain ⟨k0, hk0⟩ : ∃ k0, Hid ((hd t).1 = k0) := ⟨_, rfl⟩
  obtain ⟨s0, hs0⟩ : ∃ s0, Hid ((hd t).2.1 = s0) := ⟨_, rfl⟩
  obtain ⟨n0, hn0⟩ : ∃ n0, Hid ((hd t).2.2.1 = n0) := ⟨_, rfl⟩
  obtain ⟨p, hpp⟩ : ∃ p, Hid ((hd t).2.2.2 = p) := ⟨_, rfl⟩
  have hm2 : Hid (mayB (k0, s0, n0, p) = true) := by show _ = _; rw [← hk0.out, ← hs0.out, ← hn0.out, ← hpp.out]; exact hm.out
  rw [hk0.out] at z0
  rw [hs0.out] at z1
  rw [hn0.out] at z2
  rw [hpp.out] at z3
  have e5 : IntKind.i64.wrap ((n : Int) + 1) = (n : Int) + 1 := by rw [IntKind.wrap_i64]; omega
  have q1 : ¬ 4 < (d : Int) := by omega
  have q2 : ¬ 24 < (n : Int) + 1 := by omega
  clear hpv hp h0
  go_enter Tryz.func84, Tryz.ntmps84
  go_wp2_with (go_at_call 108; refine (mayBegin_is _ _ _ _ _ hm2).mono ?_; rintro e W1 ⟨rfl, hb1⟩; have HB1 := Lib.hid (dn1 hb1); have HP1 := HP.out.up (dn1 hb1); clear c0 c1 c2 fz; obtain ⟨g1, c0, c1, c2, fz, -, -, -, -⟩ := HP1; clear hb1)
  go_end0
  have HP2 := (HP.out.up HB1.out).set1 (n + 1) (v := (n : Int) + 1) (by omega)
  exact ⟨rfl, HP2.ps, (Kp.up HB1.out hlt).trans (Kp.set 1 (by decide) _)⟩
set_option maxHeartbeats 2000000 in
set_option maxRecDepth 8000 in
theorem begin_syn (b : Nat) (t : List T4) (n : Nat) (l : List A3) (d : Nat) (w : World) (hp : Ps w b t n l) (h0 : 0 < t.length) (hm : Hid (mayB (hd t) = false)) {p : Int} (hpp : Hid ((hd t).2.2.2 = p)) :
    Calls Tryz.prog 84 #[.pointer (some ⟨b, 0, none⟩), .int .i64 (d : Int)] w fun e w' => e = Pan p 8 ∧ Below b w w' := by
  obtain ⟨V, tb, tq, c, tl, hpv, htl, g0, hfit, hlt, c0, c1, c2, fz, htb, z0, z1, z2, z3⟩ := hp.open_ h0
  obtain ⟨k0, hk0⟩ : ∃ k0, Hid ((hd t).1 = k0) := ⟨_, rfl⟩
  obtain ⟨s0, hs0⟩ : ∃ s0, Hid ((hd t).2.1 = s0) := ⟨_, rfl⟩
  obtain ⟨n0, hn0⟩ : ∃ n0, Hid ((hd t).2.2.1 = n0) := ⟨_, rfl⟩
  have hm2 : Hid (mayB (k0, s0, n0, p) = false) := by show _ = _; rw [← hk0.out, ← hs0.out, ← hn0.out, ← hpp.out]; exact hm.out
  rw [hk0.out] at z0
  rw [hs0.out] at z1
  rw [hn0.out] at z2
  rw [hpp.out] at z3
  clear hpv hp h0
  go_enter Tryz.func84, Tryz.ntmps84
  go_wp2_with (first
    | (go_at_call 108; refine (mayBegin_is _ _ _ _ _ hm2).mono ?_; rintro e W1 ⟨rfl, hb1⟩; obtain ⟨hc1, hf1⟩ := bcell hb1; have HB1 := Lib.hid (dn1 hb1); clear hb1)
    | (go_at_call 89; refine (fail_is _ _ _ _ _ _).mono ?_; rintro e W2 ⟨rfl, hb2⟩; have HB2 := Lib.hid (nx HB1.out hb2); clear hb2))
  exact ⟨rfl, rfl, HB2.out.mono (Nat.le_of_lt hlt)⟩
set_option maxHeartbeats 2000000 in
set_option maxRecDepth 8000 in
theorem begin_many (b : Nat) (t : List T4) (n : Nat) (l : List A3) (d : Nat) (w : World) (hp : Ps w b t n l) (h0 : 0 < t.length) (hm : Hid (mayB (hd t) = true)) (hn : n ≤ 24) (hno : 4 < d ∨ 24 < n + 1) {p : Int} (hpp : Hid ((hd t).2.2.2 = p)) :
    Calls Tryz.prog 84 #[.pointer (some ⟨b, 0, none⟩), .int .i64 (d : Int)] w fun e w' => e = Pan p 4 ∧ Below b w w' := by
  obtain ⟨V, tb, tq, c, tl, hpv, htl, g0, hfit, hlt, c0, c1, c2, fz, htb, z0, z1, z2, z3⟩ := hp.open_ h0
  have HP := Lib.hid hpv
  obtain ⟨k0, hk0⟩ : ∃ k0, Hid ((hd t).1 = k0) := ⟨_, rfl⟩
  obtain ⟨s0, hs0⟩ : ∃ s0, Hid ((hd t).2.1 = s0) := ⟨_, rfl⟩
  obtain ⟨n0, hn0⟩ : ∃ n0, Hid ((hd t).2.2.1 = n0) := ⟨_, rfl⟩
  have hm2 : Hid (mayB (k0, s0, n0, p) = true) := by show _ = _; rw [← hk0.out, ← hs0.out, ← hn0.out, ← hpp.out]; exact hm.out
  rw [hk0.out] at z0
  rw [hs0.out] at z1
  rw [hn0.out] at z2
  rw [hpp.out] at z3
  have e5 : IntKind.i64.wrap ((n : Int) + 1) = (n : Int) + 1 := by rw [IntKind.wrap_i64]; omega
  have k1 : ¬ w.heap.size = b := by omega
  have k2 : ¬ b = w.heap.size := by omega
  clear hpv hp h0
  by_cases h4 : 4 < (d : Int)
  · clear hno
    go_enter Tryz.func84, Tryz.ntmps84
    go_wp2_with (first
      | (go_at_call 108; refine (mayBegin_is _ _ _ _ _ hm2).mono ?_; rintro e W1 ⟨rfl, hb1⟩; have HB1 := Lib.hid (dn1 hb1); have HP1 := HP.out.up (dn1 hb1); clear c0 c1 c2 fz; obtain ⟨g1, c0, c1, c2, fz, -, -, -, -⟩ := HP1; have hk := (Blk.new w [.int .i64 k0, .string s0, .int .i64 n0, .int .i64 p] 53 rfl).up hb1 (by simp); have y0 := hk.cell 0 rfl; have y1 := hk.cell 1 rfl; have y2 := hk.cell 2 rfl; have y3 := hk.cell 3 rfl; clear hb1 hk)
      | (go_at_call 89; refine (fail_is _ _ _ _ _ _).mono ?_; rintro e W2 ⟨rfl, hb2⟩; have HB2 := Lib.hid hb2; clear hb2))
    exact ⟨rfl, rfl, ((HB1.out.mono (Nat.le_of_lt hlt)).setCell (p := ⟨b, 1, none⟩) (Nat.le_refl _) _).trans (HB2.out.mono (by have := HB1.out.size; simp; omega))⟩
  · have q2 : 24 < (n : Int) + 1 := by omega
    clear hno
    go_enter Tryz.func84, Tryz.ntmps84
    go_wp2_with (first
      | (go_at_call 108; refine (mayBegin_is _ _ _ _ _ hm2).mono ?_; rintro e W1 ⟨rfl, hb1⟩; have HB1 := Lib.hid (dn1 hb1); have HP1 := HP.out.up (dn1 hb1); clear c0 c1 c2 fz; obtain ⟨g1, c0, c1, c2, fz, -, -, -, -⟩ := HP1; have hk := (Blk.new w [.int .i64 k0, .string s0, .int .i64 n0, .int .i64 p] 53 rfl).up hb1 (by simp); have y0 := hk.cell 0 rfl; have y1 := hk.cell 1 rfl; have y2 := hk.cell 2 rfl; have y3 := hk.cell 3 rfl; clear hb1 hk)
      | (go_at_call 89; refine (fail_is _ _ _ _ _ _).mono ?_; rintro e W2 ⟨rfl, hb2⟩; have HB2 := Lib.hid hb2; clear hb2))
    exact ⟨rfl, rfl, ((HB1.out.mono (Nat.le_of_lt hlt)).setCell (p := ⟨b, 1, none⟩) (Nat.le_refl _) _).trans (HB2.out.mono (by have := HB1.out.size; simp; omega))⟩
/-- A method's answer: the value with its state, or the panic. -/
def SetP (b n : Nat) (l : List A3) (r : PR Int) (w : World) (e : Ending) (w' : World) : Prop :=
  match r with
  | .ok v t' _ _ => e = .returned (.int .i64 v) ∧ Go1 b t' n l w w'
  | .no p x => e = Pan p x ∧ Below b w w'
set_option maxHeartbeats 4000000 in
set_option maxRecDepth 8000 in
theorem setting_is (b : Nat) (t : List T4) (n : Nat) (l : List A3) (x : ByteArray) (g : Int) (w : World) (hp : Ps w b t n l) (hw : WT t) (hx : ltr (byt x 0) = true) :
    Calls Tryz.prog 57 #[.pointer (some ⟨b, 0, none⟩), .string x, .int .i64 g] w (SetP b n l (pS x g t) w) := by
  have HP := Lib.hid hp
  have hlt := hp.lt
  have h0 : 0 < t.length := by have := hw.ne; cases t with | nil => exact absurd rfl this | cons a r => simp
  clear hp
  unfold pS
  by_cases e1 : (hd t).2.1 = x
  · rw [if_pos e1]
    obtain ⟨w1, w2, w3, w4⟩ := hw.word (by rw [e1]; exact hx)
    have he1 := Lib.hid e1
    have h2 : 0 < t.tail.length := by have := w2.ne; cases hh : t.tail with | nil => exact absurd hh this | cons a r => simp
    have H4 := Lib.hid w4
    have H2 := Lib.hid h2
    by_cases e2 : (hd t.tail).1 = 3
    · rw [if_pos e2]
      have he2 := Lib.hid e2
      obtain ⟨_, w5, w6, w7⟩ := w2.next (by omega)
      have H7 := Lib.hid w7
      obtain ⟨s0, hs0⟩ : ∃ s0, Hid ((hd t.tail).2.1 = s0) := ⟨_, rfl⟩
      obtain ⟨n0, hn0⟩ : ∃ n0, Hid ((hd t.tail).2.2.1 = n0) := ⟨_, rfl⟩
      obtain ⟨p, hpp⟩ : ∃ p, Hid ((hd t.tail).2.2.2 = p) := ⟨_, rfl⟩
      rw [hn0.out, hpp.out]
      by_cases e3 : g < n0
      · rw [if_pos e3]
        clear e1 e2 w1 w2 w3 w4 w5 w6 w7 h0 h2 hw
        go_enter Tryz.func57, Tryz.ntmps57
        go_wp2_with (first
          | (go_at_call 85; refine (skip_yes b t n l x _ HP.out H4.out he1).mono ?_; rintro e W1 ⟨rfl, hs1, hk1⟩; have HS1 := Lib.hid hs1; have HK1 := Lib.hid hk1; clear hs1 hk1)
          | (go_at_call 58; refine (take_yes b t.tail n l 3 _ HS1.out H7.out he2 hs0 hn0 hpp).mono ?_; rintro e W2 ⟨rfl, hs2, hk2⟩; have HS2 := Lib.hid hs2; have HK2 := Lib.hid (HK1.out.trans hk2); clear hs2 hk2)
          | (go_at_call 89; refine (fail_is _ _ _ _ _ _).mono ?_; rintro e W3 ⟨rfl, hb3⟩; have HB3 := Lib.hid hb3; clear hb3))
        exact ⟨rfl, rfl, (HK2.out.below HP.out).trans ((dn1 HB3.out).mono (Nat.le_trans (Nat.le_of_lt hlt) HK2.out.size))⟩
      · rw [if_neg e3]
        clear e1 e2 w1 w2 w3 w4 w5 w6 w7 h0 h2 hw
        go_enter Tryz.func57, Tryz.ntmps57
        go_wp2_with (first
          | (go_at_call 85; refine (skip_yes b t n l x _ HP.out H4.out he1).mono ?_; rintro e W1 ⟨rfl, hs1, hk1⟩; have HS1 := Lib.hid hs1; have HK1 := Lib.hid hk1; clear hs1 hk1)
          | (go_at_call 58; refine (take_yes b t.tail n l 3 _ HS1.out H7.out he2 hs0 hn0 hpp).mono ?_; rintro e W2 ⟨rfl, hs2, hk2⟩; have HS2 := Lib.hid hs2; have HK2 := Lib.hid (HK1.out.trans hk2); clear hs2 hk2))
        go_ret
        exact ⟨rfl, HS2.out.up (newB _ _), HK2.out.trans (Kp.up (newB _ _) HS2.out.lt)⟩
    · rw [if_neg e2]
      have he2 := Lib.hid e2
      obtain ⟨p, hpp⟩ : ∃ p, Hid ((hd t.tail).2.2.2 = p) := ⟨_, rfl⟩
      rw [hpp.out]
      clear e1 e2 w1 w2 w3 w4 h0 h2 hw
      go_enter Tryz.func57, Tryz.ntmps57
      go_wp2_with (first
        | (go_at_call 85; refine (skip_yes b t n l x _ HP.out H4.out he1).mono ?_; rintro e W1 ⟨rfl, hs1, hk1⟩; have HS1 := Lib.hid hs1; have HK1 := Lib.hid hk1; clear hs1 hk1)
        | (go_at_call 58; refine (take_no b t.tail n l 3 _ HS1.out H2.out he2 hpp).mono ?_; rintro e W2 ⟨rfl, hb2⟩; have HB2 := Lib.hid ((HK1.out.below HP.out).trans hb2); clear hb2))
      exact ⟨rfl, rfl, HB2.out⟩
  · rw [if_neg e1]
    have he1 := Lib.hid e1
    have H0 := Lib.hid h0
    clear e1 hw h0
    go_enter Tryz.func57, Tryz.ntmps57
    go_wp2_with (first
      | (go_at_call 85; refine (skip_no b t n l x _ HP.out H0.out he1).mono ?_; rintro e W1 ⟨rfl, rfl⟩))
    go_ret
    exact ⟨rfl, HP.out, Kp.refl _ _⟩
end Go.Proofs.YtlokcmbkkfjlkaaGreatDoor
