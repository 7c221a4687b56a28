/- Contracts: the parser's skip, must, take, mayBegin, begin, setting. Contracts: the parser's begin, setting, amount. Contract: the parser's amount. -/
import Derived.Test.YtlokcmbkkfjlkaaGreatDoorRps
namespace Go.Proofs.YtlokcmbkkfjlkaaGreatDoor
open Go.RowKit
set_option linter.unusedVariables false
set_option linter.unusedSimpArgs false

/-- What a walk wants of the parser's box and its first token. -/
theorem Ps.open_ {w : World} {b : Nat} {t : List T4} {n : Nat} {l : List A3} (h : Ps w b t n l) (h0 : 0 < t.length) :
    ∃ V tb tq c tl, PsV w b t n l V tb tq c ∧ Hid (t.length = tl) ∧ 0 < tl ∧ tl ≤ c ∧ b < w.heap.size ∧ w.cell? ⟨b, 0, none⟩ = some (.slice (some ⟨tb, tq, none⟩) tl c) ∧ w.cell? ⟨b, 1, none⟩ = some (.int .i64 (n : Int)) ∧ w.cell? ⟨b, 2, none⟩ = some V ∧ (∀ o, w.frozen? ⟨b, o, none⟩ = false) ∧ tb < w.heap.size ∧
      w.cell? ⟨tb, tq, none⟩ = some (.int .i64 (hd t).1) ∧ w.cell? ⟨tb, tq + 1, none⟩ = some (.string (hd t).2.1) ∧ w.cell? ⟨tb, tq + 2, none⟩ = some (.int .i64 (hd t).2.2.1) ∧ w.cell? ⟨tb, tq + 3, none⟩ = some (.int .i64 (hd t).2.2.2) := by
  obtain ⟨V, tb, tq, c, hp⟩ := h
  obtain ⟨z0, z1, z2, z3⟩ := hp.tok 0 h0
  have e : t.getD 0 default = hd t := by cases t with | nil => simp at h0 | cons a r => rfl
  rw [e] at z0 z1 z2 z3
  simp only [Nat.zero_mul, Nat.add_zero] at z0 z1 z2 z3
  exact ⟨V, tb, tq, c, _, hp, rfl, h0, hp.fit, hp.lt, hp.c0, hp.c1, hp.c2, hp.fz, Nat.lt_trans hp.tlt hp.lt, z0, z1, z2, z3⟩
theorem PsV.ps {w : World} {b : Nat} {t : List T4} {n : Nat} {l : List A3} {V : Value} {tb tq c : Nat} (h : PsV w b t n l V tb tq c) : Ps w b t n l := ⟨V, tb, tq, c, h⟩
/-- What a method leaves where all is well. -/
def Go1 (b : Nat) (t : List T4) (n : Nat) (l : List A3) (w w' : World) : Prop := Ps w' b t n l ∧ Kp b w w'
set_option maxHeartbeats 1000000 in
theorem skip_no (b : Nat) (t : List T4) (n : Nat) (l : List A3) (x : ByteArray) (w : World) (hp : Ps w b t n l) (h0 : 0 < t.length) (hx : Hid ((hd t).2.1 ≠ x)) :
    Calls Tryz.prog 85 #[.pointer (some ⟨b, 0, none⟩), .string x] w fun e w' => e = .returned (.bool false) ∧ w = w' := by
  obtain ⟨V, tb, tq, c, tl, hpv, htl, g0, hfit, hlt, c0, c1, c2, fz, htb, z0, z1, z2, z3⟩ := hp.open_ h0
  obtain ⟨s0, hs0⟩ : ∃ s0, Hid ((hd t).2.1 = s0) := ⟨_, rfl⟩
  rw [hs0.out] at z1
  have he : (s0.toList == x.toList) = false := eqS_no.2 (by rw [← hs0.out]; exact hx.out)
  clear hpv hp z0 z2 z3 h0
  go_enter Tryz.func85, Tryz.ntmps85
  go_wp2
  go_ret
  exact ⟨rfl, rfl⟩
set_option maxHeartbeats 1000000 in
theorem skip_yes (b : Nat) (t : List T4) (n : Nat) (l : List A3) (x : ByteArray) (w : World) (hp : Ps w b t n l) (h1 : 1 < t.length) (hx : Hid ((hd t).2.1 = x)) :
    Calls Tryz.prog 85 #[.pointer (some ⟨b, 0, none⟩), .string x] w fun e w' => e = .returned (.bool true) ∧ Go1 b t.tail n l w w' := by
  obtain ⟨V, tb, tq, c, tl, hpv, htl, g0, hfit, hlt, c0, c1, c2, fz, htb, z0, z1, z2, z3⟩ := hp.open_ (by omega)
  have HP := Lib.hid hpv
  have htl1 : 1 < tl := by have := htl.out; omega
  have hc1 : ¬ c = 1 := by omega
  have h1t := Lib.hid h1
  rw [hx.out] at z1
  clear hpv hp z0 z2 z3 h1 hx
  go_enter Tryz.func85, Tryz.ntmps85
  go_wp2
  go_ret
  exact ⟨rfl, (HP.out.adv h1t.out (by have := htl.out; omega) (by omega)).ps, Kp.set 0 (by decide) _⟩
set_option maxHeartbeats 1000000 in
theorem must_no (b : Nat) (t : List T4) (n : Nat) (l : List A3) (x : ByteArray) (w : World) (hp : Ps w b t n l) (h0 : 0 < t.length) (hx : Hid ((hd t).2.1 ≠ x)) {p : Int} (hpp : Hid ((hd t).2.2.2 = p)) :
    Calls Tryz.prog 109 #[.pointer (some ⟨b, 0, none⟩), .string x] w fun e w' => e = Pan p 8 ∧ Below b w w' := by
  obtain ⟨V, tb, tq, c, tl, hpv, htl, g0, hfit, hlt, c0, c1, c2, fz, htb, z0, z1, z2, z3⟩ := hp.open_ h0
  have HP := Lib.hid hp
  have h0' := Lib.hid h0
  obtain ⟨k0, hk0⟩ : ∃ k0, Hid ((hd t).1 = k0) := ⟨_, rfl⟩
  obtain ⟨s0, hs0⟩ : ∃ s0, Hid ((hd t).2.1 = s0) := ⟨_, rfl⟩
  obtain ⟨n0, hn0⟩ : ∃ n0, Hid ((hd t).2.2.1 = n0) := ⟨_, rfl⟩
  rw [hk0.out] at z0
  rw [hs0.out] at z1
  rw [hn0.out] at z2
  rw [hpp.out] at z3
  clear hpv hp h0
  go_enter Tryz.func109, Tryz.ntmps109
  go_wp2_with (first
    | (go_at_call 85; refine (skip_no b t n l x _ (HP.out.up (newB w _)) h0'.out hx).mono ?_; rintro e W1 ⟨rfl, rfl⟩)
    | (go_at_call 89; refine (fail_is _ _ _ _ _ _).mono ?_; rintro e W2 ⟨rfl, hb2⟩; have HB2 := Lib.hid (nx (newB w _) hb2); clear hb2))
  exact ⟨rfl, rfl, HB2.out.mono (Nat.le_of_lt hlt)⟩
set_option maxHeartbeats 1000000 in
theorem must_yes (b : Nat) (t : List T4) (n : Nat) (l : List A3) (x : ByteArray) (w : World) (hp : Ps w b t n l) (h1 : 1 < t.length) (hx : Hid ((hd t).2.1 = x)) :
    Calls Tryz.prog 109 #[.pointer (some ⟨b, 0, none⟩), .string x] w fun e w' => e = .returned (.tuple #[]) ∧ Go1 b t.tail n l w w' := by
  obtain ⟨V, tb, tq, c, tl, hpv, htl, g0, hfit, hlt, c0, c1, c2, fz, htb, z0, z1, z2, z3⟩ := hp.open_ (by omega)
  have HP := Lib.hid hp
  have h1' := Lib.hid h1
  have hlt' := Lib.hid hlt
  clear hpv hp h1
  go_enter Tryz.func109, Tryz.ntmps109
  go_wp2_with (first
    | (go_at_call 85; refine (skip_yes b t n l x _ (HP.out.up (newB w _)) h1'.out hx).mono ?_; rintro e W1 ⟨rfl, hs1, hk1⟩; have HS1 := Lib.hid hs1; have HK1 := Lib.hid ((Kp.up (newB w _) hlt'.out).trans hk1); clear hs1 hk1))
  go_end0
  exact ⟨rfl, HS1.out, HK1.out⟩
/-- A token as a value. -/
abbrev tkv (r : T4) : Value := tk r.1 r.2.1 r.2.2.1 r.2.2.2
set_option maxHeartbeats 1000000 in
theorem take_no (b : Nat) (t : List T4) (n : Nat) (l : List A3) (k : Int) (w : World) (hp : Ps w b t n l) (h0 : 0 < t.length) (hx : Hid ((hd t).1 ≠ k)) {p : Int} (hpp : Hid ((hd t).2.2.2 = p)) :
    Calls Tryz.prog 58 #[.pointer (some ⟨b, 0, none⟩), .int .i64 k] w fun e w' => e = Pan p 8 ∧ Below b w w' := by
  obtain ⟨V, tb, tq, c, tl, hpv, htl, g0, hfit, hlt, c0, c1, c2, fz, htb, z0, z1, z2, z3⟩ := hp.open_ h0
  obtain ⟨k0, hk0⟩ : ∃ k0, Hid ((hd t).1 = k0) := ⟨_, rfl⟩
  obtain ⟨s0, hs0⟩ : ∃ s0, Hid ((hd t).2.1 = s0) := ⟨_, rfl⟩
  obtain ⟨n0, hn0⟩ : ∃ n0, Hid ((hd t).2.2.1 = n0) := ⟨_, rfl⟩
  rw [hk0.out] at z0 hx
  rw [hs0.out] at z1
  rw [hn0.out] at z2
  rw [hpp.out] at z3
  have b1 : (k0 == k) = false := by rw [beq_eq_false_iff_ne]; exact hx.out
  have b2 : (k0 != k) = true := by rw [bne_iff_ne]; exact hx.out
  clear hpv hp h0
  go_enter Tryz.func58, Tryz.ntmps58
  go_wp2_with (first
    | (go_at_call 89; refine (fail_is _ _ _ _ _ _).mono ?_; rintro e W2 ⟨rfl, hb2⟩; have HB2 := Lib.hid (nx (new2 w _ _) hb2); clear hb2))
  exact ⟨rfl, rfl, HB2.out.mono (Nat.le_of_lt hlt)⟩
set_option maxHeartbeats 2000000 in
set_option maxRecDepth 8000 in
theorem take_yes (b : Nat) (t : List T4) (n : Nat) (l : List A3) (k : Int) (w : World) (hp : Ps w b t n l) (h1 : 1 < t.length) (hx : Hid ((hd t).1 = k)) {s0 : ByteArray} {n0 p : Int} (hs0 : Hid ((hd t).2.1 = s0)) (hn0 : Hid ((hd t).2.2.1 = n0)) (hpp : Hid ((hd t).2.2.2 = p)) :
    Calls Tryz.prog 58 #[.pointer (some ⟨b, 0, none⟩), .int .i64 k] w fun e w' => e = .returned (tk k s0 n0 p) ∧ Go1 b t.tail n l w w' := by
  obtain ⟨V, tb, tq, c, tl, hpv, htl, g0, hfit, hlt, c0, c1, c2, fz, htb, z0, z1, z2, z3⟩ := hp.open_ (by omega)
  have HP := Lib.hid hpv
  have htl1 : 1 < tl := by have := htl.out; omega
  have hc1 : ¬ c = 1 := by omega
  have h1t := Lib.hid h1
  rw [hx.out] at z0
  rw [hs0.out] at z1
  rw [hn0.out] at z2
  rw [hpp.out] at z3
  have hbk : ¬ b = w.heap.size := by omega
  have hbk2 : ¬ w.heap.size = b := by omega
  clear hpv hp h1
  go_enter Tryz.func58, Tryz.ntmps58
  go_wp2
  refine bodyPost_ret (v := tk k s0 n0 p) (by simp [results, Tryz.results58, go_sem]) rfl ⟨rfl, ?_, ?_⟩
  · exact ((HP.out.adv (m := tl - 1) (d := c - 1) h1t.out (by have := htl.out; omega) rfl).up (new2 _ _ _)).ps
  · exact (Kp.set 0 (by decide) _).trans (Kp.up (new2 _ _ _) (by simpa using hlt))
set_option maxHeartbeats 2000000 in
set_option maxRecDepth 8000 in
theorem take_end (b : Nat) (t : List T4) (n : Nat) (l : List A3) (w : World) (hp : Ps w b t n l) (h1 : t.length = 1) (hx : Hid ((hd t).1 = 5)) :
    Calls Tryz.prog 58 #[.pointer (some ⟨b, 0, none⟩), .int .i64 5] w fun e w' => (∃ s0 n0 p, e = .returned (tk 5 s0 n0 p)) ∧ Kp b w w' ∧ Below b w w' := by
  obtain ⟨V, tb, tq, c, tl, hpv, htl, g0, hfit, hlt, c0, c1, c2, fz, htb, z0, z1, z2, z3⟩ := hp.open_ (by omega)
  have HPS := Lib.hid hp
  obtain rfl : tl = 1 := by have := htl.out; omega
  rw [hx.out] at z0
  obtain ⟨s0, hs0⟩ : ∃ s0, Hid ((hd t).2.1 = s0) := ⟨_, rfl⟩
  obtain ⟨n0, hn0⟩ : ∃ n0, Hid ((hd t).2.2.1 = n0) := ⟨_, rfl⟩
  obtain ⟨p, hpp⟩ : ∃ p, Hid ((hd t).2.2.2 = p) := ⟨_, rfl⟩
  rw [hs0.out] at z1
  rw [hn0.out] at z2
  rw [hpp.out] at z3
  have hbk : ¬ b = w.heap.size := by omega
  have hbk2 : ¬ w.heap.size = b := by omega
  clear hpv hp h1
  by_cases hc1 : c = 1
  · subst hc1
    go_enter Tryz.func58, Tryz.ntmps58
    go_wp2
    refine bodyPost_ret (v := tk 5 s0 n0 p) (by simp [results, Tryz.results58, go_sem]) rfl ⟨⟨_, _, _, rfl⟩, (Kp.set 0 (by decide) _).trans (Kp.up (new2 _ _ _) (by simpa using hlt)), ?_⟩
    exact ((Kp.set 0 (by decide) _).trans (Kp.up (new2 _ _ _) (by simpa using hlt))).below HPS.out
  · go_enter Tryz.func58, Tryz.ntmps58
    go_wp2
    refine bodyPost_ret (v := tk 5 s0 n0 p) (by simp [results, Tryz.results58, go_sem]) rfl ⟨⟨_, _, _, rfl⟩, (Kp.set 0 (by decide) _).trans (Kp.up (new2 _ _ _) (by simpa using hlt)), ?_⟩
    exact ((Kp.set 0 (by decide) _).trans (Kp.up (new2 _ _ _) (by simpa using hlt))).below HPS.out
set_option maxHeartbeats 2000000 in
theorem mayBegin_is (k : Int) (s : ByteArray) (n a : Int) (w : World) {r : Bool} (hr : Hid (mayB (k, s, n, a) = r)) :
    Calls Tryz.prog 108 #[tk k s n a] w fun e w' => e = .returned (.bool r) ∧ Below w.heap.size w w' := by
  by_cases k3 : k = 3
  · have hend : Hid (r = true) := by rw [← hr.out]; exact decide_eq_true (.inl k3)
    have b3 : (k == 3) = true := by rw [beq_iff_eq]; exact k3
    clear hr k3
    go_enter Tryz.func108, Tryz.ntmps108
    go_wp2
    go_ret
    exact ⟨ret_bool hend.out.symm, newB _ _⟩
  · have b3 : (k == 3) = false := by rw [beq_eq_false_iff_ne]; exact k3
    by_cases k1 : k = 1
    · have b1 : (k == 1) = true := by rw [beq_iff_eq]; exact k1
      have hr2 : Hid (decide (s = wAll ∨ s = wAny ∨ rsv s = false) = r) := by
        show _ = _
        rw [← hr.out]
        unfold mayB
        rw [decide_eq_decide]
        simp [k3, k1]
      clear hr k3 k1
      by_cases ha : s = wAll
      · have hend : Hid (r = true) := by rw [← hr2.out]; exact decide_eq_true (.inl ha)
        have ea : (s.toList == [97, 108, 108]) = true := by subst ha; decide +kernel
        clear hr2 ha
        go_enter Tryz.func108, Tryz.ntmps108
        go_wp2
        go_ret
        exact ⟨ret_bool hend.out.symm, newB _ _⟩
      · have ea : (s.toList == [97, 108, 108]) = false := by
          have h := eqS_no.2 ha
          unfold eqS at h
          simpa only [ByteArray.toList_mk] using h
        by_cases hb : s = wAny
        · have hend : Hid (r = true) := by rw [← hr2.out]; exact decide_eq_true (.inr (.inl hb))
          have eb : (s.toList == [97, 110, 121]) = true := by subst hb; decide +kernel
          clear hr2 ha hb
          go_enter Tryz.func108, Tryz.ntmps108
          go_wp2
          go_ret
          exact ⟨ret_bool hend.out.symm, newB _ _⟩
        · have eb : (s.toList == [97, 110, 121]) = false := by
            have h := eqS_no.2 hb
            unfold eqS at h
            simpa only [ByteArray.toList_mk] using h
          obtain ⟨v, hv⟩ : ∃ v, Hid (rsv s = v) := ⟨_, rfl⟩
          have hend : Hid (r = !v) := by
            show _ = _
            rw [← hr2.out, hv.out]
            cases v <;> simp [ha, hb]
          clear hr2 ha hb
          go_enter Tryz.func108, Tryz.ntmps108
          go_wp2_with (go_at_call 74; refine (rsv_is _ _ hv).mono ?_; rintro e W1 ⟨rfl, rfl⟩)
          go_ret
          exact ⟨ret_bool hend.out.symm, newB _ _⟩
    · have hend : Hid (r = false) := by rw [← hr.out]; exact decide_eq_false (by simp [k3, k1])
      have b1 : (k == 1) = false := by rw [beq_eq_false_iff_ne]; exact k1
      clear hr k3 k1
      go_enter Tryz.func108, Tryz.ntmps108
      go_wp2
      go_ret
      exact ⟨ret_bool hend.out.symm, newB _ _⟩
end Go.Proofs.YtlokcmbkkfjlkaaGreatDoor

namespace Go.Proofs.YtlokcmbkkfjlkaaGreatDoor
open Go.RowKit
set_option linter.unusedVariables false
set_option linter.unusedSimpArgs false

theorem hd_eta (t : List T4) : hd t = ((hd t).1, (hd t).2.1, (hd t).2.2.1, (hd t).2.2.2) := rfl
set_option maxHeartbeats 2000000 in
set_option maxRecDepth 8000 in
theorem begin_yes (b : Nat) (t : List T4) (n : Nat) (l : List A3) (d : Nat) (w : World) (hp : Ps w b t n l) (h0 : 0 < t.length) (hm : Hid (mayB (hd t) = true)) (hd4 : d ≤ 4) (hn : n + 1 ≤ 24) :
    Calls Tryz.prog 84 #[.pointer (some ⟨b, 0, none⟩), .int .i64 (d : Int)] w fun e w' => e = .returned (.tuple #[]) ∧ Go1 b t (n + 1) l w w' := by
  obtain ⟨V, tb, tq, c, tl, hpv, htl, g0, hfit, hlt, c0, c1, c2, fz, htb, z0, z1, z2, z3⟩ := hp.open_ h0
  have HP := Lib.hid hpv
  obtain ⟨k0, hk0⟩ : ∃ k0, Hid ((hd t).1 = k0) := ⟨_, rfl⟩
  obtain ⟨s0, hs0⟩ : ∃ s0, Hid ((hd t).2.1 = s0) := ⟨_, rfl⟩
  obtain ⟨n0, hn0⟩ : ∃ n0, Hid ((hd t).2.2.1 = n0) := ⟨_, rfl⟩
  obtain ⟨p, hpp⟩ : ∃ p, Hid ((hd t).2.2.2 = p) := ⟨_, rfl⟩
  have hm2 : Hid (mayB (k0, s0, n0, p) = true) := by show _ = _; rw [← hk0.out, ← hs0.out, ← hn0.out, ← hpp.out]; exact hm.out
  rw [hk0.out] at z0
  rw [hs0.out] at z1
  rw [hn0.out] at z2
  rw [hpp.out] at z3
  have e5 : IntKind.i64.wrap ((n : Int) + 1) = (n : Int) + 1 := by rw [IntKind.wrap_i64]; omega
  have q1 : ¬ 4 < (d : Int) := by omega
  have q2 : ¬ 24 < (n : Int) + 1 := by omega
  clear hpv hp h0
  go_enter Tryz.func84, Tryz.ntmps84
  go_wp2_with (go_at_call 108; refine (mayBegin_is _ _ _ _ _ hm2).mono ?_; rintro e W1 ⟨rfl, hb1⟩; have HB1 := Lib.hid (dn1 hb1); have HP1 := HP.out.up (dn1 hb1); clear c0 c1 c2 fz; obtain ⟨g1, c0, c1, c2, fz, -, -, -, -⟩ := HP1; clear hb1)
  go_end0
  have HP2 := (HP.out.up HB1.out).set1 (n + 1) (v := (n : Int) + 1) (by omega)
  exact ⟨rfl, HP2.ps, (Kp.up HB1.out hlt).trans (Kp.set 1 (by decide) _)⟩
set_option maxHeartbeats 2000000 in
set_option maxRecDepth 8000 in
theorem begin_syn (b : Nat) (t : List T4) (n : Nat) (l : List A3) (d : Nat) (w : World) (hp : Ps w b t n l) (h0 : 0 < t.length) (hm : Hid (mayB (hd t) = false)) {p : Int} (hpp : Hid ((hd t).2.2.2 = p)) :
    Calls Tryz.prog 84 #[.pointer (some ⟨b, 0, none⟩), .int .i64 (d : Int)] w fun e w' => e = Pan p 8 ∧ Below b w w' := by
  obtain ⟨V, tb, tq, c, tl, hpv, htl, g0, hfit, hlt, c0, c1, c2, fz, htb, z0, z1, z2, z3⟩ := hp.open_ h0
  obtain ⟨k0, hk0⟩ : ∃ k0, Hid ((hd t).1 = k0) := ⟨_, rfl⟩
  obtain ⟨s0, hs0⟩ : ∃ s0, Hid ((hd t).2.1 = s0) := ⟨_, rfl⟩
  obtain ⟨n0, hn0⟩ : ∃ n0, Hid ((hd t).2.2.1 = n0) := ⟨_, rfl⟩
  have hm2 : Hid (mayB (k0, s0, n0, p) = false) := by show _ = _; rw [← hk0.out, ← hs0.out, ← hn0.out, ← hpp.out]; exact hm.out
  rw [hk0.out] at z0
  rw [hs0.out] at z1
  rw [hn0.out] at z2
  rw [hpp.out] at z3
  clear hpv hp h0
  go_enter Tryz.func84, Tryz.ntmps84
  go_wp2_with (first
    | (go_at_call 108; refine (mayBegin_is _ _ _ _ _ hm2).mono ?_; rintro e W1 ⟨rfl, hb1⟩; obtain ⟨hc1, hf1⟩ := bcell hb1; have HB1 := Lib.hid (dn1 hb1); clear hb1)
    | (go_at_call 89; refine (fail_is _ _ _ _ _ _).mono ?_; rintro e W2 ⟨rfl, hb2⟩; have HB2 := Lib.hid (nx HB1.out hb2); clear hb2))
  exact ⟨rfl, rfl, HB2.out.mono (Nat.le_of_lt hlt)⟩
set_option maxHeartbeats 2000000 in
set_option maxRecDepth 8000 in
theorem begin_many (b : Nat) (t : List T4) (n : Nat) (l : List A3) (d : Nat) (w : World) (hp : Ps w b t n l) (h0 : 0 < t.length) (hm : Hid (mayB (hd t) = true)) (hn : n ≤ 24) (hno : 4 < d ∨ 24 < n + 1) {p : Int} (hpp : Hid ((hd t).2.2.2 = p)) :
    Calls Tryz.prog 84 #[.pointer (some ⟨b, 0, none⟩), .int .i64 (d : Int)] w fun e w' => e = Pan p 4 ∧ Below b w w' := by
  obtain ⟨V, tb, tq, c, tl, hpv, htl, g0, hfit, hlt, c0, c1, c2, fz, htb, z0, z1, z2, z3⟩ := hp.open_ h0
  have HP := Lib.hid hpv
  obtain ⟨k0, hk0⟩ : ∃ k0, Hid ((hd t).1 = k0) := ⟨_, rfl⟩
  obtain ⟨s0, hs0⟩ : ∃ s0, Hid ((hd t).2.1 = s0) := ⟨_, rfl⟩
  obtain ⟨n0, hn0⟩ : ∃ n0, Hid ((hd t).2.2.1 = n0) := ⟨_, rfl⟩
  have hm2 : Hid (mayB (k0, s0, n0, p) = true) := by show _ = _; rw [← hk0.out, ← hs0.out, ← hn0.out, ← hpp.out]; exact hm.out
  rw [hk0.out] at z0
  rw [hs0.out] at z1
  rw [hn0.out] at z2
  rw [hpp.out] at z3
  have e5 : IntKind.i64.wrap ((n : Int) + 1) = (n : Int) + 1 := by rw [IntKind.wrap_i64]; omega
  have k1 : ¬ w.heap.size = b := by omega
  have k2 : ¬ b = w.heap.size := by omega
  clear hpv hp h0
  by_cases h4 : 4 < (d : Int)
  · clear hno
    go_enter Tryz.func84, Tryz.ntmps84
    go_wp2_with (first
      | (go_at_call 108; refine (mayBegin_is _ _ _ _ _ hm2).mono ?_; rintro e W1 ⟨rfl, hb1⟩; have HB1 := Lib.hid (dn1 hb1); have HP1 := HP.out.up (dn1 hb1); clear c0 c1 c2 fz; obtain ⟨g1, c0, c1, c2, fz, -, -, -, -⟩ := HP1; have hk := (Blk.new w [.int .i64 k0, .string s0, .int .i64 n0, .int .i64 p] 53 rfl).up hb1 (by simp); have y0 := hk.cell 0 rfl; have y1 := hk.cell 1 rfl; have y2 := hk.cell 2 rfl; have y3 := hk.cell 3 rfl; clear hb1 hk)
      | (go_at_call 89; refine (fail_is _ _ _ _ _ _).mono ?_; rintro e W2 ⟨rfl, hb2⟩; have HB2 := Lib.hid hb2; clear hb2))
    exact ⟨rfl, rfl, ((HB1.out.mono (Nat.le_of_lt hlt)).setCell (p := ⟨b, 1, none⟩) (Nat.le_refl _) _).trans (HB2.out.mono (by have := HB1.out.size; simp; omega))⟩
  · have q2 : 24 < (n : Int) + 1 := by omega
    clear hno
    go_enter Tryz.func84, Tryz.ntmps84
    go_wp2_with (first
      | (go_at_call 108; refine (mayBegin_is _ _ _ _ _ hm2).mono ?_; rintro e W1 ⟨rfl, hb1⟩; have HB1 := Lib.hid (dn1 hb1); have HP1 := HP.out.up (dn1 hb1); clear c0 c1 c2 fz; obtain ⟨g1, c0, c1, c2, fz, -, -, -, -⟩ := HP1; have hk := (Blk.new w [.int .i64 k0, .string s0, .int .i64 n0, .int .i64 p] 53 rfl).up hb1 (by simp); have y0 := hk.cell 0 rfl; have y1 := hk.cell 1 rfl; have y2 := hk.cell 2 rfl; have y3 := hk.cell 3 rfl; clear hb1 hk)
      | (go_at_call 89; refine (fail_is _ _ _ _ _ _).mono ?_; rintro e W2 ⟨rfl, hb2⟩; have HB2 := Lib.hid hb2; clear hb2))
    exact ⟨rfl, rfl, ((HB1.out.mono (Nat.le_of_lt hlt)).setCell (p := ⟨b, 1, none⟩) (Nat.le_refl _) _).trans (HB2.out.mono (by have := HB1.out.size; simp; omega))⟩
/-- A method's answer: the value with its state, or the panic. -/
def SetP (b n : Nat) (l : List A3) (r : PR Int) (w : World) (e : Ending) (w' : World) : Prop :=
  match r with
  | .ok v t' _ _ => e = .returned (.int .i64 v) ∧ Go1 b t' n l w w'
  | .no p x => e = Pan p x ∧ Below b w w'
set_option maxHeartbeats 4000000 in
set_option maxRecDepth 8000 in
theorem setting_is (b : Nat) (t : List T4) (n : Nat) (l : List A3) (x : ByteArray) (g : Int) (w : World) (hp : Ps w b t n l) (hw : WT t) (hx : ltr (byt x 0) = true) :
    Calls Tryz.prog 57 #[.pointer (some ⟨b, 0, none⟩), .string x, .int .i64 g] w (SetP b n l (pS x g t) w) := by
  have HP := Lib.hid hp
  have hlt := hp.lt
  have h0 : 0 < t.length := by have := hw.ne; cases t with | nil => exact absurd rfl this | cons a r => simp
  clear hp
  unfold pS
  by_cases e1 : (hd t).2.1 = x
  · rw [if_pos e1]
    obtain ⟨w1, w2, w3, w4⟩ := hw.word (by rw [e1]; exact hx)
    have he1 := Lib.hid e1
    have h2 : 0 < t.tail.length := by have := w2.ne; cases hh : t.tail with | nil => exact absurd hh this | cons a r => simp
    have H4 := Lib.hid w4
    have H2 := Lib.hid h2
    by_cases e2 : (hd t.tail).1 = 3
    · rw [if_pos e2]
      have he2 := Lib.hid e2
      obtain ⟨_, w5, w6, w7⟩ := w2.next (by omega)
      have H7 := Lib.hid w7
      obtain ⟨s0, hs0⟩ : ∃ s0, Hid ((hd t.tail).2.1 = s0) := ⟨_, rfl⟩
      obtain ⟨n0, hn0⟩ : ∃ n0, Hid ((hd t.tail).2.2.1 = n0) := ⟨_, rfl⟩
      obtain ⟨p, hpp⟩ : ∃ p, Hid ((hd t.tail).2.2.2 = p) := ⟨_, rfl⟩
      rw [hn0.out, hpp.out]
      by_cases e3 : g < n0
      · rw [if_pos e3]
        clear e1 e2 w1 w2 w3 w4 w5 w6 w7 h0 h2 hw
        go_enter Tryz.func57, Tryz.ntmps57
        go_wp2_with (first
          | (go_at_call 85; refine (skip_yes b t n l x _ HP.out H4.out he1).mono ?_; rintro e W1 ⟨rfl, hs1, hk1⟩; have HS1 := Lib.hid hs1; have HK1 := Lib.hid hk1; clear hs1 hk1)
          | (go_at_call 58; refine (take_yes b t.tail n l 3 _ HS1.out H7.out he2 hs0 hn0 hpp).mono ?_; rintro e W2 ⟨rfl, hs2, hk2⟩; have HS2 := Lib.hid hs2; have HK2 := Lib.hid (HK1.out.trans hk2); clear hs2 hk2)
          | (go_at_call 89; refine (fail_is _ _ _ _ _ _).mono ?_; rintro e W3 ⟨rfl, hb3⟩; have HB3 := Lib.hid hb3; clear hb3))
        exact ⟨rfl, rfl, (HK2.out.below HP.out).trans ((dn1 HB3.out).mono (Nat.le_trans (Nat.le_of_lt hlt) HK2.out.size))⟩
      · rw [if_neg e3]
        clear e1 e2 w1 w2 w3 w4 w5 w6 w7 h0 h2 hw
        go_enter Tryz.func57, Tryz.ntmps57
        go_wp2_with (first
          | (go_at_call 85; refine (skip_yes b t n l x _ HP.out H4.out he1).mono ?_; rintro e W1 ⟨rfl, hs1, hk1⟩; have HS1 := Lib.hid hs1; have HK1 := Lib.hid hk1; clear hs1 hk1)
          | (go_at_call 58; refine (take_yes b t.tail n l 3 _ HS1.out H7.out he2 hs0 hn0 hpp).mono ?_; rintro e W2 ⟨rfl, hs2, hk2⟩; have HS2 := Lib.hid hs2; have HK2 := Lib.hid (HK1.out.trans hk2); clear hs2 hk2))
        go_ret
        exact ⟨rfl, HS2.out.up (newB _ _), HK2.out.trans (Kp.up (newB _ _) HS2.out.lt)⟩
    · rw [if_neg e2]
      have he2 := Lib.hid e2
      obtain ⟨p, hpp⟩ : ∃ p, Hid ((hd t.tail).2.2.2 = p) := ⟨_, rfl⟩
      rw [hpp.out]
      clear e1 e2 w1 w2 w3 w4 h0 h2 hw
      go_enter Tryz.func57, Tryz.ntmps57
      go_wp2_with (first
        | (go_at_call 85; refine (skip_yes b t n l x _ HP.out H4.out he1).mono ?_; rintro e W1 ⟨rfl, hs1, hk1⟩; have HS1 := Lib.hid hs1; have HK1 := Lib.hid hk1; clear hs1 hk1)
        | (go_at_call 58; refine (take_no b t.tail n l 3 _ HS1.out H2.out he2 hpp).mono ?_; rintro e W2 ⟨rfl, hb2⟩; have HB2 := Lib.hid ((HK1.out.below HP.out).trans hb2); clear hb2))
      exact ⟨rfl, rfl, HB2.out⟩
  · rw [if_neg e1]
    have he1 := Lib.hid e1
    have H0 := Lib.hid h0
    clear e1 hw h0
    go_enter Tryz.func57, Tryz.ntmps57
    go_wp2_with (first
      | (go_at_call 85; refine (skip_no b t n l x _ HP.out H0.out he1).mono ?_; rintro e W1 ⟨rfl, rfl⟩))
    go_ret
    exact ⟨rfl, HP.out, Kp.refl _ _⟩
end Go.Proofs.YtlokcmbkkfjlkaaGreatDoor

namespace Go.Proofs.YtlokcmbkkfjlkaaGreatDoor
open Go.RowKit
set_option linter.unusedVariables false
set_option linter.unusedSimpArgs false

/-- What stands in an atom behind the name. -/
def pAm (t : List T4) (n : Nat) (l : List A3) : PR (Int × Int) :=
  if (hd t).2.1 = wStar then
    (if (hd t.tail).1 = 3 then (if 1 ≤ (hd t.tail).2.2.1 ∧ (hd t.tail).2.2.1 ≤ 8 then .ok (0, (hd t.tail).2.2.1) t.tail.tail n l else .no (hd t.tail).2.2.2 12)
     else .no (hd t.tail).2.2.2 8)
  else if (hd t).2.1 = wCol then (if (hd t.tail).1 = 2 then .ok ((hd t.tail).2.2.1, 0) t.tail.tail n l else .no (hd t.tail).2.2.2 8)
  else .no (hd t).2.2.2 8
def AmP (b n : Nat) (l : List A3) (r : PR (Int × Int)) (w : World) (e : Ending) (w' : World) : Prop :=
  match r with
  | .ok v t' _ _ => e = .returned (aa v.1 v.2) ∧ Go1 b t' n l w w'
  | .no p x => e = Pan p x ∧ Below b w w'
theorem PsV.box {w : World} {b : Nat} {t : List T4} {n : Nat} {l : List A3} {V : Value} {tb tq c : Nat} (h : PsV w b t n l V tb tq c) {g : Nat} (hg : b < g) (hr : rowOf w b ≠ some g) (o : Nat) (v : Value) : PsV (w.setCell ⟨g, o, none⟩ v) b t n l V tb tq c := by
  have e : (w.setCell ⟨g, o, none⟩ v).heap[b]? = w.heap[b]? := block_set _ _ _ (by omega)
  have hr' := hr
  rw [rowOf_eq h.c2] at hr'
  exact ⟨by simpa using h.lt, (cell_of_block e _).trans h.c0, (cell_of_block e _).trans h.c1, (cell_of_block e _).trans h.c2, fun o => (frozen_of_block e o).trans (h.fz o), h.fit, h.tlt,
    fun i hi => (h.tok i hi).of_block (block_set _ _ _ (by have := h.tlt; omega)), own_kept h.own (fun q hq => block_set _ _ _ (fun e => hr' (by rw [hq, e])))⟩
theorem Ps.box {w : World} {b : Nat} {t : List T4} {n : Nat} {l : List A3} (h : Ps w b t n l) {g : Nat} (hg : b < g) (hr : rowOf w b ≠ some g) (o : Nat) (v : Value) : Ps (w.setCell ⟨g, o, none⟩ v) b t n l := by
  obtain ⟨V, tb, tq, c, h⟩ := h
  exact ⟨V, tb, tq, c, h.box hg hr o v⟩
theorem rowOf_box {w : World} {b g : Nat} (hg : g ≠ b) (o : Nat) (v : Value) : rowOf (w.setCell ⟨g, o, none⟩ v) b = rowOf w b := by
  unfold rowOf
  rw [cell_of_block (block_set w (a := g) (b := b) o v (Ne.symm hg)) 2]
theorem Kp.box {b g : Nat} {a w : World} (h : Kp b a w) (hg : a.heap.size ≤ g) (hgb : g ≠ b) (o : Nat) (v : Value) : Kp b a (w.setCell ⟨g, o, none⟩ v) :=
  ⟨h.os, h.tape, h.output, by simpa [World.setCell] using h.size, fun k h1 h2 h3 => (block_set _ _ _ (by omega)).trans (h.block k h1 h2 h3), fun k hk => h.row k (by rw [← rowOf_box hgb o v]; exact hk)⟩
/-- The state, what is kept since a, and a box g that is the call's own. -/
def St3 (b : Nat) (t : List T4) (n : Nat) (l : List A3) (a : World) (g : Nat) (w : World) : Prop := Ps w b t n l ∧ Kp b a w ∧ b < g ∧ a.heap.size ≤ g ∧ rowOf w b ≠ some g
theorem St3.set {b : Nat} {t : List T4} {n : Nat} {l : List A3} {a : World} {g : Nat} {w : World} (h : St3 b t n l a g w) (o : Nat) (v : Value) : St3 b t n l a g (w.setCell ⟨g, o, none⟩ v) := by
  obtain ⟨h1, h2, h3, h4, h5⟩ := h
  exact ⟨h1.box h3 h5 o v, h2.box h4 (by omega) o v, h3, h4, by rw [rowOf_box (by omega)]; exact h5⟩
theorem St3.go {b : Nat} {t : List T4} {n : Nat} {l : List A3} {a : World} {g : Nat} {w : World} (h : St3 b t n l a g w) : Go1 b t n l a w := ⟨h.1, h.2.1⟩
theorem fldT (k : Int) (s : ByteArray) (n a : Int) (W : World) : (Instr.field 53 (tk k s n a) 2).run Tryz.prog W = .ok (.int .i64 n) W := by kernel_rfl
set_option maxHeartbeats 4000000 in
set_option maxRecDepth 8000 in
theorem amount_is (b : Nat) (t : List T4) (n : Nat) (l : List A3) (w : World) (hp : Ps w b t n l) (hw : WT t) :
    Calls Tryz.prog 110 #[.pointer (some ⟨b, 0, none⟩)] w (AmP b n l (pAm t n l) w) := by
  have HP := Lib.hid hp
  have hlt := hp.lt
  have h0 : 0 < t.length := by have := hw.ne; cases t with | nil => exact absurd rfl this | cons a r => simp
  have HX : Hid (Bx (w.alloc (.cells #[.int .i64 0, .int .i64 0] 23)) b w.heap.size [.int .i64 0, .int .i64 0]) := Bx.new hp _ _
  have HN : Hid (∀ X : Obj, Ps (w.alloc X) b t n l ∧ Kp b w (w.alloc X)) := fun X => ⟨HP.out.up (newB w X), Kp.up (newB w X) HP.out.lt⟩
  have hbg : Hid (b < w.heap.size) := hlt
  have hf := fldT
  clear hp hlt
  unfold pAm
  by_cases e1 : (hd t).2.1 = wStar
  · rw [if_pos e1]
    obtain ⟨w1, w2, w3, w4⟩ := hw.punc (by rw [e1]; exact wStar_p)
    have he1 := Lib.hid e1
    have h2 : 0 < t.tail.length := by have := w2.ne; cases hh : t.tail with | nil => exact absurd hh this | cons a r => simp
    have H4 := Lib.hid w4
    have H2 := Lib.hid h2
    by_cases e2 : (hd t.tail).1 = 3
    · rw [if_pos e2]
      have he2 := Lib.hid e2
      obtain ⟨_, w5, w6, w7⟩ := w2.next (by omega)
      have H7 := Lib.hid w7
      obtain ⟨s0, hs0⟩ : ∃ s0, Hid ((hd t.tail).2.1 = s0) := ⟨_, rfl⟩
      obtain ⟨n0, hn0⟩ : ∃ n0, Hid ((hd t.tail).2.2.1 = n0) := ⟨_, rfl⟩
      obtain ⟨p, hpp⟩ : ∃ p, Hid ((hd t.tail).2.2.2 = p) := ⟨_, rfl⟩
      rw [hn0.out, hpp.out]
      by_cases e3 : 1 ≤ n0 ∧ n0 ≤ 8
      · rw [if_pos e3]
        have hu : Hid (usb 0 n0 = true) := decide_eq_true (.inr ⟨rfl, e3.1, e3.2⟩)
        clear e1 e2 e3 w1 w2 w3 w4 w5 w6 w7 h0 h2 hw
        go_enter Tryz.func110, Tryz.ntmps110
        go_wp2_with (first
          | (go_at_call 85; refine (skip_yes b t n l wStar _ (HN.out _).1 H4.out he1).mono ?_; rintro e W1 ⟨rfl, hs1, hk1⟩; have HS1 := Lib.hid hs1; have HX1 := Lib.hid (HX.out.kp hk1); have HK1 := Lib.hid ((HN.out _).2.trans hk1); clear hs1 hk1)
          | (go_at_call 58; refine (take_yes b t.tail n l 3 _ HS1.out H7.out he2 hs0 hn0 hpp).mono ?_; rintro e W2 ⟨rfl, hs2, hk2⟩; have HS2 := Lib.hid hs2; have HX2 := Lib.hid (HX1.out.kp hk2); have HK2 := Lib.hid (HK1.out.trans hk2); clear hs2 hk2)
          | (go_at_call 52; refine (claimable_is _ _ _ hu).mono ?_; rintro e W3 ⟨rfl, hb3⟩; have HB3 := Lib.hid (nx (new2 W2 _ _) hb3); have hk3 := ((Blk.new (W2.alloc _) [.int .i64 0, .int .i64 n0] 23 (g := W2.heap.size + 1) (by simp)).up hb3 (by simp)); have y0 := hk3.cell 0 rfl; have y1 := hk3.cell 1 rfl; have hx3 := HX2.out.kp (Kp.up (nx (new2 W2 _ _) hb3) HS2.out.lt); have x0 := hx3.1.cell 0 rfl; have x1 := hx3.1.cell 1 rfl; have xf := hx3.1.fz; have HX3 := Lib.hid hx3; clear hb3 hx3 hk3))
        have hst : St3 b t.tail.tail n l w w.heap.size W3 := ⟨HS2.out.up HB3.out, HK2.out.trans (Kp.up HB3.out HS2.out.lt), hbg.out, Nat.le_refl _, HX3.out.2.2⟩
        exact bodyPost_ret (v := aa 0 n0) (by simp [results, Tryz.results110, go_sem, x0, x1, xf]) rfl ⟨rfl, ((hst.set 0 _).set 1 _).go⟩
      · rw [if_neg e3]
        have hu : Hid (usb 0 n0 = false) := decide_eq_false (by omega)
        clear e1 e2 e3 w1 w2 w3 w4 w5 w6 w7 h0 h2 hw
        go_enter Tryz.func110, Tryz.ntmps110
        go_wp2_with (first
          | (go_at_call 85; refine (skip_yes b t n l wStar _ (HN.out _).1 H4.out he1).mono ?_; rintro e W1 ⟨rfl, hs1, hk1⟩; have HS1 := Lib.hid hs1; have HK1 := Lib.hid ((HN.out _).2.trans hk1); clear hs1 hk1)
          | (go_at_call 58; refine (take_yes b t.tail n l 3 _ HS1.out H7.out he2 hs0 hn0 hpp).mono ?_; rintro e W2 ⟨rfl, hs2, hk2⟩; have HS2 := Lib.hid hs2; have HK2 := Lib.hid (HK1.out.trans hk2); clear hs2 hk2)
          | (go_at_call 52; refine (claimable_is _ _ _ hu).mono ?_; rintro e W3 ⟨rfl, hb3⟩; have HB3 := Lib.hid (nx (new2 W2 _ _) hb3); have hk3 := (((Blk.new W2 [.int .i64 3, .string s0, .int .i64 n0, .int .i64 p] 53 rfl).grow _).up hb3 (by simp; omega)); have y0 := hk3.cell 0 rfl; have y1 := hk3.cell 1 rfl; have y2 := hk3.cell 2 rfl; have y3 := hk3.cell 3 rfl; clear hb3 hk3)
          | (go_at_call 89; refine (fail_is _ _ _ _ _ _).mono ?_; rintro e W4 ⟨rfl, hb4⟩; have HB4 := Lib.hid (nx HB3.out hb4); clear hb4))
        exact ⟨rfl, rfl, (HK2.out.below HP.out).trans (HB4.out.mono (Nat.le_trans (Nat.le_of_lt hbg.out) HK2.out.size))⟩
    · rw [if_neg e2]
      have he2 := Lib.hid e2
      obtain ⟨p, hpp⟩ : ∃ p, Hid ((hd t.tail).2.2.2 = p) := ⟨_, rfl⟩
      rw [hpp.out]
      clear e1 e2 w1 w2 w3 w4 h0 h2 hw
      go_enter Tryz.func110, Tryz.ntmps110
      go_wp2_with (first
        | (go_at_call 85; refine (skip_yes b t n l wStar _ (HN.out _).1 H4.out he1).mono ?_; rintro e W1 ⟨rfl, hs1, hk1⟩; have HS1 := Lib.hid hs1; have HK1 := Lib.hid ((HN.out _).2.trans hk1); clear hs1 hk1)
        | (go_at_call 58; refine (take_no b t.tail n l 3 _ HS1.out H2.out he2 hpp).mono ?_; rintro e W2 ⟨rfl, hb2⟩; have HB2 := Lib.hid ((HK1.out.below HP.out).trans hb2); clear hb2))
      exact ⟨rfl, rfl, HB2.out⟩
  · rw [if_neg e1]
    have he1 := Lib.hid e1
    have H0 := Lib.hid h0
    clear e1
    by_cases e3 : (hd t).2.1 = wCol
    · rw [if_pos e3]
      have he3 := Lib.hid e3
      obtain ⟨w1, w2, w3, w4⟩ := hw.punc (by rw [e3]; exact wCol_p)
      have h2 : 0 < t.tail.length := by have := w2.ne; cases hh : t.tail with | nil => exact absurd hh this | cons a r => simp
      have H4 := Lib.hid w4
      have H2 := Lib.hid h2
      by_cases e2 : (hd t.tail).1 = 2
      · rw [if_pos e2]
        have he2 := Lib.hid e2
        obtain ⟨_, w5, w6, w7⟩ := w2.next (by omega)
        have H7 := Lib.hid w7
        obtain ⟨s0, hs0⟩ : ∃ s0, Hid ((hd t.tail).2.1 = s0) := ⟨_, rfl⟩
        obtain ⟨n0, hn0⟩ : ∃ n0, Hid ((hd t.tail).2.2.1 = n0) := ⟨_, rfl⟩
        obtain ⟨p, hpp⟩ : ∃ p, Hid ((hd t.tail).2.2.2 = p) := ⟨_, rfl⟩
        rw [hn0.out]
        clear e2 e3 w1 w2 w3 w4 w5 w6 w7 h0 h2 hw
        go_enter Tryz.func110, Tryz.ntmps110
        go_wp2_with (first
          | (go_at_call 85; refine (skip_no b t n l wStar _ (HN.out _).1 H0.out he1).mono ?_; rintro e W0 ⟨rfl, rfl⟩)
          | (go_at_call 109; refine (must_yes b t n l wCol _ (HN.out _).1 H4.out he3).mono ?_; rintro e W1 ⟨rfl, hs1, hk1⟩; have HS1 := Lib.hid hs1; have HX1 := Lib.hid (HX.out.kp hk1); have HK1 := Lib.hid ((HN.out _).2.trans hk1); clear hs1 hk1)
          | (go_at_call 58; refine (take_yes b t.tail n l 2 _ HS1.out H7.out he2 hs0 hn0 hpp).mono ?_; rintro e W2 ⟨rfl, hs2, hk2⟩; have HS2 := Lib.hid hs2; have hx2 := (HX1.out.kp hk2); have x0 := hx2.1.cell 0 rfl; have x1 := hx2.1.cell 1 rfl; have xf := hx2.1.fz; have HX2 := Lib.hid hx2; have HK2 := Lib.hid (HK1.out.trans hk2); clear hs2 hk2 hx2))
        have hst : St3 b t.tail.tail n l w w.heap.size W2 := ⟨HS2.out, HK2.out, hbg.out, Nat.le_refl _, HX2.out.2.2⟩
        exact bodyPost_ret (v := aa n0 0) (by simp [results, Tryz.results110, go_sem, x0, x1, xf]) rfl ⟨rfl, ((hst.set 0 _).set 1 _).go⟩
      · rw [if_neg e2]
        have he2 := Lib.hid e2
        obtain ⟨p, hpp⟩ : ∃ p, Hid ((hd t.tail).2.2.2 = p) := ⟨_, rfl⟩
        rw [hpp.out]
        clear e2 e3 w1 w2 w3 w4 h0 h2 hw
        go_enter Tryz.func110, Tryz.ntmps110
        go_wp2_with (first
          | (go_at_call 85; refine (skip_no b t n l wStar _ (HN.out _).1 H0.out he1).mono ?_; rintro e W0 ⟨rfl, rfl⟩)
          | (go_at_call 109; refine (must_yes b t n l wCol _ (HN.out _).1 H4.out he3).mono ?_; rintro e W1 ⟨rfl, hs1, hk1⟩; have HS1 := Lib.hid hs1; have HK1 := Lib.hid ((HN.out _).2.trans hk1); clear hs1 hk1)
          | (go_at_call 58; refine (take_no b t.tail n l 2 _ HS1.out H2.out he2 hpp).mono ?_; rintro e W2 ⟨rfl, hb2⟩; have HB2 := Lib.hid ((HK1.out.below HP.out).trans hb2); clear hb2))
        exact ⟨rfl, rfl, HB2.out⟩
    · rw [if_neg e3]
      have he3 := Lib.hid e3
      obtain ⟨p, hpp⟩ : ∃ p, Hid ((hd t).2.2.2 = p) := ⟨_, rfl⟩
      rw [hpp.out]
      clear e3 h0 hw
      go_enter Tryz.func110, Tryz.ntmps110
      go_wp2_with (first
        | (go_at_call 85; refine (skip_no b t n l wStar _ (HN.out _).1 H0.out he1).mono ?_; rintro e W0 ⟨rfl, rfl⟩)
        | (go_at_call 109; refine (must_no b t n l wCol _ (HN.out _).1 H0.out he3 hpp).mono ?_; rintro e W1 ⟨rfl, hb1⟩; have HB1 := Lib.hid (((newB w _).mono (Nat.le_of_lt hbg.out)).trans hb1); clear hb1))
      exact ⟨rfl, rfl, HB1.out⟩
end Go.Proofs.YtlokcmbkkfjlkaaGreatDoor
