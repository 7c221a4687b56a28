/- Contracts: the parser's skip, must, take, mayBegin, begin, setting. -/
import Derived.Test.YtlokcmbkkfjlkaaGreatDoorRps
namespace Go.Proofs.YtlokcmbkkfjlkaaGreatDoor
open Go.RowKit
set_option linter.unusedVariables false
set_option linter.unusedSimpArgs false

/-- What a walk wants of the parser's box and its first token. -/
theorem Ps.open_ {w : World} {b : Nat} {t : List T4} {n : Nat} {l : List A3} (h : Ps w b t n l) (h0 : 0 < t.length) :
    ∃ V tb tq c tl, PsV w b t n l V tb tq c ∧ Hid (t.length = tl) ∧ 0 < tl ∧ tl ≤ c ∧ b < w.heap.size ∧ w.cell? ⟨b, 0, none⟩ = some (.slice (some ⟨tb, tq, none⟩) tl c) ∧ w.cell? ⟨b, 1, none⟩ = some (.int .i64 (n : Int)) ∧ w.cell? ⟨b, 2, none⟩ = some V ∧ (∀ o, w.frozen? ⟨b, o, none⟩ = false) ∧ tb < w.heap.size ∧
      w.cell? ⟨tb, tq, none⟩ = some (.int .i64 (hd t).1) ∧ w.cell? ⟨tb, tq + 1, none⟩ = some (.string (hd t).2.1) ∧ w.cell? ⟨tb, tq + 2, none⟩ = some (.int .i64 (hd t).2.2.1) ∧ w.cell? ⟨tb, tq + 3, none⟩ = some (.int .i64 (hd t).2.2.2) := by
  obtain ⟨V, tb, tq, c, hp⟩ := h
  obtain ⟨z0, z1, z2, z3⟩ := hp.tok 0 h0
  have e : t.getD 0 default = hd t := by cases t with | nil => simp at h0 | cons a r => rfl
  rw [e] at z0 z1 z2 z3
  simp only [Nat.zero_mul, Nat.add_zero] at z0 z1 z2 z3
  exact ⟨V, tb, tq, c, _, hp, rfl, h0, hp.fit, hp.lt, hp.c0, hp.c1, hp.c2, hp.fz, Nat.lt_trans hp.tlt hp.lt, z0, z1, z2, z3⟩
theorem PsV.ps {w : World} {b : Nat} {t : List T4} {n : Nat} {l : List A3} {V : Value} {tb tq c : Nat} (h : PsV w b t n l V tb tq c) : Ps w b t n l := ⟨V, tb, tq, c, h⟩
/-- What a method leaves where all is well. -/
def Go1 (b : Nat) (t : List T4) (n : Nat) (l : List A3) (w w' : World) : Prop := Ps w' b t n l ∧ Kp b w w'
set_option maxHeartbeats 1000000 in
theorem skip_no (b : Nat) (t : List T4) (n : Nat) (l : List A3) (x : ByteArray) (w : World) (hp : Ps w b t n l) (h0 : 0 < t.length) (hx : Hid ((hd t).2.1 ≠ x)) :
    Calls Tryz.prog 85 #[.pointer (some ⟨b, 0, none⟩), .string x] w fun e w' => e = .returned (.bool false) ∧ w = w' := by
  obtain ⟨V, tb, tq, c, tl, hpv, htl, g0, hfit, hlt, c0, c1, c2, fz, htb, z0, z1, z2, z3⟩ := hp.open_ h0
  obtain ⟨s0, hs0⟩ : ∃ s0, Hid ((hd t).2.1 = s0) := ⟨_, rfl⟩
  rw [hs0.out] at z1
  have he : (s0.toList == x.toList) = false := eqS_no.2 (by rw [← hs0.out]; exact hx.out)
  clear hpv hp z0 z2 z3 h0
  go_enter Tryz.func85, Tryz.ntmps85
  go_wp2
  go_ret
  exact ⟨rfl, rfl⟩
set_option maxHeartbeats 1000000 in
theorem skip_yes (b : Nat) (t : List T4) (n : Nat) (l : List A3) (x : ByteArray) (w : World) (hp : Ps w b t n l) (h1 : 1 < t.length) (hx : Hid ((hd t).2.1 = x)) :
    Calls Tryz.prog 85 #[.pointer (some ⟨b, 0, none⟩), .string x] w fun e w' => e = .returned (.bool true) ∧ Go1 b t.tail n l w w' := by
  obtain ⟨V, tb, tq, c, tl, hpv, htl, g0, hfit, hlt, c0, c1, c2, fz, htb, z0, z1, z2, z3⟩ := hp.open_ (by omega)
  have HP := Lib.hid hpv
  have htl1 : 1 < tl := by have := htl.out; omega
  have hc1 : ¬ c = 1 := by omega
  have h1t := Lib.hid h1
  rw [hx.out] at z1
  clear hpv hp z0 z2 z3 h1 hx
  go_enter Tryz.func85, Tryz.ntmps85
  go_wp2
  go_ret
  exact ⟨rfl, (HP.out.adv h1t.out (by have := htl.out; omega) (by omega)).ps, Kp.set 0 (by decide) _⟩
set_option maxHeartbeats 1000000 in
theorem must_no (b : Nat) (t : List T4) (n : Nat) (l : List A3) (x : ByteArray) (w : World) (hp : Ps w b t n l) (h0 : 0 < t.length) (hx : Hid ((hd t).2.1 ≠ x)) {p : Int} (hpp : Hid ((hd t).2.2.2 = p)) :
    Calls Tryz.prog 109 #[.pointer (some ⟨b, 0, none⟩), .string x] w fun e w' => e = Pan p 8 ∧ Below b w w' := by
  obtain ⟨V, tb, tq, c, tl, hpv, htl, g0, hfit, hlt, c0, c1, c2, fz, htb, z0, z1, z2, z3⟩ := hp.open_ h0
  have HP := Lib.hid hp
  have h0' := Lib.hid h0
  obtain ⟨k0, hk0⟩ : ∃ k0, Hid ((hd t).1 = k0) := ⟨_, rfl⟩
  obtain ⟨s0, hs0⟩ : ∃ s0, Hid ((hd t).2.1 = s0) := ⟨_, rfl⟩
  obtain ⟨n0, hn0⟩ : ∃ n0, Hid ((hd t).2.2.1 = n0) := ⟨_, rfl⟩
  rw [hk0.out] at z0
  rw [hs0.out] at z1
  rw [hn0.out] at z2
  rw [hpp.out] at z3
  clear hpv hp h0
  go_enter Tryz.func109, Tryz.ntmps109
  go_wp2_with (first
    | (go_at_call 85; refine (skip_no b t n l x _ (HP.out.up (newB w _)) h0'.out hx).mono ?_; rintro e W1 ⟨rfl, rfl⟩)
    | (go_at_call 89; refine (fail_is _ _ _ _ _ _).mono ?_; rintro e W2 ⟨rfl, hb2⟩; have HB2 := Lib.hid (nx (newB w _) hb2); clear hb2))
  exact ⟨rfl, rfl, HB2.out.mono (Nat.le_of_lt hlt)⟩
set_option maxHeartbeats 1000000 in
theorem must_yes (b : Nat) (t : List T4) (n : Nat) (l : List A3) (x : ByteArray) (w : World) (hp : Ps w b t n l) (h1 : 1 < t.length) (hx : Hid ((hd t).2.1 = x)) :
    Calls Tryz.prog 109 #[.pointer (some ⟨b, 0, none⟩), .string x] w fun e w' => e = .returned (.tuple #[]) ∧ Go1 b t.tail n l w w' := by
  obtain ⟨V, tb, tq, c, tl, hpv, htl, g0, hfit, hlt, c0, c1, c2, fz, htb, z0, z1, z2, z3⟩ := hp.open_ (by omega)
  have HP := Lib.hid hp
  have h1' := Lib.hid h1
  have hlt' := Lib.hid hlt
  clear hpv hp h1
  go_enter Tryz.func109, Tryz.ntmps109
  go_wp2_with (first
    | (go_at_call 85; refine (skip_yes b t n l x _ (HP.out.up (newB w _)) h1'.out hx).mono ?_; rintro e W1 ⟨rfl, hs1, hk1⟩; have HS1 := Lib.hid hs1; have HK1 := Lib.hid ((Kp.up (newB w _) hlt'.out).trans hk1); clear hs1 hk1))
  go_end0
  exact ⟨rfl, HS1.out, HK1.out⟩
/-- A token as a value. -/
abbrev tkv (r : T4) : Value := tk r.1 r.2.1 r.2.2.1 r.2.2.2
set_option maxHeartbeats 1000000 in
theorem take_no (b : Nat) (t : List T4) (n : Nat) (l : List A3) (k : Int) (w : World) (hp : Ps w b t n l) (h0 : 0 < t.length) (hx : Hid ((hd t).1 ≠ k)) {p : Int} (hpp : Hid ((hd t).2.2.2 = p)) :
    Calls Tryz.prog 58 #[.pointer (some ⟨b, 0, none⟩), .int .i64 k] w fun e w' => e = Pan p 8 ∧ Below b w w' := by
  obtain ⟨V, tb, tq, c, tl, hpv, htl, g0, hfit, hlt, c0, c1, c2, fz, htb, z0, z1, z2, z3⟩ := hp.open_ h0
  obtain ⟨k0, hk0⟩ : ∃ k0, Hid ((hd t).1 = k0) := ⟨_, rfl⟩
  obtain ⟨s0, hs0⟩ : ∃ s0, Hid ((hd t).2.1 = s0) := ⟨_, rfl⟩
  obtain ⟨n0, hn0⟩ : ∃ n0, Hid ((hd t).2.2.1 = n0) := ⟨_, rfl⟩
  rw [hk0.out] at z0 hx
  rw [hs0.out] at z1
  rw [hn0.out] at z2
  rw [hpp.out] at z3
  have b1 : (k0 == k) = false := by rw [beq_eq_false_iff_ne]; exact hx.out
  have b2 : (k0 != k) = true := by rw [bne_iff_ne]; exact hx.out
  clear hpv hp h0
  go_enter Tryz.func58, Tryz.ntmps58
  go_wp2_with (first
    | (go_at_call 89; refine (fail_is _ _ _ _ _ _).mono ?_; rintro e W2 ⟨rfl, hb2⟩; have HB2 := Lib.hid (nx (new2 w _ _) hb2); clear hb2))
  exact ⟨rfl, rfl, HB2.out.mono (Nat.le_of_lt hlt)⟩
set_option maxHeartbeats 2000000 in
set_option maxRecDepth 8000 in
theorem take_yes (b : Nat) (t : List T4) (n : Nat) (l : List A3) (k : Int) (w : World) (hp : Ps w b t n l) (h1 : 1 < t.length) (hx : Hid ((hd t).1 = k)) {s0 : ByteArray} {n0 p : Int} (hs0 : Hid ((hd t).2.1 = s0)) (hn0 : Hid ((hd t).2.2.1 = n0)) (hpp : Hid ((hd t).2.2.2 = p)) :
    Calls Tryz.prog 58 #[.pointer (some ⟨b, 0, none⟩), .int .i64 k] w fun e w' => e = .returned (tk k s0 n0 p) ∧ Go1 b t.tail n l w w' := by
  obtain ⟨V, tb, tq, c, tl, hpv, htl, g0, hfit, hlt, c0, c1, c2, fz, htb, z0, z1, z2, z3⟩ := hp.open_ (by omega)
  have HP := Lib.hid hpv
  have htl1 : 1 < tl := by have := htl.out; omega
  have hc1 : ¬ c = 1 := by omega
  have h1t := Lib.hid h1
  rw [hx.out] at z0
  rw [hs0.out] at z1
  rw [hn0.out] at z2
  rw [hpp.out] at z3
  have hbk : ¬ b = w.heap.size := by omega
  have hbk2 : ¬ w.heap.size = b := by omega
  clear hpv hp h1
  go_enter Tryz.func58, Tryz.ntmps58
  go_wp2
  refine bodyPost_ret (v := tk k s0 n0 p) (by simp [results, Tryz.results58, go_sem]) rfl ⟨rfl, ?_, ?_⟩
  · exact ((HP.out.adv (m := tl - 1) (d := c - 1) h1t.out (by have := htl.out; omega) rfl).up (new2 _ _ _)).ps
  · exact (Kp.set 0 (by decide) _).trans (Kp.up (new2 _ _ _) (by simpa using hlt))
set_option maxHeartbeats 2000000 in
set_option maxRecDepth 8000 in
theorem take_end (b : Nat) (t : List T4) (n : Nat) (l : List A3) (w : World) (hp : Ps w b t n l) (h1 : t.length = 1) (hx : Hid ((hd t).1 = 5)) :
    Calls Tryz.prog 58 #[.pointer (some ⟨b, 0, none⟩), .int .i64 5] w fun e w' => (∃ s0 n0 p, e = .returned (tk 5 s0 n0 p)) ∧ Kp b w w' ∧ Below b w w' := by
  obtain ⟨V, tb, tq, c, tl, hpv, htl, g0, hfit, hlt, c0, c1, c2, fz, htb, z0, z1, z2, z3⟩ := hp.open_ (by omega)
  have HPS := Lib.hid hp
  obtain rfl : tl = 1 := by have := htl.out; omega
  rw [hx.out] at z0
  obtain ⟨s0, hs0⟩ : ∃ s0, Hid ((hd t).2.1 = s0) := ⟨_, rfl⟩
  obtain ⟨n0, hn0⟩ : ∃ n0, Hid ((hd t).2.2.1 = n0) := ⟨_, rfl⟩
  obtain ⟨p, hpp⟩ : ∃ p, Hid ((hd t).2.2.2 = p) := ⟨_, rfl⟩
  rw [hs0.out] at z1
  rw [hn0.out] at z2
  rw [hpp.out] at z3
  have hbk : ¬ b = w.heap.size := by omega
  have hbk2 : ¬ w.heap.size = b := by omega
  clear hpv hp h1
  by_cases hc1 : c = 1
  · subst hc1
    go_enter Tryz.func58, Tryz.ntmps58
    go_wp2
    refine bodyPost_ret (v := tk 5 s0 n0 p) (by simp [results, Tryz.results58, go_sem]) rfl ⟨⟨_, _, _, rfl⟩, (Kp.set 0 (by decide) _).trans (Kp.up (new2 _ _ _) (by simpa using hlt)), ?_⟩
    exact ((Kp.set 0 (by decide) _).trans (Kp.up (new2 _ _ _) (by simpa using hlt))).below HPS.out
  · go_enter Tryz.func58, Tryz.ntmps58
    go_wp2
    refine bodyPost_ret (v := tk 5 s0 n0 p) (by simp [results, Tryz.results58, go_sem]) rfl ⟨⟨_, _, _, rfl⟩, (Kp.set 0 (by decide) _).trans (Kp.up (new2 _ _ _) (by simpa using hlt)), ?_⟩
    exact ((Kp.set 0 (by decide) _).trans (Kp.up (new2 _ _ _) (by simpa using hlt))).below HPS.out
set_option maxHeartbeats 2000000 in
theorem mayBegin_is (k : Int) (s : ByteArray) (n a : Int) (w : World) {r : Bool} (hr : Hid (mayB (k, s, n, a) = r)) :
    Calls Tryz.prog 108 #[tk k s n a] w fun e w' => e = .returned (.bool r) ∧ Below w.heap.size w w' := by
  by_cases k3 : k = 3
  · have hend : Hid (r = true) := by rw [← hr.out]; exact decide_eq_true (.inl k3)
    have b3 : (k == 3) = true := by rw [beq_iff_eq]; exact k3
    clear hr k3
    go_enter Tryz.func108, Tryz.ntmps108
    go_wp2
    go_ret
    exact ⟨ret_bool hend.out.symm, newB _ _⟩
  · have b3 : (k == 3) = false := by rw [beq_eq_false_iff_ne]; exact k3
    by_cases k1 : k = 1
    · have b1 : (k == 1) = true := by rw [beq_iff_eq]; exact k1
      have hr2 : Hid (decide (s = wAll ∨ s = wAny ∨ rsv s = false) = r) := by
        show _ = _
        rw [← hr.out]
        unfold mayB
        rw [decide_eq_decide]
        simp [k3, k1]
      clear hr k3 k1
      by_cases ha : s = wAll
      · have hend : Hid (r = true) := by rw [← hr2.out]; exact decide_eq_true (.inl ha)
        have ea : (s.toList == [97, 108, 108]) = true := by subst ha; decide +kernel
        clear hr2 ha
        go_enter Tryz.func108, Tryz.ntmps108
        go_wp2
        go_ret
        exact ⟨ret_bool hend.out.symm, newB _ _⟩
      · have ea : (s.toList == [97, 108, 108]) = false := by
          have h := eqS_no.2 ha
          unfold eqS at h
          simpa only [ByteArray.toList_mk] using h
        by_cases hb : s = wAny
        · have hend : Hid (r = true) := by rw [← hr2.out]; exact decide_eq_true (.inr (.inl hb))
          have eb : (s.toList == [97, 110, 121]) = true := by subst hb; decide +kernel
          clear hr2 ha hb
          go_enter Tryz.func108, Tryz.ntmps108
          go_wp2
          go_ret
          exact ⟨ret_bool hend.out.symm, newB _ _⟩
        · have eb : (s.toList == [97, 110, 121]) = false := by
            have h := eqS_no.2 hb
            unfold eqS at h
            simpa only [ByteArray.toList_mk] using h
          obtain ⟨v, hv⟩ : ∃ v, Hid (rsv s = v) := ⟨_, rfl⟩
          have hend : Hid (r = !v) := by
            show _ = _
            rw [← hr2.out, hv.out]
            cases v <;> simp [ha, hb]
          clear hr2 ha hb
          go_enter Tryz.func108, Tryz.ntmps108
          go_wp2_with (go_at_call 74; refine (rsv_is _ _ hv).mono ?_; rintro e W1 ⟨rfl, rfl⟩)
          go_ret
          exact ⟨ret_bool hend.out.symm, newB _ _⟩
    · have hend : Hid (r = false) := by rw [← hr.out]; exact decide_eq_false (by simp [k3, k1])
      have b1 : (k == 1) = false := by rw [beq_eq_false_iff_ne]; exact k1
      clear hr k3 k1
      go_enter Tryz.func108, Tryz.ntmps108
      go_wp2
      go_ret
      exact ⟨ret_bool hend.out.symm, newB _ _⟩
end Go.Proofs.YtlokcmbkkfjlkaaGreatDoor
