/- Contract of the reference's reader: expr. -/
import Derived.Test.YtlokcmbkkfjlkaaGreatDoorRqd
namespace Go.Proofs.YtlokcmbkkfjlkaaGreatDoor.Rdr
open Go.RowKit
set_option linter.unusedVariables false
set_option linter.unusedSimpArgs false

set_option maxHeartbeats 8000000 in
set_option maxRecDepth 100000 in
theorem expr_is (g : Nat) (ih : ∀ f, f < g + 1 → EC f) : EC (g + 1) := by
  intro b t n l d D w hps hw hf hd5 hD
  obtain rfl : D = (d : Int) := hD.out
  clear hD
  have h0 : 0 < t.length := hw.pos
  have H0 := Lib.hid h0
  have HW := Lib.hid hw
  have IH := Lib.hid ih
  have HP := Lib.hid hps
  obtain ⟨R, hR⟩ : ∃ R, Hid (pE (g + 1) d t n l = R) := ⟨_, rfl⟩
  rw [hR.out]
  obtain ⟨k0, hk0⟩ : ∃ k0, Hid ((hd t).1 = k0) := ⟨_, rfl⟩
  obtain ⟨s0, hs0⟩ : ∃ s0, Hid ((hd t).2.1 = s0) := ⟨_, rfl⟩
  obtain ⟨n0, hn0⟩ : ∃ n0, Hid ((hd t).2.2.1 = n0) := ⟨_, rfl⟩
  obtain ⟨p0, hp0⟩ : ∃ p0, Hid ((hd t).2.2.2 = p0) := ⟨_, rfl⟩
  have hbw := hps.lt
  have H4 : Hid (Bx (w.alloc (.cells #[.int .i64 0, .string ⟨#[]⟩, .int .i64 0, .int .i64 0, .slice none 0 0] 28)) b w.heap.size z5 ∧ Ps (w.alloc (.cells #[.int .i64 0, .string ⟨#[]⟩, .int .i64 0, .int .i64 0, .slice none 0 0] 28)) b t n l ∧ Kp b w (w.alloc (.cells #[.int .i64 0, .string ⟨#[]⟩, .int .i64 0, .int .i64 0, .slice none 0 0] 28))) := ⟨Bx.new hps z5 _, hps.up (newB _ _), Kp.up (newB _ _) hps.lt⟩
  have c4 := hps.rf.c4
  have h8 : Hid ((8 : Int) ≠ 0) := by show _ ≠ _; decide
  have h4n : Hid ((4 : Int) ≠ 0) := by show _ ≠ _; decide
  have h1n : Hid ((1 : Int) ≠ 0) := by show _ ≠ _; decide
  clear hw h0 ih hps
  go_enter Tryz.func36, Tryz.ntmps36
  go_upto_region 3 with fail
  clear c4
  generalize hW1 : w.alloc (.cells #[.int .i64 0, .string ⟨#[]⟩, .int .i64 0, .int .i64 0, .slice none 0 0] 28) = W1 at H4 ⊢
  have hw1 : Hid (w.heap.size < W1.heap.size) := by have := H4.out.1.1.lt; exact this
  clear hW1
  go_cut [5] from 9 to 24 (fun x wx => ∃ g5, x = .pointer (some ⟨g5, 0, none⟩) ∧ Fr b w g5 (k0, s0, n0, p0) wx ∧ Ps wx b t n l)
  case first =>
    obtain ⟨j, V, tb, tq, c, tl, hpv, htl, g0, hfit, hsm, hlt, c0, c1, c2, c3, c4, c5, fz, htb, z0, z1, z2, z3⟩ := H4.out.2.1.open_ H0.out
    rw [hk0.out] at z0
    rw [hs0.out] at z1
    rw [hn0.out] at z2
    rw [hp0.out] at z3
    clear hpv htl c2 c3 c4 c5 fz
    go_region
    all_goals (
      go_wp2_with fail
      go_meet
      have hb := bdD (newB W1 (.cells (tk4 (k0, s0, n0, p0)).toArray 53))
      have hk := Kp.up hb H4.out.2.1.lt
      exact ⟨_, rfl, ⟨hbw, hw1.out, H4.out.2.2.trans hk, H4.out.1.kp hk, Bx.new H4.out.2.1 (tk4 (k0, s0, n0, p0)) _⟩, H4.out.2.1.up hb⟩)
  case rest =>
    obtain ⟨g5, rfl, hF1, hP1⟩ := hcut
    have HF1 := Lib.hid hF1
    have HP1 := Lib.hid hP1
    have x0 := hF1.x5.1.cell 0 rfl
    have x1 := hF1.x5.1.cell 1 rfl
    have x3 := hF1.x5.1.cell 3 rfl
    have hg5l := hF1.x5.1.lt
    clear hF1 hP1 H4 hw1
    obtain ⟨rs, hrs⟩ : ∃ rs, Hid (rsv s0 = rs) := ⟨_, rfl⟩
    obtain ⟨Bn, hBn⟩ : ∃ Bn, Hid ((decide (k0 = 1) && !rs) = Bn) := ⟨_, rfl⟩
    obtain ⟨Bg, hBg⟩ : ∃ Bg, Hid ((decide (k0 = 1) && (eqS s0 wAll || eqS s0 wAny)) = Bg) := ⟨_, rfl⟩
    go_upto_region 4 with fail
    go_cut [6] from 25 to 33 (fun y wx => y = .bool Bn ∧ Fr b w g5 (k0, s0, n0, p0) wx ∧ Ps wx b t n l)
    case first =>
      by_cases e1 : k0 = 1
      · have b1 : (k0 == 1) = true := by rw [beq_iff_eq]; exact e1
        have hb : Hid (Bn = !rs) := by show _ = _; rw [← hBn.out, decide_eq_true e1]; rfl
        clear e1 hBn hBg
        go_wp2_with (go_at_call 59; refine (refRsv_is _ _ hrs).mono ?_; rintro e W2 ⟨rfl, rfl⟩)
        go_meet
        exact ⟨by rw [hb.out], HF1.out, HP1.out⟩
      · have b1 : (k0 == 1) = false := by rw [beq_eq_false_iff_ne]; exact e1
        have hb : Hid (Bn = false) := by show _ = _; rw [← hBn.out, decide_eq_false e1]; rfl
        clear e1 hBn hBg
        go_wp2_with fail
        go_meet
        exact ⟨by rw [hb.out], HF1.out, HP1.out⟩
    case rest =>
      obtain ⟨rfl, hF2, hP2⟩ := hcut
      have HF2 := Lib.hid hF2
      have HP2 := Lib.hid hP2
      clear x0 x1 x3 hg5l HF1 HP1
      have x0 := hF2.x5.1.cell 0 rfl
      have x1 := hF2.x5.1.cell 1 rfl
      have x3 := hF2.x5.1.cell 3 rfl
      have hg5l := hF2.x5.1.lt
      clear hF2 hP2
      go_upto_region 5 with fail
      go_cut [7] from 34 to 46 (fun y wx => y = .bool Bg ∧ Fr b w g5 (k0, s0, n0, p0) wx ∧ Ps wx b t n l)
      case first =>
        by_cases e1 : k0 = 1
        · have b1 : (k0 == 1) = true := by rw [beq_iff_eq]; exact e1
          have hb : Hid (Bg = (eqS s0 wAll || eqS s0 wAny)) := by show _ = _; rw [← hBg.out, decide_eq_true e1]; rfl
          clear e1 hBg
          by_cases e2 : s0 = wAll
          · have f1 : (s0.toList == [97, 108, 108]) = true := str_yes e2
            have hb2 : Hid (Bg = true) := by show _ = _; rw [hb.out, eqS_iff.2 e2]; rfl
            clear e2 hb
            go_wp2_with fail
            go_meet
            exact ⟨by rw [hb2.out], HF2.out, HP2.out⟩
          · have f1 : (s0.toList == [97, 108, 108]) = false := str_no e2
            have hb2 : Hid (Bg = eqS s0 wAny) := by show _ = _; rw [hb.out, eqS_no.2 e2]; rfl
            clear e2 hb
            by_cases e3 : s0 = wAny
            · have f2 : (s0.toList == [97, 110, 121]) = true := str_yes e3
              have hb3 : Hid (Bg = true) := by show _ = _; rw [hb2.out, eqS_iff.2 e3]
              clear e3 hb2
              go_wp2_with fail
              go_meet
              exact ⟨by rw [hb3.out], HF2.out, HP2.out⟩
            · have f2 : (s0.toList == [97, 110, 121]) = false := str_no e3
              have hb3 : Hid (Bg = false) := by show _ = _; rw [hb2.out, eqS_no.2 e3]
              clear e3 hb2
              go_wp2_with fail
              go_meet
              exact ⟨by rw [hb3.out], HF2.out, HP2.out⟩
        · have b1 : (k0 == 1) = false := by rw [beq_eq_false_iff_ne]; exact e1
          have hb : Hid (Bg = false) := by show _ = _; rw [← hBg.out, decide_eq_false e1]; rfl
          clear e1 hBg
          go_wp2_with fail
          go_meet
          exact ⟨by rw [hb.out], HF2.out, HP2.out⟩
      case rest =>
        obtain ⟨rfl, hF3, hP3⟩ := hcut
        have HF3 := Lib.hid hF3
        have HP3 := Lib.hid hP3
        clear x0 x1 x3 hg5l HF2 HP2
        have x0 := hF3.x5.1.cell 0 rfl
        have x3 := hF3.x5.1.cell 3 rfl
        have hg5l := hF3.x5.1.lt
        clear hF3 hP3
        have hmb : Hid (mayB (hd t) = (Bn || Bg || decide (k0 = 3))) := by
          show _ = _
          rw [← hBn.out, ← hBg.out, ← hrs.out]
          unfold mayB
          rw [hk0.out, hs0.out, Bool.eq_iff_iff]
          simp only [decide_eq_true_eq, Bool.or_eq_true, Bool.and_eq_true, Bool.not_eq_true', eqS_iff]
          constructor
          · rintro (h | ⟨h, h1 | h1 | h1⟩)
            · exact .inr h
            · exact .inl (.inr ⟨h, .inl h1⟩)
            · exact .inl (.inr ⟨h, .inr h1⟩)
            · exact .inl (.inl ⟨h, h1⟩)
          · rintro ((⟨h, h1⟩ | ⟨h, h1 | h1⟩) | h)
            · exact .inr ⟨h, .inr (.inr h1)⟩
            · exact .inr ⟨h, .inl h1⟩
            · exact .inr ⟨h, .inr (.inl h1)⟩
            · exact .inl h
        by_cases hbad : (Bn || Bg || decide (k0 = 3)) = true
        · have hmt : mayB (hd t) = true := hmb.out.trans hbad
          have hRx : R = (if 4 < d ∨ 24 < n + 1 then .no p0 4
            else if s0 = wAll then (pK g d t.tail (n + 1) l).grp (fun ks => ks.length)
            else if s0 = wAny then (pK g d t.tail (n + 1) l).grp (fun _ => 1)
            else if k0 = 3 then (if (hd t.tail).2.1 = wOf then (pK g d t.tail.tail (n + 1) l).num n0 p0 else .no (hd t.tail).2.2.2 8)
            else pA t (n + 1) l) := by
            rw [← hR.out, pE, if_neg (by rw [hmt]; simp), hs0.out, hk0.out, hn0.out, hp0.out]
          have HRx := Lib.hid hRx
          have HBAD := Lib.hid hbad
          clear hRx hbad hmt hR hmb
          go_upto_region 6 with fail
          go_cut [57] from 47 to 57 (fun y wx => y = .bool false ∧ Fr b w g5 (k0, s0, n0, p0) wx ∧ Ps wx b t n l)
          case first =>
            have hcase : Bn = true ∨ Bg = true ∨ k0 = 3 := by
              have h := HBAD.out
              rw [Bool.or_eq_true, Bool.or_eq_true, decide_eq_true_eq] at h
              rcases h with (h | h) | h
              · exact .inl h
              · exact .inr (.inl h)
              · exact .inr (.inr h)
            clear HBAD hBn hBg
            cases Bn with
            | true =>
              clear hcase
              go_wp2_with fail
              go_meet
              exact ⟨rfl, HF3.out, HP3.out⟩
            | false =>
              cases Bg with
              | true =>
                clear hcase
                go_wp2_with fail
                go_meet
                exact ⟨rfl, HF3.out, HP3.out⟩
              | false =>
                have e3 : k0 = 3 := by
                  rcases hcase with h | h | h
                  · cases h
                  · cases h
                  · exact h
                have b3 : (k0 != 3) = false := by rw [bne_eq_false_iff_eq]; exact e3
                clear hcase e3
                go_wp2_with fail
                go_meet
                exact ⟨rfl, HF3.out, HP3.out⟩
          case rest =>
            obtain ⟨rfl, hF4, hP4⟩ := hcut
            have HF4 := Lib.hid hF4
            have HP4 := Lib.hid hP4
            clear x0 x3 hg5l HF3 HP3
            have x3 := hF4.x5.1.cell 3 rfl
            have hg5l := hF4.x5.1.lt
            obtain ⟨j, V, tb, tq, c, tl, hpv, htl, g0, hfit, hsm, hlt, c0, c1, c2, c3, c4, c5, fz, htb, z0, z1, z2, z3⟩ := hP4.open_ H0.out
            have HPV := Lib.hid hpv
            have hne1 : ¬ b = g5 := fun e => hF4.x5.2.1 e.symm
            have hne2 : ¬ g5 = b := hF4.x5.2.1
            have hn24 := hpv.nn
            have e7 : IntKind.i64.wrap ((n : Int) + 1) = (n : Int) + 1 := by rw [IntKind.wrap_i64]; omega
            clear hpv htl c0 c3 c4 c5 z0 z1 z2 z3 hF4 hP4
            by_cases hd4 : 4 < (d : Int)
            · have hend : Hid (R = .no p0 4) := by show _ = _; rw [HRx.out, if_pos (.inl (by omega))]
              clear HRx hBn hBg HBAD
              go_wp2_with (first
                | (go_at_call 38; refine (fail_is b p0 4 _ (HP4.out.rf.set2 _) h4n).mono ?_; rintro e W9 ⟨rfl, he9⟩; have hf9 := (HF4.out.up (Kp.set 2 (by decide) _)).up he9.2; have r0 := hf9.x4.1.cell 0 rfl; have r1 := hf9.x4.1.cell 1 rfl; have r2 := hf9.x4.1.cell 2 rfl; have r3 := hf9.x4.1.cell 3 rfl; have r4 := hf9.x4.1.cell 4 rfl; have rf := hf9.x4.1.fz; have rl := hf9.x4.1.lt; have HE9 := Lib.hid (hf9.er he9.1); clear he9 hf9))
              have e := hend.out
              subst e
              exact bodyPost_ret (v := xe 0 ⟨#[]⟩ 0 0 none 0 0) (by simp [results, Tryz.results36, go_sem, r0, r1, r2, r3, r4, rf]) rfl ⟨⟨_, _, _, _, _, _, _, rfl⟩, (((((HE9.out.set 0 _).set 1 _).set 2 _).set 3 _).set 4 _).er⟩
            · by_cases hn25 : 24 < (n : Int) + 1
              · have hend : Hid (R = .no p0 4) := by show _ = _; rw [HRx.out, if_pos (.inr (by omega))]
                clear HRx hBn hBg HBAD
                go_wp2_with (first
                  | (go_at_call 38; refine (fail_is b p0 4 _ (HP4.out.rf.set2 _) h4n).mono ?_; rintro e W9 ⟨rfl, he9⟩; have hf9 := (HF4.out.up (Kp.set 2 (by decide) _)).up he9.2; have r0 := hf9.x4.1.cell 0 rfl; have r1 := hf9.x4.1.cell 1 rfl; have r2 := hf9.x4.1.cell 2 rfl; have r3 := hf9.x4.1.cell 3 rfl; have r4 := hf9.x4.1.cell 4 rfl; have rf := hf9.x4.1.fz; have rl := hf9.x4.1.lt; have HE9 := Lib.hid (hf9.er he9.1); clear he9 hf9))
                have e := hend.out
                subst e
                exact bodyPost_ret (v := xe 0 ⟨#[]⟩ 0 0 none 0 0) (by simp [results, Tryz.results36, go_sem, r0, r1, r2, r3, r4, rf]) rfl ⟨⟨_, _, _, _, _, _, _, rfl⟩, (((((HE9.out.set 0 _).set 1 _).set 2 _).set 3 _).set 4 _).er⟩
              · have hRy : R = (if s0 = wAll then (pK g d t.tail (n + 1) l).grp (fun ks => ks.length)
                  else if s0 = wAny then (pK g d t.tail (n + 1) l).grp (fun _ => 1)
                  else if k0 = 3 then (if (hd t.tail).2.1 = wOf then (pK g d t.tail.tail (n + 1) l).num n0 p0 else .no (hd t.tail).2.2.2 8)
                  else pA t (n + 1) l) := by rw [HRx.out, if_neg (by omega)]
                have HRy := Lib.hid hRy
                have hk5 : k0 ≠ 5 := by
                  intro e
                  have h := HBAD.out
                  rw [← hBn.out, ← hBg.out, e] at h
                  simp at h
                obtain ⟨hokT, hw1, hw1l, _⟩ := HW.out.next (by rw [hk0.out]; exact hk5)
                have HOKT := Lib.hid hokT
                have HW1 := Lib.hid hw1
                have hf1 : t.tail.length < g := by omega
                have e5 : IntKind.i64.wrap ((j : Int) + 1) = (j : Int) + 1 := by rw [IntKind.wrap_i64]; omega
                have hd4' : d ≤ 4 := by omega
                have HV5 : Hid (RsV ((wc.setCell ⟨b, 2, none⟩ (.int .i64 ((n : Int) + 1))).setCell ⟨b, 1, none⟩ (.int .i64 ((j : Int) + 1))) b (j + 1) t.tail (n + 1) l V tb tq c) := (HPV.out.set2 (n + 1) (by omega) (by omega)).adv H0.out rfl
                have HF5 : Hid (Fr b w g5 (k0, s0, n0, p0) ((wc.setCell ⟨b, 2, none⟩ (.int .i64 ((n : Int) + 1))).setCell ⟨b, 1, none⟩ (.int .i64 ((j : Int) + 1)))) := (HF4.out.up (Kp.set 2 (by decide) _)).up (Kp.set 1 (by decide) _)
                clear HRx hRy hk5 hokT hw1 hw1l
                go_upto_region 14 with fail
                generalize (wc.setCell ⟨b, 2, none⟩ (.int .i64 ((n : Int) + 1))).setCell ⟨b, 1, none⟩ (.int .i64 ((j : Int) + 1)) = W5 at HV5 HF5 ⊢
                clear x3 hg5l HF4 HP4 HPV c1 c2 fz g0 hfit hsm hlt htb e5 e7 hn24 hd4 hn25
                cases Bn with
                | true =>
                  have hnm : k0 = 1 ∧ rs = false := by
                    have h := hBn.out
                    rw [Bool.and_eq_true, decide_eq_true_eq, Bool.not_eq_true'] at h
                    exact h
                  have hrv : rsv s0 = false := hrs.out.trans hnm.2
                  have hRz : R = pA ((k0, s0, n0, p0) :: t.tail) (n + 1) l := by
                    have rA : rsv wAll = true := by kernel_rfl
                    have rB : rsv wAny = true := by kernel_rfl
                    have e : t = (k0, s0, n0, p0) :: t.tail := by
                      rw [← hk0.out, ← hs0.out, ← hn0.out, ← hp0.out]
                      exact HW.out.cons
                    rw [HRy.out, if_neg (by rintro rfl; rw [rA] at hrv; cases hrv), if_neg (by rintro rfl; rw [rB] at hrv; cases hrv), if_neg (by omega), ← e]
                  have x0 := HF5.out.x5.1.cell 0 rfl
                  have x1 := HF5.out.x5.1.cell 1 rfl
                  have x2 := HF5.out.x5.1.cell 2 rfl
                  have x3 := HF5.out.x5.1.cell 3 rfl
                  have hg5l := HF5.out.x5.1.lt
                  have HRZ := Lib.hid hRz
                  have AT := atom_is b t.tail (n + 1) l k0 s0 n0 p0 W5 HV5.out.ps HW1.out
                  clear hnm hrv hRz hBn hBg HBAD HRy
                  cases hres : pA ((k0, s0, n0, p0) :: t.tail) (n + 1) l with
                  | ok x t' n' l' =>
                    rw [hres] at AT
                    have HAT := Lib.hid AT
                    have hend : Hid (R = .ok x t' n' l') := by show _ = _; rw [HRZ.out, hres]
                    clear AT hres HRZ
                    go_wp2_with (go_at_call 60; refine HAT.out.mono ?_; rintro e W6 ⟨⟨k', s', m', u', A', nn, c', rfl, ht⟩, hg6⟩; have hf6 := HF5.out.up hg6.2; have r0 := hf6.x4.1.cell 0 rfl; have r1 := hf6.x4.1.cell 1 rfl; have r2 := hf6.x4.1.cell 2 rfl; have r3 := hf6.x4.1.cell 3 rfl; have r4 := hf6.x4.1.cell 4 rfl; have rf := hf6.x4.1.fz; have rl := hf6.x4.1.lt; have HF6 := Lib.hid hf6; have HT6 := Lib.hid ht; have HP6 := Lib.hid hg6.1; clear ht hg6 hf6)
                    have e := hend.out
                    subst e
                    have hst : St3 b t' n' l' w w.heap.size W6 := ⟨HP6.out, HF6.out.kp, HF6.out.hb, Nat.le_refl _, HF6.out.x4.2.2⟩
                    have hlt5 : w.heap.size < W5.heap.size := HF5.out.x4.1.lt
                    exact bodyPost_ret (v := xe k' s' m' u' A' nn c') (by simp [results, Tryz.results36, go_sem, r0, r1, r2, r3, r4, rf]) rfl ⟨⟨_, _, _, _, _, _, _, rfl, (TIn.five HT6.out hlt5 HF6.out.x4.2.1 _ _ _ _ _).mono (Nw.mono (Nat.le_of_lt hlt5))⟩, St3.five hst _ _ _ _ _⟩
                  | no p e =>
                    rw [hres] at AT
                    have HAT := Lib.hid AT
                    have hend : Hid (R = .no p e) := by show _ = _; rw [HRZ.out, hres]
                    clear AT hres HRZ
                    go_wp2_with (go_at_call 60; refine HAT.out.mono ?_; rintro e6 W6 ⟨⟨k', s', m', u', A', nn, c', rfl⟩, hg6⟩; have hf6 := HF5.out.up hg6.2; have r0 := hf6.x4.1.cell 0 rfl; have r1 := hf6.x4.1.cell 1 rfl; have r2 := hf6.x4.1.cell 2 rfl; have r3 := hf6.x4.1.cell 3 rfl; have r4 := hf6.x4.1.cell 4 rfl; have rf := hf6.x4.1.fz; have rl := hf6.x4.1.lt; have HE9 := Lib.hid (hf6.er hg6.1); clear hg6 hf6)
                    have e := hend.out
                    subst e
                    exact bodyPost_ret (v := xe k' s' m' u' A' nn c') (by simp [results, Tryz.results36, go_sem, r0, r1, r2, r3, r4, rf]) rfl ⟨⟨_, _, _, _, _, _, _, rfl⟩, (((((HE9.out.set 0 _).set 1 _).set 2 _).set 3 _).set 4 _).er⟩
                | false =>
                  have hgk : Hid ((Bg = true ∧ (s0 = wAll ∨ s0 = wAny)) ∨ (Bg = false ∧ k0 = 3 ∧ s0 = ⟨#[]⟩)) := by
                    have h := HBAD.out
                    cases hg : Bg with
                    | true =>
                      rw [hg] at hBg
                      have h2 := hBg.out
                      rw [Bool.and_eq_true, Bool.or_eq_true] at h2
                      exact .inl ⟨rfl, h2.2.imp eqS_iff.1 eqS_iff.1⟩
                    | false =>
                      rw [hg] at h
                      have e3 : k0 = 3 := by simpa using h
                      refine .inr ⟨rfl, e3, ?_⟩
                      rcases HOKT.out with ⟨q, _⟩ | ⟨q, _⟩ | ⟨_, q, _⟩ | ⟨q, _⟩
                      · rw [hk0.out] at q; omega
                      · rw [hk0.out] at q; omega
                      · rw [← hs0.out]; exact q
                      · rw [hk0.out] at q; omega
                  clear hBn hBg HBAD
                  go_upto_if 96 with fail
                  go_cut [] from 58 to 98 (fun wx => Fr b w g5 (k0, s0, n0, p0) wx ∧ Hid (ST2 b (n + 1) l g d R s0 n0 p0 wx))
                  case first =>
                    rcases hgk.out with ⟨e1, e2⟩ | ⟨e1, e2, e3⟩
                    · subst e1
                      have hST : Hid (ST2 b (n + 1) l g d R s0 n0 p0 W5) := by
                        refine ⟨_, ?_, .inl ⟨t.tail, HV5.out.ps, HW1.out, hf1, rfl⟩⟩
                        rw [HRy.out]
                        unfold wrapR
                        rcases e2 with rfl | rfl
                        · rw [if_pos rfl, if_pos rfl]
                        · rw [if_neg (by decide), if_pos rfl, if_neg (by decide), if_pos rfl]
                      clear e2 HRy hgk
                      go_wp2_with fail
                      go_meet
                      exact ⟨HF5.out, hST.out⟩
                    · subst e1
                      have hRw : Hid (R = (if (hd t.tail).2.1 = wOf then wrapR s0 n0 p0 (pK g d t.tail.tail (n + 1) l) else .no (hd t.tail).2.2.2 8)) := by
                        show _ = _
                        have nA : s0 ≠ wAll := by rw [e3]; decide
                        have nB : s0 ≠ wAny := by rw [e3]; decide
                        rw [HRy.out, if_neg nA, if_neg nB, if_pos e2]
                        unfold wrapR
                        rw [if_neg nA, if_neg nB]
                      clear HRy e2 e3 hgk
                      have H1 := Lib.hid HW1.out.pos
                      by_cases ho : (hd t.tail).2.1 = wOf
                      · obtain ⟨q1, q2, q3, q4⟩ := HW1.out.word (by rw [ho]; exact wOf_l)
                        have hr := Lib.hid (tkIs_yes q1 ho)
                        have hRw2 : Hid (R = wrapR s0 n0 p0 (pK g d t.tail.tail (n + 1) l)) := by show _ = _; rw [hRw.out, if_pos ho]
                        have HQ2 := Lib.hid q2
                        have hq3 : t.tail.tail.length < g := by omega
                        clear ho q1 q2 q3 q4 hRw
                        go_wp2_with (go_at_call 61; refine (want_yes b t.tail (n + 1) l 1 wOf _ HV5.out.ps H1.out hr).mono ?_; rintro e W6 ⟨rfl, hs6, hk6⟩; have HS6 := Lib.hid hs6; have HK6 := Lib.hid hk6; clear hs6 hk6)
                        go_meet
                        exact ⟨HF5.out.up HK6.out, _, hRw2.out, .inl ⟨t.tail.tail, HS6.out, HQ2.out, hq3, rfl⟩⟩
                      · have hr := Lib.hid (tkIs_no (k := 1) ho)
                        obtain ⟨p1, hp1⟩ : ∃ p1, Hid ((hd t.tail).2.2.2 = p1) := ⟨_, rfl⟩
                        have hRw2 : Hid (R = wrapR s0 n0 p0 (.no p1 8)) := by show _ = _; rw [hRw.out, if_neg ho, wrapR_no, hp1.out]
                        clear ho hRw
                        go_wp2_with (go_at_call 61; refine (want_no b t.tail (n + 1) l 1 wOf _ HV5.out.ps H1.out hr hp1).mono ?_; rintro e W6 ⟨rfl, hs6, hk6⟩; have HS6 := Lib.hid hs6; have HK6 := Lib.hid hk6; clear hs6 hk6)
                        go_meet
                        exact ⟨HF5.out.up HK6.out, _, hRw2.out, .inr ⟨p1, 8, HS6.out, rfl⟩⟩
                  case rest =>
                    obtain ⟨hF6, hST6⟩ := hcut
                    have HF6 := Lib.hid hF6
                    clear hF6 HF5 HV5 HW1 HOKT hgk HRy
                    go_upto_region 18 with fail
                    go_cut [] from 99 to 100 (fun wx => Fr b w g5 (k0, s0, n0, p0) wx ∧ Hid (ST3 b (n + 1) l g d R s0 n0 p0 wx))
                    case first =>
                      obtain ⟨r, hRr, hc⟩ := hST6.out
                      have HRr := Lib.hid hRr
                      clear hRr hST6
                      rcases hc with ⟨t1, hp1, hw1, hl1, rfl⟩ | ⟨p1, e1, he1, rfl⟩
                      · obtain ⟨g2, rfl⟩ : ∃ g2, g = g2 + 1 := ⟨g - 1, by omega⟩
                        have HP1 := Lib.hid hp1
                        have HW1 := Lib.hid hw1
                        have H1 := Lib.hid hw1.pos
                        clear hp1 hw1
                        by_cases ho : (hd t1).2.1 = wOpen
                        · obtain ⟨q1, q2, q3, q4⟩ := HW1.out.punc (by rw [ho]; exact wOpen_p)
                          have hr := Lib.hid (tkIs_yes q1 ho)
                          have HRw : Hid (R = wrapR s0 n0 p0 (K2 g2 d t1.tail (n + 1) l)) := by show _ = _; rw [HRr.out, pK_open ho]
                          have HQ2 := Lib.hid q2
                          have hq3 : t1.tail.length < g2 := by omega
                          clear ho q1 q2 q3 q4 HRr
                          go_wp2_with (go_at_call 61; refine (want_yes b t1 (n + 1) l 4 wOpen _ HP1.out H1.out hr).mono ?_; rintro e W7 ⟨rfl, hs6, hk6⟩; have HS6 := Lib.hid hs6; have HK6 := Lib.hid hk6; clear hs6 hk6)
                          go_meet
                          exact ⟨HF6.out.up HK6.out, _, HRw.out, .inl ⟨g2, t1.tail, HS6.out, HQ2.out, hq3, Nat.lt_succ_self _, rfl⟩⟩
                        · have hr := Lib.hid (tkIs_no (k := 4) ho)
                          obtain ⟨p1, hp1⟩ : ∃ p1, Hid ((hd t1).2.2.2 = p1) := ⟨_, rfl⟩
                          have HRw : Hid (R = wrapR s0 n0 p0 (.no p1 8)) := by show _ = _; rw [HRr.out, pK_shut ho, hp1.out]
                          clear ho HRr
                          go_wp2_with (go_at_call 61; refine (want_no b t1 (n + 1) l 4 wOpen _ HP1.out H1.out hr hp1).mono ?_; rintro e W7 ⟨rfl, hs6, hk6⟩; have HS6 := Lib.hid hs6; have HK6 := Lib.hid hk6; clear hs6 hk6)
                          go_meet
                          exact ⟨HF6.out.up HK6.out, _, HRw.out, .inr ⟨p1, 8, HS6.out, rfl⟩⟩
                      · have HE := Lib.hid he1
                        clear he1
                        go_wp2_with (go_at_call 61; refine (want_skip b 4 wOpen _ HE).mono ?_; rintro e W7 ⟨rfl, rfl⟩)
                        go_meet
                        exact ⟨HF6.out, _, HRr.out, .inr ⟨p1, e1, HE.out, rfl⟩⟩
                    case rest =>
                      obtain ⟨hF7, hST7⟩ := hcut
                      have HF7 := Lib.hid hF7
                      have e6 : IntKind.i64.wrap ((d : Int) + 1) = (d : Int) + 1 := by rw [IntKind.wrap_i64]; omega
                      have hD : Hid ((d : Int) + 1 = ((d + 1 : Nat) : Int)) := rfl
                      clear hF7 HF6 hST6
                      go_upto_region 19 with fail
                      go_cut [8] from 101 to 106 (fun y wx => ∃ x A nn c, y = .pointer (some ⟨x, 0, none⟩) ∧ Fr b w g5 (k0, s0, n0, p0) wx ∧ Hid (ST4 b g d (g5 + 1) x A nn c R s0 n0 p0 wx))
                      case first =>
                        obtain ⟨r, hRr, hc⟩ := hST7.out
                        have HRr := Lib.hid hRr
                        clear hRr hST7
                        rcases hc with ⟨g2, t2, hp2, hw2, hl2, hg2, rfl⟩ | ⟨p1, e1, he1, rfl⟩
                        · have HP2 := Lib.hid hp2
                          have HW2 := Lib.hid hw2
                          have HCE := Lib.hid (IH.out g2 (by omega) b t2 (n + 1) l (d + 1) ((d : Int) + 1) wc hp2 hw2 hl2 (by omega) hD)
                          clear hp2 hw2
                          have hkk : K2 g2 d t2 (n + 1) l = match pE g2 (d + 1) t2 (n + 1) l with
                            | .ok e t1 n1 l1 => pM g2 d [e] t1 n1 l1
                            | .no p e => .no p e := rfl
                          have HKK := Lib.hid hkk
                          clear hkk
                          cases hres : pE g2 (d + 1) t2 (n + 1) l with
                          | ok y t3 n3 l3 =>
                            rw [hres] at HCE HKK
                            obtain ⟨p1, p2, p3, p4, p5, p6⟩ := pE_ok HW2.out hres
                            have HWT := Lib.hid p1
                            have hc1 := cnt_pos y
                            have hlen1 : Hid (([y] : List Ex).length ≤ n3) := by show _ ≤ _; simp; omega
                            have hf3 : t3.length < g2 := by omega
                            clear hres p1 p2 p3 p4 p5 p6 hc1
                            go_wp2_with (go_at_call 36; refine HCE.out.mono ?_; rintro e W8 ⟨⟨k', s', m', u', A', nn', c', rfl, ht⟩, hg8⟩; have HF8 := Lib.hid (HF7.out.up hg8.2); have HP8 := Lib.hid hg8.1; have HT8 : Hid (TIn (Nw (g5 + 1) b W8) W8 ⟨k', s', m', u', A', nn', c'⟩ y) := ht.mono (Nw.mono HF7.out.x5.1.lt); clear ht hg8)
                            go_meet
                            have hfst := KS.first (b := b) (lo := g5 + 1) (w := W8) (v := ⟨k', s', m', u', A', nn', c'⟩) (e := y) 28 rfl (.cells #[.int .i64 0, .string ⟨#[]⟩, .int .i64 0, .int .i64 0, .slice (some ⟨W8.heap.size, 0, none⟩) 1 1] 28) HP8.out.lt HF8.out.x5.1.lt (fun k h => (rowOf_lt HP8.out h).2) HT8.out
                            have hb1 := newB W8 (.cells #[.int .i64 k', .string s', .int .i64 m', .int .i64 u', .slice A' nn' c'] 28)
                            have hb2 := nxA hb1 (.cells #[.int .i64 0, .string ⟨#[]⟩, .int .i64 0, .int .i64 0, .slice (some ⟨W8.heap.size, 0, none⟩) 1 1] 28)
                            have hx := Bx.new (HP8.out.up hb1) [.int .i64 0, .string ⟨#[]⟩, .int .i64 0, .int .i64 0, .slice (some ⟨W8.heap.size, 0, none⟩) 1 1] 28
                            have hsz : (W8.alloc (.cells #[.int .i64 k', .string s', .int .i64 m', .int .i64 u', .slice A' nn' c'] 28)).heap.size = W8.heap.size + 1 := by simp
                            rw [hsz] at hx
                            exact ⟨W8.heap.size + 1, _, 1, 1, rfl, HF8.out.low hb2, _, HRr.out, .inl ⟨[y], _, t3, n3, l3, g2, ⟨hfst, HP8.out.up hb2, HWT.out, hf3, Nat.le_of_lt hg2, hlen1.out, Nat.succ_le_succ (Nat.le_of_lt HF8.out.x5.1.lt), hx⟩, HKK.out⟩⟩
                          | no p1 e1 =>
                            rw [hres] at HCE HKK
                            clear hres
                            go_wp2_with (go_at_call 36; refine HCE.out.mono ?_; rintro e W8 ⟨⟨k', s', m', u', A', nn', c', rfl⟩, hg8⟩; have HF8 := Lib.hid (HF7.out.up hg8.2); have HE8 := Lib.hid hg8.1; clear hg8)
                            go_meet
                            have hb1 := newB W8 (.cells #[.int .i64 k', .string s', .int .i64 m', .int .i64 u', .slice A' nn' c'] 28)
                            have hb2 := nxA hb1 (.cells #[.int .i64 0, .string ⟨#[]⟩, .int .i64 0, .int .i64 0, .slice (some ⟨W8.heap.size, 0, none⟩) 1 1] 28)
                            exact ⟨W8.heap.size + 1, none, 0, 0, rfl, HF8.out.low hb2, _, HRr.out, .inr ⟨p1, e1, HE8.out.up hb2, HKK.out⟩⟩
                        · have HE := Lib.hid he1
                          clear he1
                          go_wp2_with (go_at_call 36; refine (expr_skip b ((d : Int) + 1) _ HE).mono ?_; rintro e W8 ⟨rfl, hb8⟩; have HF8 := Lib.hid (HF7.out.low hb8); have HE8 := Lib.hid (HE.out.up hb8); clear hb8)
                          go_meet
                          have hb1 := newB W8 (.cells #[.int .i64 0, .string ⟨#[]⟩, .int .i64 0, .int .i64 0, .slice none 0 0] 28)
                          have hb2 := nxA hb1 (.cells #[.int .i64 0, .string ⟨#[]⟩, .int .i64 0, .int .i64 0, .slice (some ⟨W8.heap.size, 0, none⟩) 1 1] 28)
                          exact ⟨W8.heap.size + 1, none, 0, 0, rfl, HF8.out.low hb2, _, HRr.out, .inr ⟨p1, e1, HE8.out.up hb2, rfl⟩⟩
                      case rest =>
                        obtain ⟨x, A0, nn0, c0, rfl, hF8, hST8⟩ := hcut
                        have HF8 := Lib.hid hF8
                        clear hF8 hST7 HF7
                        go_wp2_with fail
                        go_loopw [] (fun wr => ∃ (A : Option Addr) (nn c : Nat), Hid (Fr b w g5 (k0, s0, n0, p0) wr) ∧ Hid (ST4 b g d (g5 + 1) x A nn c R s0 n0 p0 wr)) (fun wr => tkn wr b)
                        case atStart => exact ⟨A0, nn0, c0, HF8.out, hST8.out⟩
                        case round =>
                          obtain ⟨A, nn, c, hF, hST⟩ := hrel
                          obtain ⟨r, hRr, hc⟩ := hST.out
                          have HRr := Lib.hid hRr
                          clear hRr hST
                          have hlt := hF.out.lt
                          rcases hc with ⟨es, vs, t3, n3, l3, f3, hK, rfl⟩ | ⟨p1, e1, he1, rfl⟩
                          · obtain ⟨f2, rfl⟩ : ∃ f2, f3 = f2 + 1 := ⟨f3 - 1, by have := hK.lt3; omega⟩
                            have HK := Lib.hid hK
                            have hW3 := hK.wt
                            have HW3 := Lib.hid hW3
                            have H3 := Lib.hid hW3.pos
                            have hlt3 := hK.lt3
                            have hfg := hK.fg
                            obtain ⟨j, V, tb, tq, c', tl, hpv, htl, g0, hfit, hsm, -, c0', c1, c2, c3, c4, c5, fz, htb, z0, z1, z2, z3⟩ := hK.ps.open_ H3.out
                            have HPV := Lib.hid hpv
                            have hn3 := hpv.nn
                            have e5 : IntKind.i64.wrap ((j : Int) + 1) = (j : Int) + 1 := by rw [IntKind.wrap_i64]; omega
                            have hblo : Hid (b < g5 + 1) := by have h1 := hF.out.hb; have h2 := hF.out.hg; show _ < _; omega
                            clear hK hW3 hpv htl c0' c2 c3 c5 z0 z1 z2 z3 htb
                            by_cases hc : (hd t3).2.1 = wCom
                            · obtain ⟨q1, q2, q3, q4⟩ := HW3.out.punc (by rw [hc]; exact wCom_p)
                              have hr := Lib.hid (tkIs_yes q1 hc)
                              have HQ2 := Lib.hid q2
                              have hRM : R = wrapR s0 n0 p0 (match pE f2 (d + 1) t3.tail n3 l3 with
                                | .ok e t1 n1 l1 => pM f2 d (es ++ [e]) t1 n1 l1
                                | .no p e => .no p e) := by
                                rw [HRr.out, pM, if_pos hc]
                                rfl
                              have HRM := Lib.hid hRM
                              have hvs : Hid (vs.length + 1 ≤ 1000000) := by have h1 := HK.out.ks.len; have h2 := HK.out.en; show _ ≤ _; omega
                              have hlt4 : t3.tail.length < f2 := by omega
                              clear hRM HRr hc q1 q2 q3 q4
                              go_upto_region 22 with (go_at_call 62; refine (is_is b t3 n3 l3 4 wCom _ HPV.out.ps H3.out hr).mono ?_; rintro e W2 ⟨rfl, hb2⟩; have hv := HPV.out.up hb2; clear c1 c4 fz hlt; have hlt := hv.lt; have c1 := hv.c1; have c4 := hv.c4; have fz := hv.fz; have HV2 := Lib.hid hv; have HB2 := Lib.hid hb2; clear hv hb2)
                              have hkp : Kp b wr (W2.setCell ⟨b, 1, none⟩ (.int .i64 ((j : Int) + 1))) := (Kp.up HB2.out HPV.out.lt).trans (Kp.set 1 (by decide) _)
                              have HV3 : Hid (Ps (W2.setCell ⟨b, 1, none⟩ (.int .i64 ((j : Int) + 1))) b t3.tail n3 l3) := (HV2.out.adv H3.out rfl).ps
                              have HF3 := Lib.hid (hF.out.up hkp)
                              have HKS3 := Lib.hid (HK.out.ks.kp hkp hblo.out)
                              have HBX3 := Lib.hid (HK.out.bx.kp hkp)
                              generalize W2.setCell ⟨b, 1, none⟩ (.int .i64 ((j : Int) + 1)) = W3 at HV3 HF3 HKS3 HBX3 hkp ⊢
                              have xc := HBX3.out.1.cell 4 rfl
                              have xl := HBX3.out.1.lt
                              clear hkp c1 c4 fz hlt e5 g0 hfit hsm HV2 HB2
                              have HCE : Hid (∀ W, Ps W b t3.tail n3 l3 → Calls Tryz.prog 36 #[.pointer (some ⟨b, 0, none⟩), .int .i64 ((d : Int) + 1)] W (ExQ b (pE f2 (d + 1) t3.tail n3 l3) W)) := fun W hW => IH.out f2 (by omega) b t3.tail n3 l3 (d + 1) ((d : Int) + 1) W hW HQ2.out hlt4 (by omega) hD
                              cases hres : pE f2 (d + 1) t3.tail n3 l3 with
                              | ok y t4 n4 l4 =>
                                rw [hres] at HCE HRM
                                obtain ⟨p1, p2, p3, p4, p5, p6⟩ := pE_ok HQ2.out hres
                                have HWT := Lib.hid p1
                                have hc1 := cnt_pos y
                                have hlen1 : Hid ((es ++ [y]).length ≤ n4) := by have := HK.out.en; show _ ≤ _; simp; omega
                                have hf4 : t4.length < f2 := by omega
                                have hms : Hid (t4.length < t3.length) := by show _ < _; simp at p2; omega
                                clear hres p1 p2 p3 p4 p5 p6 hc1
                                go_region_law (first
                                  | (refine step_app_expr rfl (.tmp 124) (.tmp 129) rfl (g5 + 1) (.slice A nn c) vs _ [⟨k', s', m', u', A', nn', c'⟩] 1 1 rfl (by simp [Act.eval, Act.put]) (by simp [Act.eval, Act.put]) (HKS8.out.kp (Kp.up (newB W8 _) HF8.out.lt) hblo.out).own (XRd.one_at _ _ ⟨k', s', m', u', A', nn', c'⟩ rfl) hvs (Nat.le_trans HF8.out.x5.1.lt (newB W8 _).size) ?_; intro V5 w5 ho5 hg5 hn5; obtain ⟨A5, c5, hV5, -, -, -, -⟩ := ho5.form; obtain ⟨k5, hk5⟩ : ∃ k5, Hid ((vs ++ [(⟨k', s', m', u', A', nn', c'⟩ : XV)]).length = k5) := ⟨_, rfl⟩; rw [hk5.out] at hV5; subst hV5; have hkb := HKS8.out.kp (Kp.up (newB W8 (.cells #[.int .i64 k', .string s', .int .i64 m', .int .i64 u', .slice A' nn' c'] 28)) HF8.out.lt) hblo.out; have HF5 := Lib.hid ((HF8.out.low (newB W8 (.cells #[.int .i64 k', .string s', .int .i64 m', .int .i64 u', .slice A' nn' c'] 28))).grown hg5 (fun q hq => (own_lt hkb.own hq).1)); have hx5 := (HBX8.out.kp (Kp.up (newB W8 (.cells #[.int .i64 k', .string s', .int .i64 m', .int .i64 u', .slice A' nn' c'] 28)) HF8.out.lt)).grown (HF8.out.low (newB W8 _)).lt hg5 (fun q hq => ⟨Nat.lt_of_lt_of_le hblo.out (own_lt hkb.own hq).1, (hkb.apart q hq).2⟩); have HBX5 := Lib.hid hx5; have HKS5 := Lib.hid (KS.app hkb hblo.out (HF8.out.low (newB W8 _)).lt (HBX8.out.kp (Kp.up (newB W8 _) HF8.out.lt)).1.lt (fun q hq => (rowOf_lt (HP8.out.up (newB W8 _)) hq).2) (Nat.le_trans HF8.out.x5.1.lt (newB W8 _).size) ho5 hg5 hn5 (TIn.upK HT8.out (newB W8 _) HF8.out.lt)); have HP5 := Lib.hid ((HP8.out.up (newB W8 (.cells #[.int .i64 k', .string s', .int .i64 m', .int .i64 u', .slice A' nn' c'] 28))).grown hg5 (fun q hq => ⟨Nat.lt_of_lt_of_le hblo.out (own_lt hkb.own hq).1, (hkb.apart q hq).1⟩)); clear xc xl; have xc := hx5.1.cell 4 rfl; have xf := hx5.1.fz; have xl := hx5.1.lt; clear ho5 hg5 hn5 hkb hx5)
                                  | (go_simp; go_at_call 36; refine (HCE.out _ (HV3.out.up (bdD (Below.refl _ _)))).mono ?_; rintro e W8 ⟨⟨k', s', m', u', A', nn', c', rfl, ht⟩, hg8⟩; have hk8 : Kp b W3 W8 := (Kp.up (bdD (Below.refl _ _)) HV3.out.lt).trans hg8.2; have HF8 := Lib.hid (HF3.out.up hk8); have HP8 := Lib.hid hg8.1; have HKS8 := Lib.hid (HKS3.out.kp hk8 hblo.out); have HBX8 := Lib.hid (HBX3.out.kp hk8); have HT8 := Lib.hid (TIn.since (lo := g5 + 1) (x := x) (V := .slice A nn c) ht HF3.out.x5.1.lt HBX3.out.1.lt (fun q hq => (own_lt HKS3.out.own hq).2)); clear xc xl; have xc := HBX8.out.1.cell 4 rfl; have xl := HBX8.out.1.lt; clear ht hg8 hk8))
                                all_goals (
                                  go_wp2
                                  go_roundw
                                  case rel =>
                                    have hgx : g5 < x := HK.out.lx
                                    have hbx : b < x := by have := hblo.out; omega
                                    exact ⟨A5, k5, c5, HF5.out.box hgx 4 _, _, HRM.out, .inl ⟨es ++ [y], _, t4, n4, l4, f2, ⟨HKS5.out.set (by omega) 4 _, HP5.out.box hbx HBX5.out.2.2 4 _, HWT.out, hf4, by omega, hlen1.out, HK.out.lx, HBX5.out.own 4 _⟩, rfl⟩⟩
                                  case measure =>
                                    have hgx : g5 < x := HK.out.lx
                                    have hbx : b < x := by have := hblo.out; omega
                                    rw [(HP5.out.box hbx HBX5.out.2.2 4 _).tkn, HK.out.ps.tkn]
                                    have := hms.out
                                    omega)
                              | no p1 e1 =>
                                rw [hres] at HCE HRM
                                clear hres
                                go_region_law (first
                                  | (refine step_app_expr rfl (.tmp 124) (.tmp 129) rfl (g5 + 1) (.slice A nn c) vs _ [⟨k', s', m', u', A', nn', c'⟩] 1 1 rfl (by simp [Act.eval, Act.put]) (by simp [Act.eval, Act.put]) (HKS8.out.kp (Kp.up (newB W8 _) HF8.out.lt) hblo.out).own (XRd.one_at _ _ ⟨k', s', m', u', A', nn', c'⟩ rfl) hvs (Nat.le_trans HF8.out.x5.1.lt (newB W8 _).size) ?_; intro V5 w5 ho5 hg5 hn5; obtain ⟨A5, c5, hV5, -, -, -, -⟩ := ho5.form; obtain ⟨k5, hk5⟩ : ∃ k5, Hid ((vs ++ [(⟨k', s', m', u', A', nn', c'⟩ : XV)]).length = k5) := ⟨_, rfl⟩; rw [hk5.out] at hV5; subst hV5; have hkb := HKS8.out.kp (Kp.up (newB W8 (.cells #[.int .i64 k', .string s', .int .i64 m', .int .i64 u', .slice A' nn' c'] 28)) HF8.out.lt) hblo.out; have HF5 := Lib.hid ((HF8.out.low (newB W8 (.cells #[.int .i64 k', .string s', .int .i64 m', .int .i64 u', .slice A' nn' c'] 28))).grown hg5 (fun q hq => (own_lt hkb.own hq).1)); have hx5 := (HBX8.out.kp (Kp.up (newB W8 (.cells #[.int .i64 k', .string s', .int .i64 m', .int .i64 u', .slice A' nn' c'] 28)) HF8.out.lt)).grown (HF8.out.low (newB W8 _)).lt hg5 (fun q hq => ⟨Nat.lt_of_lt_of_le hblo.out (own_lt hkb.own hq).1, (hkb.apart q hq).2⟩); have HBX5 := Lib.hid hx5; have HE5 := Lib.hid ((HE8.out.up (newB W8 (.cells #[.int .i64 k', .string s', .int .i64 m', .int .i64 u', .slice A' nn' c'] 28))).grown hg5 (fun q hq => Nat.lt_of_lt_of_le hblo.out (own_lt hkb.own hq).1)); clear xc xl; have xc := hx5.1.cell 4 rfl; have xf := hx5.1.fz; have xl := hx5.1.lt; clear ho5 hg5 hn5 hkb hx5)
                                  | (go_simp; go_at_call 36; refine (HCE.out _ (HV3.out.up (bdD (Below.refl _ _)))).mono ?_; rintro e W8 ⟨⟨k', s', m', u', A', nn', c', rfl⟩, hg8⟩; have hk8 : Kp b W3 W8 := (Kp.up (bdD (Below.refl _ _)) HV3.out.lt).trans hg8.2; have HF8 := Lib.hid (HF3.out.up hk8); have HE8 := Lib.hid hg8.1; have HKS8 := Lib.hid (HKS3.out.kp hk8 hblo.out); have HBX8 := Lib.hid (HBX3.out.kp hk8); clear xc xl; have xc := HBX8.out.1.cell 4 rfl; have xl := HBX8.out.1.lt; clear hg8 hk8))
                                all_goals (
                                  go_wp2
                                  go_roundw
                                  case rel =>
                                    have hgx : g5 < x := HK.out.lx
                                    have hbx : b < x := by have := hblo.out; omega
                                    exact ⟨A5, k5, c5, HF5.out.box hgx 4 _, _, HRM.out, .inr ⟨p1, e1, HE5.out.of (block_set _ _ _ (by omega)) (by simp [World.setCell]), rfl⟩⟩
                                  case measure =>
                                    have hgx : g5 < x := HK.out.lx
                                    have hbx : b < x := by have := hblo.out; omega
                                    rw [(HE5.out.of (block_set _ _ _ (by omega)) (by simp [World.setCell])).tkn, HK.out.ps.tkn]
                                    omega)
                            · have hr := Lib.hid (tkIs_no (k := 4) hc)
                              have hgx : g5 < x := HK.out.lx
                              have hbx : b < x := by have := hblo.out; omega
                              have hwg := hF.out.hg
                              have xd1 : ¬ x = w.heap.size := by omega
                              have xd2 : ¬ w.heap.size = x := by omega
                              have xd3 : ¬ x = g5 := by omega
                              have xd4 : ¬ g5 = x := by omega
                              have xd5 : ¬ x = b := by omega
                              have xd6 : ¬ b = x := by omega
                              by_cases hcl : (hd t3).2.1 = wCls
                              · obtain ⟨q1, q2, q3, q4⟩ := HW3.out.punc (by rw [hcl]; exact wCls_p)
                                have hr2 := Lib.hid (tkIs_yes q1 hcl)
                                have HRM : Hid (R = wrapR s0 n0 p0 (.ok es t3.tail n3 l3)) := by show _ = _; rw [HRr.out, pM, if_neg hc, if_pos hcl]
                                have hes : Hid (nn = es.length) := HK.out.ks.fin.1
                                clear hc hcl q1 q2 q3 q4 HRr
                                by_cases e1 : s0 = wAll
                                · have f1 : (s0.toList == [97, 108, 108]) = true := str_yes e1
                                  have hend : Hid (R = .ok (.nd (nn : Int) z3 es) t3.tail n3 l3) := by
                                    show _ = _
                                    rw [HRM.out]
                                    unfold wrapR
                                    rw [if_pos e1, hes.out]
                                    rfl
                                  clear e1 HRM
                                  go_wp2_with (first
                                    | (go_at_call 62; refine (is_is b t3 n3 l3 4 wCom _ HPV.out.ps H3.out hr).mono ?_; rintro e W2 ⟨rfl, hb2⟩; clear c1 c4 fz; have HV2 := Lib.hid (HPV.out.up hb2); have HB2 := Lib.hid hb2; clear hb2)
                                    | (go_at_call 61; refine (want_yes b t3 n3 l3 4 wCls _ HV2.out.ps H3.out hr2).mono ?_; rintro e W4 ⟨rfl, hs4, hk4⟩; have hkp : Kp b wr W4 := (Kp.up HB2.out HPV.out.lt).trans hk4; have hf4 := hF.out.up hkp; have hx4 := HK.out.bx.kp hkp; have HKS4 := Lib.hid (HK.out.ks.kp hkp hblo.out); have HP4 := Lib.hid hs4; have c4 := hs4.rf.c4; clear hlt; have hlt := hs4.lt; have HF4 := Lib.hid hf4; have HX4 := Lib.hid hx4; have r0 := hf4.x4.1.cell 0 rfl; have r1 := hf4.x4.1.cell 1 rfl; have r2 := hf4.x4.1.cell 2 rfl; have r3 := hf4.x4.1.cell 3 rfl; have r4 := hf4.x4.1.cell 4 rfl; have rf := hf4.x4.1.fz; have rl := hf4.x4.1.lt; have y1 := hf4.x5.1.cell 1 rfl; have y2 := hf4.x5.1.cell 2 rfl; have y3 := hf4.x5.1.cell 3 rfl; have yl := hf4.x5.1.lt; have xc0 := hx4.1.cell 0 rfl; have xc1 := hx4.1.cell 1 rfl; have xc2 := hx4.1.cell 2 rfl; have xc3 := hx4.1.cell 3 rfl; have xc4 := hx4.1.cell 4 rfl; have xf := hx4.1.fz; have xl := hx4.1.lt; clear hs4 hk4 hkp hf4 hx4))
                                  have e := hend.out
                                  subst e
                                  have hks := HKS4.out.set HX4.out.2.1 0 (.int .i64 (nn : Int))
                                  obtain ⟨f1', f2', f3', f4'⟩ := hks.fin
                                  have hst : St3 b t3.tail n3 l3 w w.heap.size (W4.setCell ⟨x, 0, none⟩ (.int .i64 (nn : Int))) := ⟨HP4.out.box hbx HX4.out.2.2 0 _, (HF4.out.box hgx 0 _).kp, HF4.out.hb, Nat.le_refl _, (HF4.out.box hgx 0 _).x4.2.2⟩
                                  exact bodyPost_ret (v := xe (nn : Int) ⟨#[]⟩ 0 0 A nn c) (by simp [results, Tryz.results36, go_sem, r0, r1, r2, r3, r4, rf, xd1, xd2]) rfl ⟨⟨_, _, _, _, _, _, _, rfl, grp_tin (KRd.five f4' (Nat.lt_succ_of_lt HF4.out.hg) HF4.out.x4.2.1 _ _ _ _ _) (Nat.le_of_lt (Nat.lt_succ_of_lt HF4.out.hg)) f1' f2' f3'⟩, St3.five hst _ _ _ _ _⟩
                                · have f1 : (s0.toList == [97, 108, 108]) = false := str_no e1
                                  by_cases e2 : s0 = wAny
                                  · have f2 : (s0.toList == [97, 110, 121]) = true := str_yes e2
                                    have hend : Hid (R = .ok (.nd 1 z3 es) t3.tail n3 l3) := by
                                      show _ = _
                                      rw [HRM.out]
                                      unfold wrapR
                                      rw [if_neg e1, if_pos e2]
                                      rfl
                                    clear e1 e2 HRM
                                    go_wp2_with (first
                                      | (go_at_call 62; refine (is_is b t3 n3 l3 4 wCom _ HPV.out.ps H3.out hr).mono ?_; rintro e W2 ⟨rfl, hb2⟩; clear c1 c4 fz; have HV2 := Lib.hid (HPV.out.up hb2); have HB2 := Lib.hid hb2; clear hb2)
                                      | (go_at_call 61; refine (want_yes b t3 n3 l3 4 wCls _ HV2.out.ps H3.out hr2).mono ?_; rintro e W4 ⟨rfl, hs4, hk4⟩; have hkp : Kp b wr W4 := (Kp.up HB2.out HPV.out.lt).trans hk4; have hf4 := hF.out.up hkp; have hx4 := HK.out.bx.kp hkp; have HKS4 := Lib.hid (HK.out.ks.kp hkp hblo.out); have HP4 := Lib.hid hs4; have c4 := hs4.rf.c4; clear hlt; have hlt := hs4.lt; have HF4 := Lib.hid hf4; have HX4 := Lib.hid hx4; have r0 := hf4.x4.1.cell 0 rfl; have r1 := hf4.x4.1.cell 1 rfl; have r2 := hf4.x4.1.cell 2 rfl; have r3 := hf4.x4.1.cell 3 rfl; have r4 := hf4.x4.1.cell 4 rfl; have rf := hf4.x4.1.fz; have rl := hf4.x4.1.lt; have y1 := hf4.x5.1.cell 1 rfl; have y2 := hf4.x5.1.cell 2 rfl; have y3 := hf4.x5.1.cell 3 rfl; have yl := hf4.x5.1.lt; have xc0 := hx4.1.cell 0 rfl; have xc1 := hx4.1.cell 1 rfl; have xc2 := hx4.1.cell 2 rfl; have xc3 := hx4.1.cell 3 rfl; have xc4 := hx4.1.cell 4 rfl; have xf := hx4.1.fz; have xl := hx4.1.lt; clear hs4 hk4 hkp hf4 hx4))
                                    have e := hend.out
                                    subst e
                                    have hks := HKS4.out.set HX4.out.2.1 0 (.int .i64 1)
                                    obtain ⟨f1', f2', f3', f4'⟩ := hks.fin
                                    have hst : St3 b t3.tail n3 l3 w w.heap.size (W4.setCell ⟨x, 0, none⟩ (.int .i64 1)) := ⟨HP4.out.box hbx HX4.out.2.2 0 _, (HF4.out.box hgx 0 _).kp, HF4.out.hb, Nat.le_refl _, (HF4.out.box hgx 0 _).x4.2.2⟩
                                    exact bodyPost_ret (v := xe 1 ⟨#[]⟩ 0 0 A nn c) (by simp [results, Tryz.results36, go_sem, r0, r1, r2, r3, r4, rf, xd1, xd2]) rfl ⟨⟨_, _, _, _, _, _, _, rfl, grp_tin (KRd.five f4' (Nat.lt_succ_of_lt HF4.out.hg) HF4.out.x4.2.1 _ _ _ _ _) (Nat.le_of_lt (Nat.lt_succ_of_lt HF4.out.hg)) f1' f2' f3'⟩, St3.five hst _ _ _ _ _⟩
                                  · have f2 : (s0.toList == [97, 110, 121]) = false := str_no e2
                                    have HRN : Hid (R = if 1 ≤ n0 ∧ n0 ≤ (nn : Int) then .ok (.nd n0 z3 es) t3.tail n3 l3 else .no p0 1) := by
                                      show _ = _
                                      rw [HRM.out]
                                      unfold wrapR
                                      rw [if_neg e1, if_neg e2, hes.out]
                                      rfl
                                    clear e1 e2 HRM
                                    by_cases g1 : n0 < 1
                                    · have hend : Hid (R = .no p0 1) := by show _ = _; rw [HRN.out, if_neg (by omega)]
                                      clear HRN
                                      go_wp2_with (first
                                        | (go_at_call 62; refine (is_is b t3 n3 l3 4 wCom _ HPV.out.ps H3.out hr).mono ?_; rintro e W2 ⟨rfl, hb2⟩; clear c1 c4 fz; have HV2 := Lib.hid (HPV.out.up hb2); have HB2 := Lib.hid hb2; clear hb2)
                                        | (go_at_call 61; refine (want_yes b t3 n3 l3 4 wCls _ HV2.out.ps H3.out hr2).mono ?_; rintro e W4 ⟨rfl, hs4, hk4⟩; have hkp : Kp b wr W4 := (Kp.up HB2.out HPV.out.lt).trans hk4; have hf4 := hF.out.up hkp; have hx4 := HK.out.bx.kp hkp; have HKS4 := Lib.hid (HK.out.ks.kp hkp hblo.out); have HP4 := Lib.hid hs4; have c4 := hs4.rf.c4; clear hlt; have hlt := hs4.lt; have HF4 := Lib.hid hf4; have HX4 := Lib.hid hx4; have r0 := hf4.x4.1.cell 0 rfl; have r1 := hf4.x4.1.cell 1 rfl; have r2 := hf4.x4.1.cell 2 rfl; have r3 := hf4.x4.1.cell 3 rfl; have r4 := hf4.x4.1.cell 4 rfl; have rf := hf4.x4.1.fz; have rl := hf4.x4.1.lt; have y1 := hf4.x5.1.cell 1 rfl; have y2 := hf4.x5.1.cell 2 rfl; have y3 := hf4.x5.1.cell 3 rfl; have yl := hf4.x5.1.lt; have xc0 := hx4.1.cell 0 rfl; have xc1 := hx4.1.cell 1 rfl; have xc2 := hx4.1.cell 2 rfl; have xc3 := hx4.1.cell 3 rfl; have xc4 := hx4.1.cell 4 rfl; have xf := hx4.1.fz; have xl := hx4.1.lt; clear hs4 hk4 hkp hf4 hx4)
                                        | (go_at_call 38; refine (fail_is b p0 1 _ (HP4.out.box hbx HX4.out.2.2 0 (.int .i64 n0)).rf h1n).mono ?_; rintro e W9 ⟨rfl, he9⟩; have hf9 := (HF4.out.box hgx 0 (.int .i64 n0)).up he9.2; have hx9 := (HX4.out.own 0 (.int .i64 n0)).kp he9.2; clear r0 r1 r2 r3 r4 rf rl xc0 xc1 xc2 xc3 xc4 xf xl; have r0 := hf9.x4.1.cell 0 rfl; have r1 := hf9.x4.1.cell 1 rfl; have r2 := hf9.x4.1.cell 2 rfl; have r3 := hf9.x4.1.cell 3 rfl; have r4 := hf9.x4.1.cell 4 rfl; have rf := hf9.x4.1.fz; have rl := hf9.x4.1.lt; have xc0 := hx9.1.cell 0 rfl; have xc1 := hx9.1.cell 1 rfl; have xc2 := hx9.1.cell 2 rfl; have xc3 := hx9.1.cell 3 rfl; have xc4 := hx9.1.cell 4 rfl; have xl := hx9.1.lt; have HE9 := Lib.hid (hf9.er he9.1); clear he9 hf9 hx9))
                                      have e := hend.out
                                      subst e
                                      exact bodyPost_ret (v := xe n0 ⟨#[]⟩ 0 0 A nn c) (by simp [results, Tryz.results36, go_sem, r0, r1, r2, r3, r4, rf]) rfl ⟨⟨_, _, _, _, _, _, _, rfl⟩, (((((HE9.out.set 0 _).set 1 _).set 2 _).set 3 _).set 4 _).er⟩
                                    · by_cases g2 : (nn : Int) < n0
                                      · have hend : Hid (R = .no p0 1) := by show _ = _; rw [HRN.out, if_neg (by omega)]
                                        clear HRN
                                        go_wp2_with (first
                                          | (go_at_call 62; refine (is_is b t3 n3 l3 4 wCom _ HPV.out.ps H3.out hr).mono ?_; rintro e W2 ⟨rfl, hb2⟩; clear c1 c4 fz; have HV2 := Lib.hid (HPV.out.up hb2); have HB2 := Lib.hid hb2; clear hb2)
                                          | (go_at_call 61; refine (want_yes b t3 n3 l3 4 wCls _ HV2.out.ps H3.out hr2).mono ?_; rintro e W4 ⟨rfl, hs4, hk4⟩; have hkp : Kp b wr W4 := (Kp.up HB2.out HPV.out.lt).trans hk4; have hf4 := hF.out.up hkp; have hx4 := HK.out.bx.kp hkp; have HKS4 := Lib.hid (HK.out.ks.kp hkp hblo.out); have HP4 := Lib.hid hs4; have c4 := hs4.rf.c4; clear hlt; have hlt := hs4.lt; have HF4 := Lib.hid hf4; have HX4 := Lib.hid hx4; have r0 := hf4.x4.1.cell 0 rfl; have r1 := hf4.x4.1.cell 1 rfl; have r2 := hf4.x4.1.cell 2 rfl; have r3 := hf4.x4.1.cell 3 rfl; have r4 := hf4.x4.1.cell 4 rfl; have rf := hf4.x4.1.fz; have rl := hf4.x4.1.lt; have y1 := hf4.x5.1.cell 1 rfl; have y2 := hf4.x5.1.cell 2 rfl; have y3 := hf4.x5.1.cell 3 rfl; have yl := hf4.x5.1.lt; have xc0 := hx4.1.cell 0 rfl; have xc1 := hx4.1.cell 1 rfl; have xc2 := hx4.1.cell 2 rfl; have xc3 := hx4.1.cell 3 rfl; have xc4 := hx4.1.cell 4 rfl; have xf := hx4.1.fz; have xl := hx4.1.lt; clear hs4 hk4 hkp hf4 hx4)
                                          | (go_at_call 38; refine (fail_is b p0 1 _ (HP4.out.box hbx HX4.out.2.2 0 (.int .i64 n0)).rf h1n).mono ?_; rintro e W9 ⟨rfl, he9⟩; have hf9 := (HF4.out.box hgx 0 (.int .i64 n0)).up he9.2; have hx9 := (HX4.out.own 0 (.int .i64 n0)).kp he9.2; clear r0 r1 r2 r3 r4 rf rl xc0 xc1 xc2 xc3 xc4 xf xl; have r0 := hf9.x4.1.cell 0 rfl; have r1 := hf9.x4.1.cell 1 rfl; have r2 := hf9.x4.1.cell 2 rfl; have r3 := hf9.x4.1.cell 3 rfl; have r4 := hf9.x4.1.cell 4 rfl; have rf := hf9.x4.1.fz; have rl := hf9.x4.1.lt; have xc0 := hx9.1.cell 0 rfl; have xc1 := hx9.1.cell 1 rfl; have xc2 := hx9.1.cell 2 rfl; have xc3 := hx9.1.cell 3 rfl; have xc4 := hx9.1.cell 4 rfl; have xl := hx9.1.lt; have HE9 := Lib.hid (hf9.er he9.1); clear he9 hf9 hx9))
                                        have e := hend.out
                                        subst e
                                        exact bodyPost_ret (v := xe n0 ⟨#[]⟩ 0 0 A nn c) (by simp [results, Tryz.results36, go_sem, r0, r1, r2, r3, r4, rf]) rfl ⟨⟨_, _, _, _, _, _, _, rfl⟩, (((((HE9.out.set 0 _).set 1 _).set 2 _).set 3 _).set 4 _).er⟩
                                      · have hend : Hid (R = .ok (.nd n0 z3 es) t3.tail n3 l3) := by show _ = _; rw [HRN.out, if_pos (by omega)]
                                        clear HRN
                                        go_wp2_with (first
                                          | (go_at_call 62; refine (is_is b t3 n3 l3 4 wCom _ HPV.out.ps H3.out hr).mono ?_; rintro e W2 ⟨rfl, hb2⟩; clear c1 c4 fz; have HV2 := Lib.hid (HPV.out.up hb2); have HB2 := Lib.hid hb2; clear hb2)
                                          | (go_at_call 61; refine (want_yes b t3 n3 l3 4 wCls _ HV2.out.ps H3.out hr2).mono ?_; rintro e W4 ⟨rfl, hs4, hk4⟩; have hkp : Kp b wr W4 := (Kp.up HB2.out HPV.out.lt).trans hk4; have hf4 := hF.out.up hkp; have hx4 := HK.out.bx.kp hkp; have HKS4 := Lib.hid (HK.out.ks.kp hkp hblo.out); have HP4 := Lib.hid hs4; have c4 := hs4.rf.c4; clear hlt; have hlt := hs4.lt; have HF4 := Lib.hid hf4; have HX4 := Lib.hid hx4; have r0 := hf4.x4.1.cell 0 rfl; have r1 := hf4.x4.1.cell 1 rfl; have r2 := hf4.x4.1.cell 2 rfl; have r3 := hf4.x4.1.cell 3 rfl; have r4 := hf4.x4.1.cell 4 rfl; have rf := hf4.x4.1.fz; have rl := hf4.x4.1.lt; have y1 := hf4.x5.1.cell 1 rfl; have y2 := hf4.x5.1.cell 2 rfl; have y3 := hf4.x5.1.cell 3 rfl; have yl := hf4.x5.1.lt; have xc0 := hx4.1.cell 0 rfl; have xc1 := hx4.1.cell 1 rfl; have xc2 := hx4.1.cell 2 rfl; have xc3 := hx4.1.cell 3 rfl; have xc4 := hx4.1.cell 4 rfl; have xf := hx4.1.fz; have xl := hx4.1.lt; clear hs4 hk4 hkp hf4 hx4))
                                        have e := hend.out
                                        subst e
                                        have hks := HKS4.out.set HX4.out.2.1 0 (.int .i64 n0)
                                        obtain ⟨f1', f2', f3', f4'⟩ := hks.fin
                                        have hst : St3 b t3.tail n3 l3 w w.heap.size (W4.setCell ⟨x, 0, none⟩ (.int .i64 n0)) := ⟨HP4.out.box hbx HX4.out.2.2 0 _, (HF4.out.box hgx 0 _).kp, HF4.out.hb, Nat.le_refl _, (HF4.out.box hgx 0 _).x4.2.2⟩
                                        exact bodyPost_ret (v := xe n0 ⟨#[]⟩ 0 0 A nn c) (by simp [results, Tryz.results36, go_sem, r0, r1, r2, r3, r4, rf, xd1, xd2]) rfl ⟨⟨_, _, _, _, _, _, _, rfl, grp_tin (KRd.five f4' (Nat.lt_succ_of_lt HF4.out.hg) HF4.out.x4.2.1 _ _ _ _ _) (Nat.le_of_lt (Nat.lt_succ_of_lt HF4.out.hg)) f1' f2' f3'⟩, St3.five hst _ _ _ _ _⟩
                              · have hr2 := Lib.hid (tkIs_no (k := 4) hcl)
                                obtain ⟨p2, hp2⟩ : ∃ p2, Hid ((hd t3).2.2.2 = p2) := ⟨_, rfl⟩
                                have hend : Hid (R = .no p2 8) := by show _ = _; rw [HRr.out, pM, if_neg hc, if_neg hcl, wrapR_no, hp2.out]
                                clear hc hcl HRr
                                go_wp2_with (first
                                  | (go_at_call 62; refine (is_is b t3 n3 l3 4 wCom _ HPV.out.ps H3.out hr).mono ?_; rintro e W2 ⟨rfl, hb2⟩; clear c1 c4 fz; have HV2 := Lib.hid (HPV.out.up hb2); have HB2 := Lib.hid hb2; clear hb2)
                                  | (go_at_call 61; refine (want_no b t3 n3 l3 4 wCls _ HV2.out.ps H3.out hr2 hp2).mono ?_; rintro e W4 ⟨rfl, he4, hk4⟩; have hf9 := hF.out.up ((Kp.up HB2.out HPV.out.lt).trans hk4); have HE9 := Lib.hid (hf9.er he4); have c4 := he4.c4; clear hlt; have hlt := he4.lt; have r0 := hf9.x4.1.cell 0 rfl; have r1 := hf9.x4.1.cell 1 rfl; have r2 := hf9.x4.1.cell 2 rfl; have r3 := hf9.x4.1.cell 3 rfl; have r4 := hf9.x4.1.cell 4 rfl; have rf := hf9.x4.1.fz; have rl := hf9.x4.1.lt; clear he4 hk4 hf9))
                                have e := hend.out
                                subst e
                                exact bodyPost_ret (v := xe 0 ⟨#[]⟩ 0 0 none 0 0) (by simp [results, Tryz.results36, go_sem, r0, r1, r2, r3, r4, rf]) rfl ⟨⟨_, _, _, _, _, _, _, rfl⟩, (((((HE9.out.set 0 _).set 1 _).set 2 _).set 3 _).set 4 _).er⟩
                          · have c4 := he1.c4
                            have b1 : (e1 == 0) = false := by rw [beq_eq_false_iff_ne]; exact he1.ne
                            have b2 : (e1 != 0) = true := by rw [bne_iff_ne]; exact he1.ne
                            have HE := Lib.hid he1
                            have HE9 := Lib.hid (hF.out.er he1)
                            have hend : Hid (R = .no p1 e1) := by show _ = _; rw [HRr.out, wrapR_no]
                            have hf9 := hF.out
                            have r0 := hf9.x4.1.cell 0 rfl
                            have r1 := hf9.x4.1.cell 1 rfl
                            have r2 := hf9.x4.1.cell 2 rfl
                            have r3 := hf9.x4.1.cell 3 rfl
                            have r4 := hf9.x4.1.cell 4 rfl
                            have rf := hf9.x4.1.fz
                            have rl := hf9.x4.1.lt
                            clear HRr he1 hf9
                            go_wp2_with (go_at_call 61; refine (want_skip b 4 wCls _ HE).mono ?_; rintro e W4 ⟨rfl, rfl⟩)
                            have e := hend.out
                            subst e
                            exact bodyPost_ret (v := xe 0 ⟨#[]⟩ 0 0 none 0 0) (by simp [results, Tryz.results36, go_sem, r0, r1, r2, r3, r4, rf]) rfl ⟨⟨_, _, _, _, _, _, _, rfl⟩, (((((HE9.out.set 0 _).set 1 _).set 2 _).set 3 _).set 4 _).er⟩
        · rw [Bool.not_eq_true] at hbad
          have hend : Hid (R = .no p0 8) := by
            show _ = _
            rw [← hR.out, pE, if_pos (hmb.out.trans hbad), hp0.out]
          rw [Bool.or_eq_false_iff, Bool.or_eq_false_iff, decide_eq_false_iff_not] at hbad
          obtain ⟨⟨e1, e2⟩, e3⟩ := hbad
          subst e1 e2
          have b3 : (k0 != 3) = true := by rw [bne_iff_ne]; exact e3
          clear e3 hmb hR hBn hBg
          go_wp2_with (first
            | (go_at_call 38; refine (fail_is b p0 8 _ (HP3.out.rf) h8).mono ?_; rintro e W9 ⟨rfl, he9⟩; have hf9 := (HF3.out).up he9.2; have r0 := hf9.x4.1.cell 0 rfl; have r1 := hf9.x4.1.cell 1 rfl; have r2 := hf9.x4.1.cell 2 rfl; have r3 := hf9.x4.1.cell 3 rfl; have r4 := hf9.x4.1.cell 4 rfl; have rf := hf9.x4.1.fz; have rl := hf9.x4.1.lt; have HE9 := Lib.hid (hf9.er he9.1); clear he9 hf9))
          have e := hend.out
          subst e
          exact bodyPost_ret (v := xe 0 ⟨#[]⟩ 0 0 none 0 0) (by simp [results, Tryz.results36, go_sem, r0, r1, r2, r3, r4, rf]) rfl ⟨⟨_, _, _, _, _, _, _, rfl⟩, (((((HE9.out.set 0 _).set 1 _).set 2 _).set 3 _).set 4 _).er⟩
end Go.Proofs.YtlokcmbkkfjlkaaGreatDoor.Rdr
