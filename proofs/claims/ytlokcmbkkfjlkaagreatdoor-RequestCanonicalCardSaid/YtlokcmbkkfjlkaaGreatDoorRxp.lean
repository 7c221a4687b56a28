/- Contract: the parser's expr. -/
import Derived.Test.YtlokcmbkkfjlkaaGreatDoorRex
import Derived.Test.YtlokcmbkkfjlkaaGreatDoorRpb
namespace Go.Proofs.YtlokcmbkkfjlkaaGreatDoor
open Go.RowKit
set_option linter.unusedVariables false
set_option linter.unusedSimpArgs false

theorem TIn.five {lo lo' b g : Nat} {w : World} {v : XV} {x : Ex} (h : TIn (Nw lo b w) w v x) (hlo : lo' ≤ lo) (hg : g < lo) (hb : g ≠ b) (v0 v1 v2 v3 v4 : Value) :
    TIn (Nw lo' b (((((w.setCell ⟨g, 0, none⟩ v0).setCell ⟨g, 1, none⟩ v1).setCell ⟨g, 2, none⟩ v2).setCell ⟨g, 3, none⟩ v3).setCell ⟨g, 4, none⟩ v4)) (((((w.setCell ⟨g, 0, none⟩ v0).setCell ⟨g, 1, none⟩ v1).setCell ⟨g, 2, none⟩ v2).setCell ⟨g, 3, none⟩ v3).setCell ⟨g, 4, none⟩ v4) v x :=
  TIn.mono ⟨h.1, h.2.five hg hb v0 v1 v2 v3 v4⟩ (Nw.mono hlo)
set_option maxHeartbeats 16000000 in
set_option maxRecDepth 100000 in
theorem expr_step (f : Nat) (ih : ∀ g, g < f + 1 → EC g) (b : Nat) (t : List T4) (n : Nat) (l : List A3) (d : Nat) (w : World) (hp : Ps w b t n l) (hw : WT t) (hn : n ≤ 24) (h8 : l.length ≤ 8) (hf : t.length < f + 1) (hd5 : d ≤ 5) :
    Calls Tryz.prog 56 #[.pointer (some ⟨b, 0, none⟩), .int .i64 (d : Int)] w (ExP b (pE (f + 1) d t n l) w) := by
  have HP := Lib.hid hp
  have hbg := Lib.hid hp.lt
  have H0 := Lib.hid hw.pos
  have HX : Hid (Bx (w.alloc (.cells #[.int .i64 0, .string ⟨#[]⟩, .int .i64 0, .int .i64 0, .slice none 0 0] 28)) b w.heap.size zx5) := Bx.new hp zx5 _
  have HN : Hid (∀ X : Obj, Ps (w.alloc X) b t n l ∧ Kp b w (w.alloc X)) := fun X => ⟨HP.out.up (newB w X), Kp.up (newB w X) HP.out.lt⟩
  have hdr : (d : Int) ≤ 5 := by omega
  obtain ⟨R, hR⟩ : ∃ R, Hid (pE (f + 1) d t n l = R) := ⟨_, rfl⟩
  rw [hR.out]
  obtain ⟨p, hpp⟩ : ∃ p, Hid ((hd t).2.2.2 = p) := ⟨_, rfl⟩
  cases hm : mayB (hd t) with
  | false =>
    have HM := Lib.hid hm
    have hend : Hid (R = .no p 8) := by show _ = _; rw [← hR.out, pE, if_pos hm, hpp.out]
    clear hp hw hn h8 hf ih hR hm
    go_enter Tryz.func56, Tryz.ntmps56
    go_wp2_with (first
      | (go_at_call 84; refine (begin_syn b t n l d _ (HN.out _).1 H0.out HM hpp).mono ?_; rintro e W1 ⟨rfl, hb1⟩; have HB1 := Lib.hid (((HN.out _).2.below HP.out).trans hb1); clear hb1))
    have e9 := hend.out
    subst e9
    exact ⟨rfl, rfl, HB1.out⟩
  | true =>
    have HM := Lib.hid hm
    by_cases hlim : 4 < d ∨ 24 < n + 1
    · have hend : Hid (R = .no p 4) := by show _ = _; rw [← hR.out, pE, if_neg (by rw [hm]; decide), if_pos hlim, hpp.out]
      have HL := Lib.hid hlim
      have HN24 := Lib.hid hn
      clear hp hw hn h8 hf ih hR hm hlim
      go_enter Tryz.func56, Tryz.ntmps56
      go_wp2_with (first
        | (go_at_call 84; refine (begin_many b t n l d _ (HN.out _).1 H0.out HM HN24.out HL.out hpp).mono ?_; rintro e W1 ⟨rfl, hb1⟩; have HB1 := Lib.hid (((HN.out _).2.below HP.out).trans hb1); clear hb1))
      have e9 := hend.out
      subst e9
      exact ⟨rfl, rfl, HB1.out⟩
    · have h4 : d ≤ 4 := by omega
      have h24 : n + 1 ≤ 24 := by omega
      have CB : Hid (∀ X : Obj, Calls Tryz.prog 84 #[.pointer (some ⟨b, 0, none⟩), .int .i64 (d : Int)] (w.alloc X) fun e w' => e = .returned (.tuple #[]) ∧ Go1 b t (n + 1) l (w.alloc X) w') := fun X => begin_yes b t n l d _ (HN.out X).1 H0.out HM h4 h24
      by_cases ha : (hd t).2.1 = wAll
      · obtain ⟨_, w2, w3, w4⟩ := hw.word (by rw [ha]; exact wAll_l)
        have H4 := Lib.hid w4
        have ha1 := Lib.hid ha
        have CL : Hid (∀ W, Ps W b t.tail (n + 1) l → Calls Tryz.prog 86 #[.pointer (some ⟨b, 0, none⟩), .int .i64 (d : Int)] W (LsP b (pK f d t.tail (n + 1) l) W)) := fun W hW => list_is f (fun g hg => ih g (by omega)) b t.tail (n + 1) l d W hW w2 h24 h8 (by omega) h4
        have hK : Hid ((pK f d t.tail (n + 1) l).grp (fun ks => ks.length) = R) := by show _ = _; rw [← hR.out, pE, if_neg (by rw [hm]; decide), if_neg hlim, if_pos ha]
        cases hk : pK f d t.tail (n + 1) l with
        | no pe xe0 =>
          rw [hk] at CL hK
          have hend : Hid (R = .no pe xe0) := hK.out.symm
          clear hk hp hw hn h8 hf ih hR hm hlim ha w2 w3 w4 h4 h24 hK
          go_enter Tryz.func56, Tryz.ntmps56
          go_wp2_with (first
            | (go_at_call 84; refine (CB.out _).mono ?_; rintro e W1 ⟨rfl, hs1, hk1⟩; have HG1 : Hid (Go1 b t (n + 1) l w W1) := ⟨hs1, (HN.out _).2.trans hk1⟩; clear hs1 hk1)
            | (go_at_call 85; refine (skip_yes b t (n + 1) l wAll _ HG1.out.1 H4.out ha1).mono ?_; rintro e W2 ⟨rfl, hg2⟩; have HG2 := Lib.hid (HG1.out.trans hg2); clear hg2)
            | (go_at_call 86; refine (CL.out _ HG2.out.1).mono ?_; rintro e W3 ⟨rfl, hb3⟩; have HB3 := Lib.hid ((HG2.out.2.below HP.out).trans hb3); clear hb3))
          have e9 := hend.out
          subst e9
          exact ⟨rfl, rfl, HB3.out⟩
        | ok ks t' n' l' =>
          rw [hk] at CL hK
          obtain ⟨q1, q2, q3, q4, q5, q6, q7⟩ := pK_ok w2 h4 hk
          obtain ⟨kl, hkl⟩ : ∃ kl, Hid (ks.length = kl) := ⟨_, rfl⟩
          have hend : Hid (R = .ok (.nd (kl : Int) z3 ks) t' n' l') := by show _ = _; rw [← hK.out, ← hkl.out]; rfl
          clear hk hp hw hn h8 hf ih hR hm hlim ha w2 w3 w4 h4 h24 hK q1 q2 q3 q4 q5 q6 q7
          go_enter Tryz.func56, Tryz.ntmps56
          go_wp2_with (first
            | (go_at_call 84; refine (CB.out _).mono ?_; rintro e W1 ⟨rfl, hs1, hk1⟩; have HX1 := Lib.hid (HX.out.kp hk1); have HG1 : Hid (Go1 b t (n + 1) l w W1) := ⟨hs1, (HN.out _).2.trans hk1⟩; clear hs1 hk1)
            | (go_at_call 85; refine (skip_yes b t (n + 1) l wAll _ HG1.out.1 H4.out ha1).mono ?_; rintro e W2 ⟨rfl, hg2⟩; have HX2 := Lib.hid (HX1.out.kp hg2.2); have HG2 := Lib.hid (HG1.out.trans hg2); clear hg2)
            | (go_at_call 86; refine (CL.out _ HG2.out.1).mono ?_; rintro e W3 ⟨⟨A, nn, c, rfl, hnn, hfit, hmx, hkr⟩, hg3⟩; rw [hkl.out] at hnn; subst hnn; have hx3 := HX2.out.kp hg3.2; have x0 := hx3.1.cell 0 rfl; have x1 := hx3.1.cell 1 rfl; have x2 := hx3.1.cell 2 rfl; have x3 := hx3.1.cell 3 rfl; have x4 := hx3.1.cell 4 rfl; have xf := hx3.1.fz; have HX3 := Lib.hid hx3; have HG3 := Lib.hid (HG2.out.trans hg3); have HKR := Lib.hid hkr; have HMX := Lib.hid hmx; clear hg3 hx3 hkr hmx))
          have hst : St3 b t' n' l' w w.heap.size W3 := ⟨HG3.out.1, HG3.out.2, hbg.out, Nat.le_refl _, HX3.out.2.2⟩
          have hsz : w.heap.size < W2.heap.size := HX2.out.1.lt
          have e9 := hend.out
          subst e9
          exact bodyPost_ret (v := xe (nn : Int) ⟨#[]⟩ 0 0 A nn c) (by simp [results, Tryz.results56, go_sem, x0, x1, x2, x3, x4, xf]) rfl ⟨⟨_, _, _, _, _, _, _, rfl, grp_tin (HKR.out.five hsz HX3.out.2.1 _ _ _ _ _) (Nat.le_of_lt hsz) hkl.out.symm hfit HMX.out⟩, hst.five _ _ _ _ _⟩
      · have ha1 := Lib.hid ha
        have MK := Lib.hid trivial
        by_cases hy : (hd t).2.1 = wAny
        · obtain ⟨_, w2, w3, w4⟩ := hw.word (by rw [hy]; exact wAny_l)
          have H4 := Lib.hid w4
          have hy1 := Lib.hid hy
          have CL : Hid (∀ W, Ps W b t.tail (n + 1) l → Calls Tryz.prog 86 #[.pointer (some ⟨b, 0, none⟩), .int .i64 (d : Int)] W (LsP b (pK f d t.tail (n + 1) l) W)) := fun W hW => list_is f (fun g hg => ih g (by omega)) b t.tail (n + 1) l d W hW w2 h24 h8 (by omega) h4
          have hK : Hid ((pK f d t.tail (n + 1) l).grp (fun _ => 1) = R) := by show _ = _; rw [← hR.out, pE, if_neg (by rw [hm]; decide), if_neg hlim, if_neg ha, if_pos hy]
          cases hk : pK f d t.tail (n + 1) l with
          | no pe xe0 =>
            rw [hk] at CL hK
            have hend : Hid (R = .no pe xe0) := hK.out.symm
            clear hk hp hw hn h8 hf ih hR hm hlim ha hy w2 w3 w4 h4 h24 hK
            go_enter Tryz.func56, Tryz.ntmps56
            go_wp2_with (first
              | (go_at_call 84; refine (CB.out _).mono ?_; rintro e W1 ⟨rfl, hs1, hk1⟩; have HG1 : Hid (Go1 b t (n + 1) l w W1) := ⟨hs1, (HN.out _).2.trans hk1⟩; clear hs1 hk1)
              | (go_at_call 85; clear MK; refine (skip_no b t (n + 1) l wAll _ HG1.out.1 H0.out ha1).mono ?_; rintro e W2 ⟨rfl, rfl⟩)
              | (go_at_call 85; refine (skip_yes b t (n + 1) l wAny _ HG1.out.1 H4.out hy1).mono ?_; rintro e W2 ⟨rfl, hg2⟩; have HG2 := Lib.hid (HG1.out.trans hg2); clear hg2)
              | (go_at_call 86; refine (CL.out _ HG2.out.1).mono ?_; rintro e W3 ⟨rfl, hb3⟩; have HB3 := Lib.hid ((HG2.out.2.below HP.out).trans hb3); clear hb3))
            have e9 := hend.out
            subst e9
            exact ⟨rfl, rfl, HB3.out⟩
          | ok ks t' n' l' =>
            rw [hk] at CL hK
            obtain ⟨kl, hkl⟩ : ∃ kl, Hid (ks.length = kl) := ⟨_, rfl⟩
            have hend : Hid (R = .ok (.nd 1 z3 ks) t' n' l') := hK.out.symm
            clear hk hp hw hn h8 hf ih hR hm hlim ha hy w2 w3 w4 h4 h24 hK
            go_enter Tryz.func56, Tryz.ntmps56
            go_wp2_with (first
              | (go_at_call 84; refine (CB.out _).mono ?_; rintro e W1 ⟨rfl, hs1, hk1⟩; have HX1 := Lib.hid (HX.out.kp hk1); have HG1 : Hid (Go1 b t (n + 1) l w W1) := ⟨hs1, (HN.out _).2.trans hk1⟩; clear hs1 hk1)
              | (go_at_call 85; clear MK; refine (skip_no b t (n + 1) l wAll _ HG1.out.1 H0.out ha1).mono ?_; rintro e W2 ⟨rfl, rfl⟩)
              | (go_at_call 85; refine (skip_yes b t (n + 1) l wAny _ HG1.out.1 H4.out hy1).mono ?_; rintro e W2 ⟨rfl, hg2⟩; have HX2 := Lib.hid (HX1.out.kp hg2.2); have HG2 := Lib.hid (HG1.out.trans hg2); clear hg2)
              | (go_at_call 86; refine (CL.out _ HG2.out.1).mono ?_; rintro e W3 ⟨⟨A, nn, c, rfl, hnn, hfit, hmx, hkr⟩, hg3⟩; rw [hkl.out] at hnn; subst hnn; have hx3 := HX2.out.kp hg3.2; have x0 := hx3.1.cell 0 rfl; have x1 := hx3.1.cell 1 rfl; have x2 := hx3.1.cell 2 rfl; have x3 := hx3.1.cell 3 rfl; have x4 := hx3.1.cell 4 rfl; have xf := hx3.1.fz; have HX3 := Lib.hid hx3; have HG3 := Lib.hid (HG2.out.trans hg3); have HKR := Lib.hid hkr; have HMX := Lib.hid hmx; clear hg3 hx3 hkr hmx))
            have hst : St3 b t' n' l' w w.heap.size W3 := ⟨HG3.out.1, HG3.out.2, hbg.out, Nat.le_refl _, HX3.out.2.2⟩
            have hsz : w.heap.size < W2.heap.size := HX2.out.1.lt
            have e9 := hend.out
            subst e9
            exact bodyPost_ret (v := xe 1 ⟨#[]⟩ 0 0 A nn c) (by simp [results, Tryz.results56, go_sem, x0, x1, x2, x3, x4, xf]) rfl ⟨⟨_, _, _, _, _, _, _, rfl, grp_tin (HKR.out.five hsz HX3.out.2.1 _ _ _ _ _) (Nat.le_of_lt hsz) hkl.out.symm hfit HMX.out⟩, hst.five _ _ _ _ _⟩
        · have hy1 := Lib.hid hy
          obtain ⟨k0, hk0⟩ : ∃ k0, Hid ((hd t).1 = k0) := ⟨_, rfl⟩
          by_cases h3 : k0 = 3
          · have h3' : (hd t).1 = 3 := by rw [hk0.out]; exact h3
            have CC : Hid (∀ W, Ps W b t (n + 1) l → Calls Tryz.prog 87 #[.pointer (some ⟨b, 0, none⟩), .int .i64 (d : Int)] W (ExP b R W)) := fun W hW => by
              have := counted_is f (fun g hg => ih g (by omega)) b t (n + 1) l d W hW hw h3' h24 h8 (by omega) h4
              have e : pC f d t (n + 1) l = R := by rw [← hR.out, pE, if_neg (by rw [hm]; decide), if_neg hlim, if_neg ha, if_neg hy, if_pos h3']; rfl
              rw [e] at this
              exact this
            have hb3 : (k0 == 3) = true := by rw [beq_iff_eq]; exact h3
            clear hp hw hn h8 hf ih hR hm hlim ha hy h4 h24 h3 h3'
            cases R with
            | no pe xe0 =>
              go_enter Tryz.func56, Tryz.ntmps56
              go_wp2_with (first
                | (go_at_call 84; refine (CB.out _).mono ?_; rintro e W1 ⟨rfl, hs1, hk1⟩; have HG1 : Hid (Go1 b t (n + 1) l w W1) := ⟨hs1, (HN.out _).2.trans hk1⟩; clear hk1; obtain ⟨V, tb, tq, c0, tl, -, htl, g0, hfit0, hlt0, c0', c1', c2', fz, htb, z0, z1, z2, z3⟩ := hs1.open_ H0.out; rw [hk0.out] at z0; clear hs1)
                | (go_at_call 85; clear MK; refine (skip_no b t (n + 1) l wAll _ HG1.out.1 H0.out ha1).mono ?_; rintro e W2 ⟨rfl, rfl⟩)
                | (go_at_call 85; refine (skip_no b t (n + 1) l wAny _ HG1.out.1 H0.out hy1).mono ?_; rintro e W2 ⟨rfl, rfl⟩)
                | (go_at_call 87; refine (CC.out _ HG1.out.1).mono ?_; rintro e W3 ⟨rfl, hb3'⟩; have HB3 := Lib.hid ((HG1.out.2.below HP.out).trans hb3'); clear hb3'))
              exact ⟨rfl, rfl, HB3.out⟩
            | ok x t' n' l' =>
              go_enter Tryz.func56, Tryz.ntmps56
              go_wp2_with (first
                | (go_at_call 84; refine (CB.out _).mono ?_; rintro e W1 ⟨rfl, hs1, hk1⟩; have HX1 := Lib.hid (HX.out.kp hk1); have HG1 : Hid (Go1 b t (n + 1) l w W1) := ⟨hs1, (HN.out _).2.trans hk1⟩; clear hk1; obtain ⟨V, tb, tq, c0, tl, -, htl, g0, hfit0, hlt0, c0', c1', c2', fz, htb, z0, z1, z2, z3⟩ := hs1.open_ H0.out; rw [hk0.out] at z0; clear hs1)
                | (go_at_call 85; clear MK; refine (skip_no b t (n + 1) l wAll _ HG1.out.1 H0.out ha1).mono ?_; rintro e W2 ⟨rfl, rfl⟩)
                | (go_at_call 85; refine (skip_no b t (n + 1) l wAny _ HG1.out.1 H0.out hy1).mono ?_; rintro e W2 ⟨rfl, rfl⟩)
                | (go_at_call 87; refine (CC.out _ HG1.out.1).mono ?_; rintro e W3 ⟨⟨k3, s3, m3, u3, A3', n3, c3, rfl, ht3⟩, hg3⟩; have hx3 := HX1.out.kp hg3.2; have x0 := hx3.1.cell 0 rfl; have x1 := hx3.1.cell 1 rfl; have x2 := hx3.1.cell 2 rfl; have x3 := hx3.1.cell 3 rfl; have x4 := hx3.1.cell 4 rfl; have xf := hx3.1.fz; have HX3 := Lib.hid hx3; have HG3 := Lib.hid (HG1.out.trans hg3); have HT3 := Lib.hid ht3; clear hg3 hx3 ht3))
              have hst : St3 b t' n' l' w w.heap.size W3 := ⟨HG3.out.1, HG3.out.2, hbg.out, Nat.le_refl _, HX3.out.2.2⟩
              have hsz : w.heap.size < W1.heap.size := HX1.out.1.lt
              exact bodyPost_ret (v := xe k3 s3 m3 u3 A3' n3 c3) (by simp [results, Tryz.results56, go_sem, x0, x1, x2, x3, x4, xf]) rfl ⟨⟨_, _, _, _, _, _, _, rfl, HT3.out.five (Nat.le_of_lt hsz) hsz HX3.out.2.1 _ _ _ _ _⟩, hst.five _ _ _ _ _⟩
          · have h1' : (hd t).1 = 1 := by
              rcases mayB_is (by rw [hm]; decide) with h | ⟨h, _⟩
              · exact absurd (by rw [← hk0.out]; exact h) h3
              · exact h
            have CC : Hid (∀ W, Ps W b t (n + 1) l → Calls Tryz.prog 88 #[.pointer (some ⟨b, 0, none⟩)] W (ExP b R W)) := fun W hW => by
              have := atom_is b t (n + 1) l W hW hw h1' h8
              have e : pA t (n + 1) l = R := by rw [← hR.out, pE, if_neg (by rw [hm]; decide), if_neg hlim, if_neg ha, if_neg hy, if_neg (by rw [h1']; decide)]
              rw [e] at this
              exact this
            have hb3 : (k0 == 3) = false := by rw [beq_eq_false_iff_ne]; exact h3
            clear hp hw hn h8 hf ih hR hm hlim ha hy h4 h24 h3 h1'
            cases R with
            | no pe xe0 =>
              go_enter Tryz.func56, Tryz.ntmps56
              go_wp2_with (first
                | (go_at_call 84; refine (CB.out _).mono ?_; rintro e W1 ⟨rfl, hs1, hk1⟩; have HG1 : Hid (Go1 b t (n + 1) l w W1) := ⟨hs1, (HN.out _).2.trans hk1⟩; clear hk1; obtain ⟨V, tb, tq, c0, tl, -, htl, g0, hfit0, hlt0, c0', c1', c2', fz, htb, z0, z1, z2, z3⟩ := hs1.open_ H0.out; rw [hk0.out] at z0; clear hs1)
                | (go_at_call 85; clear MK; refine (skip_no b t (n + 1) l wAll _ HG1.out.1 H0.out ha1).mono ?_; rintro e W2 ⟨rfl, rfl⟩)
                | (go_at_call 85; refine (skip_no b t (n + 1) l wAny _ HG1.out.1 H0.out hy1).mono ?_; rintro e W2 ⟨rfl, rfl⟩)
                | (go_at_call 88; refine (CC.out _ HG1.out.1).mono ?_; rintro e W3 ⟨rfl, hb3'⟩; have HB3 := Lib.hid ((HG1.out.2.below HP.out).trans hb3'); clear hb3'))
              exact ⟨rfl, rfl, HB3.out⟩
            | ok x t' n' l' =>
              go_enter Tryz.func56, Tryz.ntmps56
              go_wp2_with (first
                | (go_at_call 84; refine (CB.out _).mono ?_; rintro e W1 ⟨rfl, hs1, hk1⟩; have HX1 := Lib.hid (HX.out.kp hk1); have HG1 : Hid (Go1 b t (n + 1) l w W1) := ⟨hs1, (HN.out _).2.trans hk1⟩; clear hk1; obtain ⟨V, tb, tq, c0, tl, -, htl, g0, hfit0, hlt0, c0', c1', c2', fz, htb, z0, z1, z2, z3⟩ := hs1.open_ H0.out; rw [hk0.out] at z0; clear hs1)
                | (go_at_call 85; clear MK; refine (skip_no b t (n + 1) l wAll _ HG1.out.1 H0.out ha1).mono ?_; rintro e W2 ⟨rfl, rfl⟩)
                | (go_at_call 85; refine (skip_no b t (n + 1) l wAny _ HG1.out.1 H0.out hy1).mono ?_; rintro e W2 ⟨rfl, rfl⟩)
                | (go_at_call 88; refine (CC.out _ HG1.out.1).mono ?_; rintro e W3 ⟨⟨k3, s3, m3, u3, A3', n3, c3, rfl, ht3⟩, hg3⟩; have hx3 := HX1.out.kp hg3.2; have x0 := hx3.1.cell 0 rfl; have x1 := hx3.1.cell 1 rfl; have x2 := hx3.1.cell 2 rfl; have x3 := hx3.1.cell 3 rfl; have x4 := hx3.1.cell 4 rfl; have xf := hx3.1.fz; have HX3 := Lib.hid hx3; have HG3 := Lib.hid (HG1.out.trans hg3); have HT3 := Lib.hid ht3; clear hg3 hx3 ht3))
              have hst : St3 b t' n' l' w w.heap.size W3 := ⟨HG3.out.1, HG3.out.2, hbg.out, Nat.le_refl _, HX3.out.2.2⟩
              have hsz : w.heap.size < W1.heap.size := HX1.out.1.lt
              exact bodyPost_ret (v := xe k3 s3 m3 u3 A3' n3 c3) (by simp [results, Tryz.results56, go_sem, x0, x1, x2, x3, x4, xf]) rfl ⟨⟨_, _, _, _, _, _, _, rfl, HT3.out.five (Nat.le_of_lt hsz) hsz HX3.out.2.1 _ _ _ _ _⟩, hst.five _ _ _ _ _⟩
theorem expr_all (f : Nat) : EC f := by
  induction f using Nat.strongRecOn with
  | _ f ih =>
    intro b t n l d D w hp hw hn h8 hf hd5 hD
    obtain ⟨g, rfl⟩ : ∃ g, f = g + 1 := ⟨f - 1, by omega⟩
    have e := hD.out
    subst e
    exact expr_step g ih b t n l d w hp hw hn h8 hf hd5
end Go.Proofs.YtlokcmbkkfjlkaaGreatDoor
