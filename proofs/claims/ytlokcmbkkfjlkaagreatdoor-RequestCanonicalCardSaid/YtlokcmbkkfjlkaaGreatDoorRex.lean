/- Contracts: the parser's counted and expr. -/
import Derived.Test.YtlokcmbkkfjlkaaGreatDoorRls
namespace Go.Proofs.YtlokcmbkkfjlkaaGreatDoor
open Go.RowKit
set_option linter.unusedVariables false
set_option linter.unusedSimpArgs false

theorem KRd.box {lo b g : Nat} {w : World} {A : Option Addr} {l : List Ex} (h : KRd (Nw lo b w) w A l) (hg : g < lo) (hb : g ≠ b) (o : Nat) (v : Value) : KRd (Nw lo b (w.setCell ⟨g, o, none⟩ v)) (w.setCell ⟨g, o, none⟩ v) A l :=
  h.of (fun k ⟨h1, h2, h3⟩ => ⟨h1, by simpa [World.setCell] using h2, by rw [rowOf_box hb]; exact h3⟩) (fun k ⟨h1, h2, h3⟩ _ => block_set _ _ _ (by omega)) (by simp [World.setCell])
theorem grp_tin {lo lo' b : Nat} {w : World} {A : Option Addr} {ks : List Ex} {k : Int} {nn c : Nat} (h : KRd (Nw lo b w) w A ks) (hlo : lo' ≤ lo) (hn : nn = ks.length) (hc : nn ≤ c) (hm : c ≤ maxLen) : TIn (Nw lo' b w) w ⟨k, ⟨#[]⟩, 0, 0, A, nn, c⟩ (.nd k z3 ks) :=
  ⟨⟨by unfold XV.ks Ex.ks; rw [hn]; rfl, hc, hm⟩, h.of (Nw.mono hlo) (fun _ _ _ => rfl) (Nat.le_refl _)⟩
/-- Five stores into a box of the call's own. -/
theorem St3.five {b : Nat} {t : List T4} {n : Nat} {l : List A3} {a : World} {g : Nat} {w : World} (h : St3 b t n l a g w) (v0 v1 v2 v3 v4 : Value) : Go1 b t n l a (((((w.setCell ⟨g, 0, none⟩ v0).setCell ⟨g, 1, none⟩ v1).setCell ⟨g, 2, none⟩ v2).setCell ⟨g, 3, none⟩ v3).setCell ⟨g, 4, none⟩ v4) :=
  (((((h.set 0 _).set 1 _).set 2 _).set 3 _).set 4 _).go
theorem KRd.five {lo b g : Nat} {w : World} {A : Option Addr} {l : List Ex} (h : KRd (Nw lo b w) w A l) (hg : g < lo) (hb : g ≠ b) (v0 v1 v2 v3 v4 : Value) :
    KRd (Nw lo b (((((w.setCell ⟨g, 0, none⟩ v0).setCell ⟨g, 1, none⟩ v1).setCell ⟨g, 2, none⟩ v2).setCell ⟨g, 3, none⟩ v3).setCell ⟨g, 4, none⟩ v4)) (((((w.setCell ⟨g, 0, none⟩ v0).setCell ⟨g, 1, none⟩ v1).setCell ⟨g, 2, none⟩ v2).setCell ⟨g, 3, none⟩ v3).setCell ⟨g, 4, none⟩ v4) A l :=
  ((((h.box hg hb 0 _).box hg hb 1 _).box hg hb 2 _).box hg hb 3 _).box hg hb 4 _
abbrev zx5 : List Value := [.int .i64 0, .string ⟨#[]⟩, .int .i64 0, .int .i64 0, .slice none 0 0]
/-- What counted answers. -/
def pC (f d : Nat) (t : List T4) (n : Nat) (l : List A3) : PR Ex := if (hd t.tail).2.1 = wOf then (pK f d t.tail.tail n l).num (hd t).2.2.1 (hd t).2.2.2 else .no (hd t.tail).2.2.2 8
set_option maxHeartbeats 8000000 in
set_option maxRecDepth 100000 in
theorem counted_is (f : Nat) (ih : ∀ g, g < f → EC g) (b : Nat) (t : List T4) (n : Nat) (l : List A3) (d : Nat) (w : World) (hp : Ps w b t n l) (hw : WT t) (h3 : (hd t).1 = 3) (hn : n ≤ 24) (h8 : l.length ≤ 8) (hf : t.length ≤ f) (hd4 : d ≤ 4) :
    Calls Tryz.prog 87 #[.pointer (some ⟨b, 0, none⟩), .int .i64 (d : Int)] w (ExP b (pC f d t n l) w) := by
  obtain ⟨_, w2, w3, w4⟩ := hw.next (by omega)
  have HP := Lib.hid hp
  have hbg := Lib.hid hp.lt
  have HX : Hid (Bx (w.alloc (.cells #[.int .i64 0, .string ⟨#[]⟩, .int .i64 0, .int .i64 0, .slice none 0 0] 28)) b w.heap.size zx5) := Bx.new hp zx5 _
  have HN : Hid (∀ X : Obj, Ps (w.alloc X) b t n l ∧ Kp b w (w.alloc X)) := fun X => ⟨HP.out.up (newB w X), Kp.up (newB w X) HP.out.lt⟩
  have he1 := Lib.hid h3
  have H4 := Lib.hid w4
  have HP2 := Lib.hid w2.pos
  obtain ⟨s0, hs0⟩ : ∃ s0, Hid ((hd t).2.1 = s0) := ⟨_, rfl⟩
  obtain ⟨n0, hn0⟩ : ∃ n0, Hid ((hd t).2.2.1 = n0) := ⟨_, rfl⟩
  obtain ⟨p, hpp⟩ : ∃ p, Hid ((hd t).2.2.2 = p) := ⟨_, rfl⟩
  unfold pC
  rw [hn0.out, hpp.out]
  by_cases ho : (hd t.tail).2.1 = wOf
  · rw [if_pos ho]
    obtain ⟨_, w5, w6, w7⟩ := w2.word (by rw [ho]; exact wOf_l)
    have ho1 := Lib.hid ho
    have H7 := Lib.hid w7
    have CL : Hid (∀ W, Ps W b t.tail.tail n l → Calls Tryz.prog 86 #[.pointer (some ⟨b, 0, none⟩), .int .i64 (d : Int)] W (LsP b (pK f d t.tail.tail n l) W)) := fun W hW => list_is f ih b t.tail.tail n l d W hW w5 hn h8 (by omega) hd4
    cases hk : pK f d t.tail.tail n l with
    | no pe xe0 =>
      rw [hk] at CL
      show Calls _ _ _ _ (ExP b (.no pe xe0) w)
      clear hk ho w2 w3 w4 w5 w6 w7 hw h3 hn h8 hf hp ih
      go_enter Tryz.func87, Tryz.ntmps87
      go_wp2_with (first
        | (go_at_call 58; refine (take_yes b t n l 3 _ (HN.out _).1 H4.out he1 hs0 hn0 hpp).mono ?_; rintro e W1 ⟨rfl, hs1, hk1⟩; have HG1 := Lib.hid (Go1.up (w' := W1.alloc (.cells #[.int .i64 3, .string s0, .int .i64 n0, .int .i64 p] 53)) ⟨hs1, (HN.out _).2.trans hk1⟩ (newB W1 _)); clear hs1 hk1)
        | (go_at_call 109; refine (must_yes b t.tail n l wOf _ HG1.out.1 H7.out ho1).mono ?_; rintro e W2 ⟨rfl, hg2⟩; have HG2 := Lib.hid (HG1.out.trans hg2); clear hg2)
        | (go_at_call 86; refine (CL.out _ HG2.out.1).mono ?_; rintro e W3 ⟨rfl, hb3⟩; have HB3 := Lib.hid ((HG2.out.2.below HP.out).trans hb3); clear hb3))
      exact ⟨rfl, rfl, HB3.out⟩
    | ok ks t' n' l' =>
      rw [hk] at CL
      obtain ⟨q1, q2, q3, q4, q5, q6, q7⟩ := pK_ok w5 hd4 hk
      have hbd : Hid (ks.length ≤ 24) := by have := cntL_len ks; show _ ≤ _; omega
      show Calls _ _ _ _ (ExP b (if 1 ≤ n0 ∧ n0 ≤ (ks.length : Int) then .ok (.nd n0 z3 ks) t' n' l' else .no p 1) w)
      obtain ⟨kl, hkl⟩ : ∃ kl, Hid (ks.length = kl) := ⟨_, rfl⟩
      rw [hkl.out]
      by_cases hv : 1 ≤ n0 ∧ n0 ≤ (kl : Int)
      · rw [if_pos hv]
        have hbt : Hid (btw n0 1 (kl : Int) = true) := decide_eq_true hv
        clear hk ho w2 w3 w4 w5 w6 w7 hw h3 hn h8 hf hp ih q1 q2 q3 q4 q5 q6 q7 hv
        go_enter Tryz.func87, Tryz.ntmps87
        go_wp2_with (first
          | (go_at_call 58; refine (take_yes b t n l 3 _ (HN.out _).1 H4.out he1 hs0 hn0 hpp).mono ?_; rintro e W1 ⟨rfl, hs1, hk1⟩; have HX1 := Lib.hid ((HX.out.kp hk1).kp (Kp.up (newB W1 (.cells #[.int .i64 3, .string s0, .int .i64 n0, .int .i64 p] 53)) hs1.lt)); have HG1 := Lib.hid (Go1.up (w' := W1.alloc (.cells #[.int .i64 3, .string s0, .int .i64 n0, .int .i64 p] 53)) ⟨hs1, (HN.out _).2.trans hk1⟩ (newB W1 _)); have HT1 := Lib.hid (Bx.new hs1 [.int .i64 3, .string s0, .int .i64 n0, .int .i64 p] 53); clear hs1 hk1)
          | (go_at_call 109; refine (must_yes b t.tail n l wOf _ HG1.out.1 H7.out ho1).mono ?_; rintro e W2 ⟨rfl, hg2⟩; have HX2 := Lib.hid (HX1.out.kp hg2.2); have HT2 := Lib.hid (HT1.out.kp hg2.2); have HG2 := Lib.hid (HG1.out.trans hg2); clear hg2)
          | (go_at_call 86; refine (CL.out _ HG2.out.1).mono ?_; rintro e W3 ⟨⟨A, nn, c, rfl, hnn, hfit, hmx, hkr⟩, hg3⟩; rw [hkl.out] at hnn; subst hnn; have hx3 := HX2.out.kp hg3.2; have ht3 := HT2.out.kp hg3.2; have x0 := hx3.1.cell 0 rfl; have x1 := hx3.1.cell 1 rfl; have x2 := hx3.1.cell 2 rfl; have x3 := hx3.1.cell 3 rfl; have x4 := hx3.1.cell 4 rfl; have xf := hx3.1.fz; have y2 := ht3.1.cell 2 rfl; have HX3 := Lib.hid hx3; have HG3 := Lib.hid (HG2.out.trans hg3); have HKR := Lib.hid hkr; have HMX := Lib.hid hmx; clear hg3 hx3 ht3 hkr hmx)
          | (go_at_call 32; refine (within_is _ _ _ _ hbt).mono ?_; rintro e W9 ⟨rfl, rfl⟩))
        have hst : St3 b t' n' l' w w.heap.size W3 := ⟨HG3.out.1, HG3.out.2, hbg.out, Nat.le_refl _, HX3.out.2.2⟩
        have hsz : w.heap.size < W2.heap.size := HX2.out.1.lt
        exact bodyPost_ret (v := xe n0 ⟨#[]⟩ 0 0 A nn c) (by simp [results, Tryz.results87, go_sem, x0, x1, x2, x3, x4, xf]) rfl ⟨⟨_, _, _, _, _, _, _, rfl, grp_tin (HKR.out.five hsz HX3.out.2.1 _ _ _ _ _) (Nat.le_of_lt hsz) hkl.out.symm hfit HMX.out⟩, hst.five _ _ _ _ _⟩
      · rw [if_neg hv]
        have hbt : Hid (btw n0 1 (kl : Int) = false) := decide_eq_false hv
        clear hk ho w2 w3 w4 w5 w6 w7 hw h3 hn h8 hf hp ih q1 q2 q3 q4 q5 q6 q7 hv
        go_enter Tryz.func87, Tryz.ntmps87
        go_wp2_with (first
          | (go_at_call 58; refine (take_yes b t n l 3 _ (HN.out _).1 H4.out he1 hs0 hn0 hpp).mono ?_; rintro e W1 ⟨rfl, hs1, hk1⟩; have HG1 := Lib.hid (Go1.up (w' := W1.alloc (.cells #[.int .i64 3, .string s0, .int .i64 n0, .int .i64 p] 53)) ⟨hs1, (HN.out _).2.trans hk1⟩ (newB W1 _)); have HT1 := Lib.hid (Bx.new hs1 [.int .i64 3, .string s0, .int .i64 n0, .int .i64 p] 53); clear hs1 hk1)
          | (go_at_call 109; refine (must_yes b t.tail n l wOf _ HG1.out.1 H7.out ho1).mono ?_; rintro e W2 ⟨rfl, hg2⟩; have HT2 := Lib.hid (HT1.out.kp hg2.2); have HG2 := Lib.hid (HG1.out.trans hg2); clear hg2)
          | (go_at_call 86; refine (CL.out _ HG2.out.1).mono ?_; rintro e W3 ⟨⟨A, nn, c, rfl, hnn, hfit, hmx, hkr⟩, hg3⟩; rw [hkl.out] at hnn; subst hnn; have ht3 := HT2.out.kp hg3.2; have y0 := ht3.1.cell 0 rfl; have y1 := ht3.1.cell 1 rfl; have y2 := ht3.1.cell 2 rfl; have y3 := ht3.1.cell 3 rfl; have HG3 := Lib.hid (HG2.out.trans hg3); clear hg3 ht3 hkr hmx)
          | (go_at_call 32; refine (within_is _ _ _ _ hbt).mono ?_; rintro e W9 ⟨rfl, rfl⟩)
          | (go_at_call 89; refine (fail_is _ _ _ _ _ _).mono ?_; rintro e W4 ⟨rfl, hb4⟩; have HB4 := Lib.hid hb4; clear hb4))
        exact ⟨rfl, rfl, (HG3.out.2.below HP.out).trans (HB4.out.mono (Nat.le_of_lt HG3.out.1.lt))⟩
  · rw [if_neg ho]
    have ho1 := Lib.hid ho
    obtain ⟨p2, hp2⟩ : ∃ p, Hid ((hd t.tail).2.2.2 = p) := ⟨_, rfl⟩
    rw [hp2.out]
    clear ho w2 w3 w4 hw h3 hn h8 hf hp ih
    go_enter Tryz.func87, Tryz.ntmps87
    go_wp2_with (first
      | (go_at_call 58; refine (take_yes b t n l 3 _ (HN.out _).1 H4.out he1 hs0 hn0 hpp).mono ?_; rintro e W1 ⟨rfl, hs1, hk1⟩; have HG1 := Lib.hid (Go1.up (w' := W1.alloc (.cells #[.int .i64 3, .string s0, .int .i64 n0, .int .i64 p] 53)) ⟨hs1, (HN.out _).2.trans hk1⟩ (newB W1 _)); clear hs1 hk1)
      | (go_at_call 109; refine (must_no b t.tail n l wOf _ HG1.out.1 HP2.out ho1 hp2).mono ?_; rintro e W2 ⟨rfl, hb2⟩; have HB2 := Lib.hid ((HG1.out.2.below HP.out).trans hb2); clear hb2))
    exact ⟨rfl, rfl, HB2.out⟩
end Go.Proofs.YtlokcmbkkfjlkaaGreatDoor
