/- Contract: the parser's request. -/
import Derived.Test.YtlokcmbkkfjlkaaGreatDoorRxp
import Derived.Test.YtlokcmbkkfjlkaaGreatDoorRvr
namespace Go.Proofs.YtlokcmbkkfjlkaaGreatDoor
open Go.RowKit
set_option linter.unusedVariables false
set_option linter.unusedSimpArgs false

/-- What request leaves. -/
def RqP (b : Nat) (r : QR) (w : World) (e : Ending) (w' : World) : Prop :=
  match r with
  | .ok x => (∃ k s m u A n c, e = .returned (rq k s m u A n c x.2.1 x.2.2) ∧ TIn (Nw w.heap.size b w') w' ⟨k, s, m, u, A, n, c⟩ x.1) ∧ Below b w w'
  | .no p x => e = Pan p x ∧ Below b w w'
abbrev zr7 : List Value := [.int .i64 0, .string ⟨#[]⟩, .int .i64 0, .int .i64 0, .slice none 0 0, .int .i64 0, .int .i64 0]
theorem TIn.box {lo b g : Nat} {w : World} {v : XV} {x : Ex} (h : TIn (Nw lo b w) w v x) (hg : g < lo) (hb : g ≠ b) (o : Nat) (y : Value) : TIn (Nw lo b (w.setCell ⟨g, o, none⟩ y)) (w.setCell ⟨g, o, none⟩ y) v x := ⟨h.1, h.2.box hg hb o y⟩
/-- Stores into a box made since the tree. -/
theorem TIn.boxL {lo b g : Nat} {w : World} {v : XV} {x : Ex} (h : TIn (fun k => Nw lo b w k ∧ k ≠ g) w v x) (hb : g ≠ b) (o : Nat) (y : Value) : TIn (fun k => Nw lo b (w.setCell ⟨g, o, none⟩ y) k ∧ k ≠ g) (w.setCell ⟨g, o, none⟩ y) v x :=
  h.of (fun k ⟨⟨h1, h2, h3⟩, h4⟩ => ⟨⟨h1, by simpa [World.setCell] using h2, by rw [rowOf_box hb]; exact h3⟩, h4⟩) (fun k ⟨⟨h1, h2, h3⟩, h4⟩ _ => block_set _ _ _ h4) (by simp [World.setCell])
/-- A tree, beside a box that is made right behind it. -/
theorem TIn.fresh {lo b : Nat} {w : World} {X : Obj} {v : XV} {x : Ex} (hb : b < w.heap.size) (h : TIn (Nw lo b w) w v x) : TIn (fun k => Nw lo b (w.alloc X) k ∧ k ≠ w.heap.size) (w.alloc X) v x :=
  h.of (fun k ⟨h1, h2, h3⟩ => ⟨⟨h1, by simp; omega, by rw [show rowOf (w.alloc X) b = rowOf w b by unfold rowOf; rw [cell_of_block ((newB w X).block b hb) 2]]; exact h3⟩, by omega⟩) (fun k ⟨h1, h2, h3⟩ _ => (newB w X).block k h2) (by simp)
theorem TIn.kpL {lo b g : Nat} {w w' : World} {v : XV} {x : Ex} (h : TIn (fun k => Nw lo b w k ∧ k ≠ g) w v x) (hlo : b < lo) (hk : Kp b w w') : TIn (fun k => Nw lo b w' k ∧ k ≠ g) w' v x :=
  h.of (fun k ⟨⟨h1, h2, h3⟩, h4⟩ => ⟨⟨h1, Nat.lt_of_lt_of_le h2 hk.size, fun e => by
    rcases hk.row k e with e | e
    · exact h3 e
    · omega⟩, h4⟩) (fun k ⟨⟨h1, h2, h3⟩, h4⟩ _ => hk.block k h2 (by omega) h3) hk.size
theorem TIn.seven {lo lo' b g q : Nat} {w : World} {v : XV} {x : Ex} (h : TIn (fun k => Nw lo b w k ∧ k ≠ q) w v x) (hlo : lo' ≤ lo) (hg : g < lo) (hb : g ≠ b) (v0 v1 v2 v3 v4 v5 v6 : Value) :
    TIn (Nw lo' b (((((((w.setCell ⟨g, 0, none⟩ v0).setCell ⟨g, 1, none⟩ v1).setCell ⟨g, 2, none⟩ v2).setCell ⟨g, 3, none⟩ v3).setCell ⟨g, 4, none⟩ v4).setCell ⟨g, 5, none⟩ v5).setCell ⟨g, 6, none⟩ v6)) (((((((w.setCell ⟨g, 0, none⟩ v0).setCell ⟨g, 1, none⟩ v1).setCell ⟨g, 2, none⟩ v2).setCell ⟨g, 3, none⟩ v3).setCell ⟨g, 4, none⟩ v4).setCell ⟨g, 5, none⟩ v5).setCell ⟨g, 6, none⟩ v6) v x :=
  TIn.mono ((((((((h.mono (fun k hk => hk.1)).box hg hb 0 v0).box hg hb 1 v1).box hg hb 2 v2).box hg hb 3 v3).box hg hb 4 v4).box hg hb 5 v5).box hg hb 6 v6) (Nw.mono hlo)
theorem below_seven {b g : Nat} {a w : World} (h : Below b a w) (hg : b ≤ g) (v0 v1 v2 v3 v4 v5 v6 : Value) :
    Below b a (((((((w.setCell ⟨g, 0, none⟩ v0).setCell ⟨g, 1, none⟩ v1).setCell ⟨g, 2, none⟩ v2).setCell ⟨g, 3, none⟩ v3).setCell ⟨g, 4, none⟩ v4).setCell ⟨g, 5, none⟩ v5).setCell ⟨g, 6, none⟩ v6) :=
  ((((((h.setCell (p := ⟨g, 0, none⟩) hg v0).setCell (p := ⟨g, 1, none⟩) hg v1).setCell (p := ⟨g, 2, none⟩) hg v2).setCell (p := ⟨g, 3, none⟩) hg v3).setCell (p := ⟨g, 4, none⟩) hg v4).setCell (p := ⟨g, 5, none⟩) hg v5).setCell (p := ⟨g, 6, none⟩) hg v6
set_option maxHeartbeats 16000000 in
set_option maxRecDepth 100000 in
theorem request_is (b : Nat) (t : List T4) (w : World) (hp : Ps w b t 0 []) (hw : WT t) :
    Calls Tryz.prog 35 #[.pointer (some ⟨b, 0, none⟩)] w (RqP b (pQ t) w) := by
  have HP := Lib.hid hp
  have hbg := Lib.hid hp.lt
  have HX : Hid (Bx (w.alloc (.cells #[.int .i64 0, .string ⟨#[]⟩, .int .i64 0, .int .i64 0, .slice none 0 0, .int .i64 0, .int .i64 0] 30)) b w.heap.size zr7) := Bx.new hp zr7 _
  have HN : Hid (∀ X : Obj, Ps (w.alloc X) b t 0 [] ∧ Kp b w (w.alloc X)) := fun X => ⟨HP.out.up (newB w X), Kp.up (newB w X) HP.out.lt⟩
  have hle : Hid (∀ X : Obj, w.heap.size < (w.alloc X).heap.size) := fun X => by simp
  have CE : Hid (∀ X : Obj, Calls Tryz.prog 56 #[.pointer (some ⟨b, 0, none⟩), .int .i64 1] (w.alloc X) (ExP b (pE (t.length + 1) 1 t 0 []) (w.alloc X))) := fun X => expr_all _ b t 0 [] 1 1 _ (HN.out X).1 hw (by omega) (by simp) (by omega) (by omega) rfl
  unfold pQ
  cases he : pE (t.length + 1) 1 t 0 [] with
  | no pe xe0 =>
    rw [he] at CE
    show Calls _ _ _ _ (RqP b (.no pe xe0) w)
    clear he hp hw
    go_enter Tryz.func35, Tryz.ntmps35
    go_wp2_with (first
      | (go_at_call 56; refine (CE.out _).mono ?_; rintro e W1 ⟨rfl, hb1⟩; have HB1 := Lib.hid (((HN.out _).2.below HP.out).trans hb1); clear hb1))
    exact ⟨rfl, rfl, HB1.out⟩
  | ok x t0 n0 l0 =>
    rw [he] at CE
    obtain ⟨w0, -, -, -, -, -⟩ := pE_ok hw he
    have HW0 := Lib.hid w0
    have MK := Lib.hid trivial
    show Calls _ _ _ _ (RqP b (pPri x t0) w)
    unfold pPri
    cases hsp : pS wPrio 7 t0 with
    | no pe xe0 =>
      have HSP := Lib.hid hsp
      show Calls _ _ _ _ (RqP b (.no pe xe0) w)
      clear he hp hw hsp w0
      go_enter Tryz.func35, Tryz.ntmps35
      go_wp2_with (first
        | (go_at_call 56; refine (CE.out _).mono ?_; rintro e W1 ⟨⟨k, s, m, u, A, nn, c, rfl, ht1⟩, hs1, hk1⟩; have HX1 := Lib.hid (HX.out.kp hk1); have HG1 : Hid (Go1 b t0 n0 l0 w W1) := ⟨hs1, (HN.out _).2.trans hk1⟩; have HR1 := Lib.hid (Bx.new hs1 [.int .i64 k, .string s, .int .i64 m, .int .i64 u, .slice A nn c, .int .i64 0, .int .i64 0] 30); have HGA := Lib.hid (Go1.up (w' := W1.alloc (.cells #[.int .i64 k, .string s, .int .i64 m, .int .i64 u, .slice A nn c, .int .i64 0, .int .i64 0] 30)) ⟨hs1, (HN.out _).2.trans hk1⟩ (newB W1 _)); have HXA := Lib.hid ((HX.out.kp hk1).kp (Kp.up (newB W1 (.cells #[.int .i64 k, .string s, .int .i64 m, .int .i64 u, .slice A nn c, .int .i64 0, .int .i64 0] 30)) hs1.lt)); have HTA := Lib.hid (TIn.fresh (X := .cells #[.int .i64 k, .string s, .int .i64 m, .int .i64 u, .slice A nn c, .int .i64 0, .int .i64 0] 30) hs1.lt ht1); clear ht1 hs1 hk1)
        | (go_at_call 57; refine (setting_is b t0 n0 l0 wPrio 7 _ HGA.out.1 HW0.out wPrio_l).mono ?_; rw [HSP.out]; rintro e W2 ⟨rfl, hb2⟩; have HB2 := Lib.hid ((HGA.out.2.below HP.out).trans hb2); clear hb2))
      exact ⟨rfl, rfl, HB2.out⟩
    | ok pv t1 n1 l1 =>
      have HSP := Lib.hid hsp
      obtain ⟨w1, -, -⟩ := pS_ok w0 wPrio_l (by omega) hsp
      have HW1 := Lib.hid w1
      show Calls _ _ _ _ (RqP b (pLim x pv t1) w)
      unfold pLim
      cases hsl : pS wLim 1000 t1 with
      | no pe xe0 =>
        have HSL := Lib.hid hsl
        show Calls _ _ _ _ (RqP b (.no pe xe0) w)
        clear he hp hw hsp hsl w0 w1
        go_enter Tryz.func35, Tryz.ntmps35
        go_wp2_with (first
          | (go_at_call 56; refine (CE.out _).mono ?_; rintro e W1 ⟨⟨k, s, m, u, A, nn, c, rfl, ht1⟩, hs1, hk1⟩; have HX1 := Lib.hid (HX.out.kp hk1); have HG1 : Hid (Go1 b t0 n0 l0 w W1) := ⟨hs1, (HN.out _).2.trans hk1⟩; have HR1 := Lib.hid (Bx.new hs1 [.int .i64 k, .string s, .int .i64 m, .int .i64 u, .slice A nn c, .int .i64 0, .int .i64 0] 30); have HGA := Lib.hid (Go1.up (w' := W1.alloc (.cells #[.int .i64 k, .string s, .int .i64 m, .int .i64 u, .slice A nn c, .int .i64 0, .int .i64 0] 30)) ⟨hs1, (HN.out _).2.trans hk1⟩ (newB W1 _)); have HXA := Lib.hid ((HX.out.kp hk1).kp (Kp.up (newB W1 (.cells #[.int .i64 k, .string s, .int .i64 m, .int .i64 u, .slice A nn c, .int .i64 0, .int .i64 0] 30)) hs1.lt)); have HTA := Lib.hid (TIn.fresh (X := .cells #[.int .i64 k, .string s, .int .i64 m, .int .i64 u, .slice A nn c, .int .i64 0, .int .i64 0] 30) hs1.lt ht1); clear ht1 hs1 hk1)
          | (go_at_call 57; clear MK; refine (setting_is b t0 n0 l0 wPrio 7 _ HGA.out.1 HW0.out wPrio_l).mono ?_; rw [HSP.out]; rintro e W2 ⟨rfl, hg2⟩; have hr2 := HR1.out.kp hg2.2; have r5 := hr2.1.cell 5 rfl; have rf := hr2.1.fz; have HR2 := Lib.hid hr2; have HS2 : Hid (St3 b t1 n0 l0 w W1.heap.size W2) := ⟨hg2.1, HGA.out.2.trans hg2.2, HG1.out.1.lt, HG1.out.2.size, hr2.2.2⟩; have HXB := Lib.hid (HXA.out.kp hg2.2); have HTB := Lib.hid (HTA.out.kpL (HN.out _).1.lt hg2.2); have HR3 := Lib.hid (hr2.own 5 (.int .i64 pv)); have HS3 := Lib.hid (HS2.out.set 5 (.int .i64 pv)); have HXC := Lib.hid (HXB.out.other (Nat.ne_of_lt HX1.out.1.lt) hr2.2.1 5 (.int .i64 pv)); have HTC := Lib.hid (HTB.out.boxL hr2.2.1 5 (.int .i64 pv)); clear hg2 hr2)
          | (go_at_call 57; refine (setting_is b t1 n0 l0 wLim 1000 _ HS3.out.1 HW1.out wLim_l).mono ?_; rw [HSL.out]; rintro e W3 ⟨rfl, hb3⟩; have HB3 := Lib.hid ((HS3.out.2.1.below HP.out).trans hb3); clear hb3))
        exact ⟨rfl, rfl, HB3.out⟩
      | ok lv t2 n2 l2 =>
        have HSL := Lib.hid hsl
        obtain ⟨w2, -, -⟩ := pS_ok w1 wLim_l (by omega) hsl
        have hpos := Lib.hid w2.pos
        by_cases h5 : (hd t2).1 = 5
        · have hl1 := Lib.hid (w2.last h5).1
          have h5' := Lib.hid h5
          show Calls _ _ _ _ (RqP b (if (hd t2).1 = 5 then .ok (x, pv, lv) else .no (hd t2).2.2.2 8) w)
          rw [if_pos h5]
          clear he hp hw hsp hsl w0 w1 w2 h5
          go_enter Tryz.func35, Tryz.ntmps35
          go_wp2_with (first
            | (go_at_call 56; refine (CE.out _).mono ?_; rintro e W1 ⟨⟨k, s, m, u, A, nn, c, rfl, ht1⟩, hs1, hk1⟩; have HX1 := Lib.hid (HX.out.kp hk1); have HG1 : Hid (Go1 b t0 n0 l0 w W1) := ⟨hs1, (HN.out _).2.trans hk1⟩; have HR1 := Lib.hid (Bx.new hs1 [.int .i64 k, .string s, .int .i64 m, .int .i64 u, .slice A nn c, .int .i64 0, .int .i64 0] 30); have HGA := Lib.hid (Go1.up (w' := W1.alloc (.cells #[.int .i64 k, .string s, .int .i64 m, .int .i64 u, .slice A nn c, .int .i64 0, .int .i64 0] 30)) ⟨hs1, (HN.out _).2.trans hk1⟩ (newB W1 _)); have HXA := Lib.hid ((HX.out.kp hk1).kp (Kp.up (newB W1 (.cells #[.int .i64 k, .string s, .int .i64 m, .int .i64 u, .slice A nn c, .int .i64 0, .int .i64 0] 30)) hs1.lt)); have HTA := Lib.hid (TIn.fresh (X := .cells #[.int .i64 k, .string s, .int .i64 m, .int .i64 u, .slice A nn c, .int .i64 0, .int .i64 0] 30) hs1.lt ht1); clear ht1 hs1 hk1)
            | (go_at_call 57; clear MK; refine (setting_is b t0 n0 l0 wPrio 7 _ HGA.out.1 HW0.out wPrio_l).mono ?_; rw [HSP.out]; rintro e W2 ⟨rfl, hg2⟩; have hr2 := HR1.out.kp hg2.2; have r5 := hr2.1.cell 5 rfl; have rf := hr2.1.fz; have HR2 := Lib.hid hr2; have HS2 : Hid (St3 b t1 n0 l0 w W1.heap.size W2) := ⟨hg2.1, HGA.out.2.trans hg2.2, HG1.out.1.lt, HG1.out.2.size, hr2.2.2⟩; have HXB := Lib.hid (HXA.out.kp hg2.2); have HTB := Lib.hid (HTA.out.kpL (HN.out _).1.lt hg2.2); have HR3 := Lib.hid (hr2.own 5 (.int .i64 pv)); have HS3 := Lib.hid (HS2.out.set 5 (.int .i64 pv)); have HXC := Lib.hid (HXB.out.other (Nat.ne_of_lt HX1.out.1.lt) hr2.2.1 5 (.int .i64 pv)); have HTC := Lib.hid (HTB.out.boxL hr2.2.1 5 (.int .i64 pv)); clear hg2 hr2)
            | (go_at_call 57; refine (setting_is b t1 n0 l0 wLim 1000 _ HS3.out.1 HW1.out wLim_l).mono ?_; rw [HSL.out]; rintro e W3 ⟨rfl, hg3⟩; have hr3 := HR3.out.kp hg3.2; have q6 := hr3.1.cell 6 rfl; have qf := hr3.1.fz; have HR4 := Lib.hid (hr3.own 6 (.int .i64 lv)); have HS4 : Hid (St3 b t2 n0 l0 w W1.heap.size W3) := ⟨hg3.1, HS3.out.2.1.trans hg3.2, HG1.out.1.lt, HG1.out.2.size, hr3.2.2⟩; have HS5 := Lib.hid (HS4.out.set 6 (.int .i64 lv)); have HXD := Lib.hid ((HXC.out.kp hg3.2).other (Nat.ne_of_lt HX1.out.1.lt) hr3.2.1 6 (.int .i64 lv)); have HTD := Lib.hid ((HTC.out.kpL (HN.out _).1.lt hg3.2).boxL hr3.2.1 6 (.int .i64 lv)); clear hg3 hr3)
            | (go_at_call 58; refine (take_end b t2 n0 l0 _ HS5.out.1 hl1.out h5').mono ?_; rintro e W4 ⟨⟨s9, n9, p9, rfl⟩, hk4, hb4⟩; have hr4 := HR4.out.kp hk4; have y0 := hr4.1.cell 0 rfl; have y1 := hr4.1.cell 1 rfl; have y2 := hr4.1.cell 2 rfl; have y3 := hr4.1.cell 3 rfl; have y4 := hr4.1.cell 4 rfl; have y5 := hr4.1.cell 5 rfl; have y6 := hr4.1.cell 6 rfl; have hx4 := HXD.out.kp hk4; have x0 := hx4.1.cell 0 rfl; have x1 := hx4.1.cell 1 rfl; have x2 := hx4.1.cell 2 rfl; have x3 := hx4.1.cell 3 rfl; have x4 := hx4.1.cell 4 rfl; have x5 := hx4.1.cell 5 rfl; have x6 := hx4.1.cell 6 rfl; have xf := hx4.1.fz; have HX4 := Lib.hid hx4; have HT4 := Lib.hid (HTD.out.kpL (HN.out _).1.lt hk4); have HB4 := Lib.hid ((HS5.out.2.1.below HP.out).trans hb4); clear hk4 hb4 hr4 hx4))
          exact bodyPost_ret (v := rq k s m u A nn c pv lv) (by simp [results, Tryz.results35, go_sem, x0, x1, x2, x3, x4, x5, x6, xf]) rfl ⟨⟨k, s, m, u, A, nn, c, rfl, HT4.out.seven (Nat.le_of_lt (hle.out _)) (hle.out _) HX4.out.2.1 _ _ _ _ _ _ _⟩, below_seven HB4.out (Nat.le_of_lt hbg.out) _ _ _ _ _ _ _⟩
        · obtain ⟨p2, hp2⟩ : ∃ p, Hid ((hd t2).2.2.2 = p) := ⟨_, rfl⟩
          have h5' := Lib.hid h5
          show Calls _ _ _ _ (RqP b (if (hd t2).1 = 5 then .ok (x, pv, lv) else .no (hd t2).2.2.2 8) w)
          rw [if_neg h5, hp2.out]
          clear he hp hw hsp hsl w0 w1 w2 h5
          go_enter Tryz.func35, Tryz.ntmps35
          go_wp2_with (first
            | (go_at_call 56; refine (CE.out _).mono ?_; rintro e W1 ⟨⟨k, s, m, u, A, nn, c, rfl, ht1⟩, hs1, hk1⟩; have HX1 := Lib.hid (HX.out.kp hk1); have HG1 : Hid (Go1 b t0 n0 l0 w W1) := ⟨hs1, (HN.out _).2.trans hk1⟩; have HR1 := Lib.hid (Bx.new hs1 [.int .i64 k, .string s, .int .i64 m, .int .i64 u, .slice A nn c, .int .i64 0, .int .i64 0] 30); have HGA := Lib.hid (Go1.up (w' := W1.alloc (.cells #[.int .i64 k, .string s, .int .i64 m, .int .i64 u, .slice A nn c, .int .i64 0, .int .i64 0] 30)) ⟨hs1, (HN.out _).2.trans hk1⟩ (newB W1 _)); have HXA := Lib.hid ((HX.out.kp hk1).kp (Kp.up (newB W1 (.cells #[.int .i64 k, .string s, .int .i64 m, .int .i64 u, .slice A nn c, .int .i64 0, .int .i64 0] 30)) hs1.lt)); have HTA := Lib.hid (TIn.fresh (X := .cells #[.int .i64 k, .string s, .int .i64 m, .int .i64 u, .slice A nn c, .int .i64 0, .int .i64 0] 30) hs1.lt ht1); clear ht1 hs1 hk1)
            | (go_at_call 57; clear MK; refine (setting_is b t0 n0 l0 wPrio 7 _ HGA.out.1 HW0.out wPrio_l).mono ?_; rw [HSP.out]; rintro e W2 ⟨rfl, hg2⟩; have hr2 := HR1.out.kp hg2.2; have r5 := hr2.1.cell 5 rfl; have rf := hr2.1.fz; have HR2 := Lib.hid hr2; have HS2 : Hid (St3 b t1 n0 l0 w W1.heap.size W2) := ⟨hg2.1, HGA.out.2.trans hg2.2, HG1.out.1.lt, HG1.out.2.size, hr2.2.2⟩; have HXB := Lib.hid (HXA.out.kp hg2.2); have HTB := Lib.hid (HTA.out.kpL (HN.out _).1.lt hg2.2); have HR3 := Lib.hid (hr2.own 5 (.int .i64 pv)); have HS3 := Lib.hid (HS2.out.set 5 (.int .i64 pv)); have HXC := Lib.hid (HXB.out.other (Nat.ne_of_lt HX1.out.1.lt) hr2.2.1 5 (.int .i64 pv)); have HTC := Lib.hid (HTB.out.boxL hr2.2.1 5 (.int .i64 pv)); clear hg2 hr2)
            | (go_at_call 57; refine (setting_is b t1 n0 l0 wLim 1000 _ HS3.out.1 HW1.out wLim_l).mono ?_; rw [HSL.out]; rintro e W3 ⟨rfl, hg3⟩; have hr3 := HR3.out.kp hg3.2; have q6 := hr3.1.cell 6 rfl; have qf := hr3.1.fz; have HR4 := Lib.hid (hr3.own 6 (.int .i64 lv)); have HS4 : Hid (St3 b t2 n0 l0 w W1.heap.size W3) := ⟨hg3.1, HS3.out.2.1.trans hg3.2, HG1.out.1.lt, HG1.out.2.size, hr3.2.2⟩; have HS5 := Lib.hid (HS4.out.set 6 (.int .i64 lv)); have HXD := Lib.hid ((HXC.out.kp hg3.2).other (Nat.ne_of_lt HX1.out.1.lt) hr3.2.1 6 (.int .i64 lv)); have HTD := Lib.hid ((HTC.out.kpL (HN.out _).1.lt hg3.2).boxL hr3.2.1 6 (.int .i64 lv)); clear hg3 hr3)
            | (go_at_call 58; refine (take_no b t2 n0 l0 5 _ HS5.out.1 hpos.out h5' hp2).mono ?_; rintro e W4 ⟨rfl, hb4⟩; have HB4 := Lib.hid ((HS5.out.2.1.below HP.out).trans hb4); clear hb4))
          exact ⟨rfl, rfl, HB4.out⟩
end Go.Proofs.YtlokcmbkkfjlkaaGreatDoor
