/- Contract: the parser's request. Contracts: the deferred closure of Parse; Parse. -/
import Derived.Test.YtlokcmbkkfjlkaaGreatDoorRls
import Derived.Test.YtlokcmbkkfjlkaaGreatDoorRvx
import Derived.Test.YtlokcmbkkfjlkaaGreatDoorLall
import Derived.Defers
import Derived.Recover
import Derived.Deep.RegionHeld3
namespace Go.Proofs.YtlokcmbkkfjlkaaGreatDoor
open Go.RowKit
set_option linter.unusedVariables false
set_option linter.unusedSimpArgs false

/-- What request leaves. -/
def RqP (b : Nat) (r : QR) (w : World) (e : Ending) (w' : World) : Prop :=
  match r with
  | .ok x => (∃ k s m u A n c, e = .returned (rq k s m u A n c x.2.1 x.2.2) ∧ TIn (Nw w.heap.size b w') w' ⟨k, s, m, u, A, n, c⟩ x.1) ∧ Below b w w'
  | .no p x => e = Pan p x ∧ Below b w w'
abbrev zr7 : List Value := [.int .i64 0, .string ⟨#[]⟩, .int .i64 0, .int .i64 0, .slice none 0 0, .int .i64 0, .int .i64 0]
theorem TIn.box {lo b g : Nat} {w : World} {v : XV} {x : Ex} (h : TIn (Nw lo b w) w v x) (hg : g < lo) (hb : g ≠ b) (o : Nat) (y : Value) : TIn (Nw lo b (w.setCell ⟨g, o, none⟩ y)) (w.setCell ⟨g, o, none⟩ y) v x := ⟨h.1, h.2.box hg hb o y⟩
/-- Stores into a box made since the tree. -/
theorem TIn.boxL {lo b g : Nat} {w : World} {v : XV} {x : Ex} (h : TIn (fun k => Nw lo b w k ∧ k ≠ g) w v x) (hb : g ≠ b) (o : Nat) (y : Value) : TIn (fun k => Nw lo b (w.setCell ⟨g, o, none⟩ y) k ∧ k ≠ g) (w.setCell ⟨g, o, none⟩ y) v x :=
  h.of (fun k ⟨⟨h1, h2, h3⟩, h4⟩ => ⟨⟨h1, by simpa [World.setCell] using h2, by rw [rowOf_box hb]; exact h3⟩, h4⟩) (fun k ⟨⟨h1, h2, h3⟩, h4⟩ _ => block_set _ _ _ h4) (by simp [World.setCell])
/-- A tree, beside a box that is made right behind it. -/
theorem TIn.fresh {lo b : Nat} {w : World} {X : Obj} {v : XV} {x : Ex} (hb : b < w.heap.size) (h : TIn (Nw lo b w) w v x) : TIn (fun k => Nw lo b (w.alloc X) k ∧ k ≠ w.heap.size) (w.alloc X) v x :=
  h.of (fun k ⟨h1, h2, h3⟩ => ⟨⟨h1, by simp; omega, by rw [show rowOf (w.alloc X) b = rowOf w b by unfold rowOf; rw [cell_of_block ((newB w X).block b hb) 2]]; exact h3⟩, by omega⟩) (fun k ⟨h1, h2, h3⟩ _ => (newB w X).block k h2) (by simp)
theorem TIn.kpL {lo b g : Nat} {w w' : World} {v : XV} {x : Ex} (h : TIn (fun k => Nw lo b w k ∧ k ≠ g) w v x) (hlo : b < lo) (hk : Kp b w w') : TIn (fun k => Nw lo b w' k ∧ k ≠ g) w' v x :=
  h.of (fun k ⟨⟨h1, h2, h3⟩, h4⟩ => ⟨⟨h1, Nat.lt_of_lt_of_le h2 hk.size, fun e => by
    rcases hk.row k e with e | e
    · exact h3 e
    · omega⟩, h4⟩) (fun k ⟨⟨h1, h2, h3⟩, h4⟩ _ => hk.block k h2 (by omega) h3) hk.size
theorem TIn.seven {lo lo' b g q : Nat} {w : World} {v : XV} {x : Ex} (h : TIn (fun k => Nw lo b w k ∧ k ≠ q) w v x) (hlo : lo' ≤ lo) (hg : g < lo) (hb : g ≠ b) (v0 v1 v2 v3 v4 v5 v6 : Value) :
    TIn (Nw lo' b (((((((w.setCell ⟨g, 0, none⟩ v0).setCell ⟨g, 1, none⟩ v1).setCell ⟨g, 2, none⟩ v2).setCell ⟨g, 3, none⟩ v3).setCell ⟨g, 4, none⟩ v4).setCell ⟨g, 5, none⟩ v5).setCell ⟨g, 6, none⟩ v6)) (((((((w.setCell ⟨g, 0, none⟩ v0).setCell ⟨g, 1, none⟩ v1).setCell ⟨g, 2, none⟩ v2).setCell ⟨g, 3, none⟩ v3).setCell ⟨g, 4, none⟩ v4).setCell ⟨g, 5, none⟩ v5).setCell ⟨g, 6, none⟩ v6) v x :=
  TIn.mono ((((((((h.mono (fun k hk => hk.1)).box hg hb 0 v0).box hg hb 1 v1).box hg hb 2 v2).box hg hb 3 v3).box hg hb 4 v4).box hg hb 5 v5).box hg hb 6 v6) (Nw.mono hlo)
theorem below_seven {b g : Nat} {a w : World} (h : Below b a w) (hg : b ≤ g) (v0 v1 v2 v3 v4 v5 v6 : Value) :
    Below b a (((((((w.setCell ⟨g, 0, none⟩ v0).setCell ⟨g, 1, none⟩ v1).setCell ⟨g, 2, none⟩ v2).setCell ⟨g, 3, none⟩ v3).setCell ⟨g, 4, none⟩ v4).setCell ⟨g, 5, none⟩ v5).setCell ⟨g, 6, none⟩ v6) :=
  ((((((h.setCell (p := ⟨g, 0, none⟩) hg v0).setCell (p := ⟨g, 1, none⟩) hg v1).setCell (p := ⟨g, 2, none⟩) hg v2).setCell (p := ⟨g, 3, none⟩) hg v3).setCell (p := ⟨g, 4, none⟩) hg v4).setCell (p := ⟨g, 5, none⟩) hg v5).setCell (p := ⟨g, 6, none⟩) hg v6
set_option maxHeartbeats 16000000 in
set_option maxRecDepth 100000 in
theorem request_is (b : Nat) (t : List T4) (w : World) (hp : Ps w b t 0 []) (hw : WT t) :
    Calls Tryz.prog 35 #[.pointer (some ⟨b, 0, none⟩)] w (RqP b (pQ t) w) := by
  have HP := Lib.hid hp
  have hbg := Lib.hid hp.lt
  have HX : Hid (Bx (w.alloc (.cells #[.int .i64 0, .string ⟨#[]⟩, .int .i64 0, .int .i64 0, .slice none 0 0, .int .i64 0, .int .i64 0] 30)) b w.heap.size zr7) := Bx.new hp zr7 _
  have HN : Hid (∀ X : Obj, Ps (w.alloc X) b t 0 [] ∧ Kp b w (w.alloc X)) := fun X => ⟨HP.out.up (newB w X), Kp.up (newB w X) HP.out.lt⟩
  have hle : Hid (∀ X : Obj, w.heap.size < (w.alloc X).heap.size) := fun X => by simp
  have CE : Hid (∀ X : Obj, Calls Tryz.prog 56 #[.pointer (some ⟨b, 0, none⟩), .int .i64 1] (w.alloc X) (ExP b (pE (t.length + 1) 1 t 0 []) (w.alloc X))) := fun X => expr_all _ b t 0 [] 1 1 _ (HN.out X).1 hw (by omega) (by simp) (by omega) (by omega) rfl
  unfold pQ
  cases he : pE (t.length + 1) 1 t 0 [] with
  | no pe xe0 =>
    rw [he] at CE
    show Calls _ _ _ _ (RqP b (.no pe xe0) w)
    clear he hp hw
    go_enter Tryz.func35, Tryz.ntmps35
    go_wp2_with (first
      | (go_at_call 56; refine (CE.out _).mono ?_; rintro e W1 ⟨rfl, hb1⟩; have HB1 := Lib.hid (((HN.out _).2.below HP.out).trans hb1); clear hb1))
    exact ⟨rfl, rfl, HB1.out⟩
  | ok x t0 n0 l0 =>
    rw [he] at CE
    obtain ⟨w0, -, -, -, -, -⟩ := pE_ok hw he
    have HW0 := Lib.hid w0
    have MK := Lib.hid trivial
    show Calls _ _ _ _ (RqP b (pPri x t0) w)
    unfold pPri
    cases hsp : pS wPrio 7 t0 with
    | no pe xe0 =>
      have HSP := Lib.hid hsp
      show Calls _ _ _ _ (RqP b (.no pe xe0) w)
      clear he hp hw hsp w0
      go_enter Tryz.func35, Tryz.ntmps35
      go_wp2_with (first
        | (go_at_call 56; refine (CE.out _).mono ?_; rintro e W1 ⟨⟨k, s, m, u, A, nn, c, rfl, ht1⟩, hs1, hk1⟩; have HX1 := Lib.hid (HX.out.kp hk1); have HG1 : Hid (Go1 b t0 n0 l0 w W1) := ⟨hs1, (HN.out _).2.trans hk1⟩; have HR1 := Lib.hid (Bx.new hs1 [.int .i64 k, .string s, .int .i64 m, .int .i64 u, .slice A nn c, .int .i64 0, .int .i64 0] 30); have HGA := Lib.hid (Go1.up (w' := W1.alloc (.cells #[.int .i64 k, .string s, .int .i64 m, .int .i64 u, .slice A nn c, .int .i64 0, .int .i64 0] 30)) ⟨hs1, (HN.out _).2.trans hk1⟩ (newB W1 _)); have HXA := Lib.hid ((HX.out.kp hk1).kp (Kp.up (newB W1 (.cells #[.int .i64 k, .string s, .int .i64 m, .int .i64 u, .slice A nn c, .int .i64 0, .int .i64 0] 30)) hs1.lt)); have HTA := Lib.hid (TIn.fresh (X := .cells #[.int .i64 k, .string s, .int .i64 m, .int .i64 u, .slice A nn c, .int .i64 0, .int .i64 0] 30) hs1.lt ht1); clear ht1 hs1 hk1)
        | (go_at_call 57; refine (setting_is b t0 n0 l0 wPrio 7 _ HGA.out.1 HW0.out wPrio_l).mono ?_; rw [HSP.out]; rintro e W2 ⟨rfl, hb2⟩; have HB2 := Lib.hid ((HGA.out.2.below HP.out).trans hb2); clear hb2))
      exact ⟨rfl, rfl, HB2.out⟩
    | ok pv t1 n1 l1 =>
      have HSP := Lib.hid hsp
      obtain ⟨w1, -, -⟩ := pS_ok w0 wPrio_l (by omega) hsp
      have HW1 := Lib.hid w1
      show Calls _ _ _ _ (RqP b (pLim x pv t1) w)
      unfold pLim
      cases hsl : pS wLim 1000 t1 with
      | no pe xe0 =>
        have HSL := Lib.hid hsl
        show Calls _ _ _ _ (RqP b (.no pe xe0) w)
        clear he hp hw hsp hsl w0 w1
        go_enter Tryz.func35, Tryz.ntmps35
        go_wp2_with (first
          | (go_at_call 56; refine (CE.out _).mono ?_; rintro e W1 ⟨⟨k, s, m, u, A, nn, c, rfl, ht1⟩, hs1, hk1⟩; have HX1 := Lib.hid (HX.out.kp hk1); have HG1 : Hid (Go1 b t0 n0 l0 w W1) := ⟨hs1, (HN.out _).2.trans hk1⟩; have HR1 := Lib.hid (Bx.new hs1 [.int .i64 k, .string s, .int .i64 m, .int .i64 u, .slice A nn c, .int .i64 0, .int .i64 0] 30); have HGA := Lib.hid (Go1.up (w' := W1.alloc (.cells #[.int .i64 k, .string s, .int .i64 m, .int .i64 u, .slice A nn c, .int .i64 0, .int .i64 0] 30)) ⟨hs1, (HN.out _).2.trans hk1⟩ (newB W1 _)); have HXA := Lib.hid ((HX.out.kp hk1).kp (Kp.up (newB W1 (.cells #[.int .i64 k, .string s, .int .i64 m, .int .i64 u, .slice A nn c, .int .i64 0, .int .i64 0] 30)) hs1.lt)); have HTA := Lib.hid (TIn.fresh (X := .cells #[.int .i64 k, .string s, .int .i64 m, .int .i64 u, .slice A nn c, .int .i64 0, .int .i64 0] 30) hs1.lt ht1); clear ht1 hs1 hk1)
          | (go_at_call 57; clear MK; refine (setting_is b t0 n0 l0 wPrio 7 _ HGA.out.1 HW0.out wPrio_l).mono ?_; rw [HSP.out]; rintro e W2 ⟨rfl, hg2⟩; have hr2 := HR1.out.kp hg2.2; have r5 := hr2.1.cell 5 rfl; have rf := hr2.1.fz; have HR2 := Lib.hid hr2; have HS2 : Hid (St3 b t1 n0 l0 w W1.heap.size W2) := ⟨hg2.1, HGA.out.2.trans hg2.2, HG1.out.1.lt, HG1.out.2.size, hr2.2.2⟩; have HXB := Lib.hid (HXA.out.kp hg2.2); have HTB := Lib.hid (HTA.out.kpL (HN.out _).1.lt hg2.2); have HR3 := Lib.hid (hr2.own 5 (.int .i64 pv)); have HS3 := Lib.hid (HS2.out.set 5 (.int .i64 pv)); have HXC := Lib.hid (HXB.out.other (Nat.ne_of_lt HX1.out.1.lt) hr2.2.1 5 (.int .i64 pv)); have HTC := Lib.hid (HTB.out.boxL hr2.2.1 5 (.int .i64 pv)); clear hg2 hr2)
          | (go_at_call 57; refine (setting_is b t1 n0 l0 wLim 1000 _ HS3.out.1 HW1.out wLim_l).mono ?_; rw [HSL.out]; rintro e W3 ⟨rfl, hb3⟩; have HB3 := Lib.hid ((HS3.out.2.1.below HP.out).trans hb3); clear hb3))
        exact ⟨rfl, rfl, HB3.out⟩
      | ok lv t2 n2 l2 =>
        have HSL := Lib.hid hsl
        obtain ⟨w2, -, -⟩ := pS_ok w1 wLim_l (by omega) hsl
        have hpos := Lib.hid w2.pos
        by_cases h5 : (hd t2).1 = 5
        · have hl1 := Lib.hid (w2.last h5).1
          have h5' := Lib.hid h5
          show Calls _ _ _ _ (RqP b (if (hd t2).1 = 5 then .ok (x, pv, lv) else .no (hd t2).2.2.2 8) w)
          rw [if_pos h5]
          clear he hp hw hsp hsl w0 w1 w2 h5
          go_enter Tryz.func35, Tryz.ntmps35
          go_wp2_with (first
            | (go_at_call 56; refine (CE.out _).mono ?_; rintro e W1 ⟨⟨k, s, m, u, A, nn, c, rfl, ht1⟩, hs1, hk1⟩; have HX1 := Lib.hid (HX.out.kp hk1); have HG1 : Hid (Go1 b t0 n0 l0 w W1) := ⟨hs1, (HN.out _).2.trans hk1⟩; have HR1 := Lib.hid (Bx.new hs1 [.int .i64 k, .string s, .int .i64 m, .int .i64 u, .slice A nn c, .int .i64 0, .int .i64 0] 30); have HGA := Lib.hid (Go1.up (w' := W1.alloc (.cells #[.int .i64 k, .string s, .int .i64 m, .int .i64 u, .slice A nn c, .int .i64 0, .int .i64 0] 30)) ⟨hs1, (HN.out _).2.trans hk1⟩ (newB W1 _)); have HXA := Lib.hid ((HX.out.kp hk1).kp (Kp.up (newB W1 (.cells #[.int .i64 k, .string s, .int .i64 m, .int .i64 u, .slice A nn c, .int .i64 0, .int .i64 0] 30)) hs1.lt)); have HTA := Lib.hid (TIn.fresh (X := .cells #[.int .i64 k, .string s, .int .i64 m, .int .i64 u, .slice A nn c, .int .i64 0, .int .i64 0] 30) hs1.lt ht1); clear ht1 hs1 hk1)
            | (go_at_call 57; clear MK; refine (setting_is b t0 n0 l0 wPrio 7 _ HGA.out.1 HW0.out wPrio_l).mono ?_; rw [HSP.out]; rintro e W2 ⟨rfl, hg2⟩; have hr2 := HR1.out.kp hg2.2; have r5 := hr2.1.cell 5 rfl; have rf := hr2.1.fz; have HR2 := Lib.hid hr2; have HS2 : Hid (St3 b t1 n0 l0 w W1.heap.size W2) := ⟨hg2.1, HGA.out.2.trans hg2.2, HG1.out.1.lt, HG1.out.2.size, hr2.2.2⟩; have HXB := Lib.hid (HXA.out.kp hg2.2); have HTB := Lib.hid (HTA.out.kpL (HN.out _).1.lt hg2.2); have HR3 := Lib.hid (hr2.own 5 (.int .i64 pv)); have HS3 := Lib.hid (HS2.out.set 5 (.int .i64 pv)); have HXC := Lib.hid (HXB.out.other (Nat.ne_of_lt HX1.out.1.lt) hr2.2.1 5 (.int .i64 pv)); have HTC := Lib.hid (HTB.out.boxL hr2.2.1 5 (.int .i64 pv)); clear hg2 hr2)
            | (go_at_call 57; refine (setting_is b t1 n0 l0 wLim 1000 _ HS3.out.1 HW1.out wLim_l).mono ?_; rw [HSL.out]; rintro e W3 ⟨rfl, hg3⟩; have hr3 := HR3.out.kp hg3.2; have q6 := hr3.1.cell 6 rfl; have qf := hr3.1.fz; have HR4 := Lib.hid (hr3.own 6 (.int .i64 lv)); have HS4 : Hid (St3 b t2 n0 l0 w W1.heap.size W3) := ⟨hg3.1, HS3.out.2.1.trans hg3.2, HG1.out.1.lt, HG1.out.2.size, hr3.2.2⟩; have HS5 := Lib.hid (HS4.out.set 6 (.int .i64 lv)); have HXD := Lib.hid ((HXC.out.kp hg3.2).other (Nat.ne_of_lt HX1.out.1.lt) hr3.2.1 6 (.int .i64 lv)); have HTD := Lib.hid ((HTC.out.kpL (HN.out _).1.lt hg3.2).boxL hr3.2.1 6 (.int .i64 lv)); clear hg3 hr3)
            | (go_at_call 58; refine (take_end b t2 n0 l0 _ HS5.out.1 hl1.out h5').mono ?_; rintro e W4 ⟨⟨s9, n9, p9, rfl⟩, hk4, hb4⟩; have hr4 := HR4.out.kp hk4; have y0 := hr4.1.cell 0 rfl; have y1 := hr4.1.cell 1 rfl; have y2 := hr4.1.cell 2 rfl; have y3 := hr4.1.cell 3 rfl; have y4 := hr4.1.cell 4 rfl; have y5 := hr4.1.cell 5 rfl; have y6 := hr4.1.cell 6 rfl; have hx4 := HXD.out.kp hk4; have x0 := hx4.1.cell 0 rfl; have x1 := hx4.1.cell 1 rfl; have x2 := hx4.1.cell 2 rfl; have x3 := hx4.1.cell 3 rfl; have x4 := hx4.1.cell 4 rfl; have x5 := hx4.1.cell 5 rfl; have x6 := hx4.1.cell 6 rfl; have xf := hx4.1.fz; have HX4 := Lib.hid hx4; have HT4 := Lib.hid (HTD.out.kpL (HN.out _).1.lt hk4); have HB4 := Lib.hid ((HS5.out.2.1.below HP.out).trans hb4); clear hk4 hb4 hr4 hx4))
          exact bodyPost_ret (v := rq k s m u A nn c pv lv) (by simp [results, Tryz.results35, go_sem, x0, x1, x2, x3, x4, x5, x6, xf]) rfl ⟨⟨k, s, m, u, A, nn, c, rfl, HT4.out.seven (Nat.le_of_lt (hle.out _)) (hle.out _) HX4.out.2.1 _ _ _ _ _ _ _⟩, below_seven HB4.out (Nat.le_of_lt hbg.out) _ _ _ _ _ _ _⟩
        · obtain ⟨p2, hp2⟩ : ∃ p, Hid ((hd t2).2.2.2 = p) := ⟨_, rfl⟩
          have h5' := Lib.hid h5
          show Calls _ _ _ _ (RqP b (if (hd t2).1 = 5 then .ok (x, pv, lv) else .no (hd t2).2.2.2 8) w)
          rw [if_neg h5, hp2.out]
          clear he hp hw hsp hsl w0 w1 w2 h5
          go_enter Tryz.func35, Tryz.ntmps35
          go_wp2_with (first
            | (go_at_call 56; refine (CE.out _).mono ?_; rintro e W1 ⟨⟨k, s, m, u, A, nn, c, rfl, ht1⟩, hs1, hk1⟩; have HX1 := Lib.hid (HX.out.kp hk1); have HG1 : Hid (Go1 b t0 n0 l0 w W1) := ⟨hs1, (HN.out _).2.trans hk1⟩; have HR1 := Lib.hid (Bx.new hs1 [.int .i64 k, .string s, .int .i64 m, .int .i64 u, .slice A nn c, .int .i64 0, .int .i64 0] 30); have HGA := Lib.hid (Go1.up (w' := W1.alloc (.cells #[.int .i64 k, .string s, .int .i64 m, .int .i64 u, .slice A nn c, .int .i64 0, .int .i64 0] 30)) ⟨hs1, (HN.out _).2.trans hk1⟩ (newB W1 _)); have HXA := Lib.hid ((HX.out.kp hk1).kp (Kp.up (newB W1 (.cells #[.int .i64 k, .string s, .int .i64 m, .int .i64 u, .slice A nn c, .int .i64 0, .int .i64 0] 30)) hs1.lt)); have HTA := Lib.hid (TIn.fresh (X := .cells #[.int .i64 k, .string s, .int .i64 m, .int .i64 u, .slice A nn c, .int .i64 0, .int .i64 0] 30) hs1.lt ht1); clear ht1 hs1 hk1)
            | (go_at_call 57; clear MK; refine (setting_is b t0 n0 l0 wPrio 7 _ HGA.out.1 HW0.out wPrio_l).mono ?_; rw [HSP.out]; rintro e W2 ⟨rfl, hg2⟩; have hr2 := HR1.out.kp hg2.2; have r5 := hr2.1.cell 5 rfl; have rf := hr2.1.fz; have HR2 := Lib.hid hr2; have HS2 : Hid (St3 b t1 n0 l0 w W1.heap.size W2) := ⟨hg2.1, HGA.out.2.trans hg2.2, HG1.out.1.lt, HG1.out.2.size, hr2.2.2⟩; have HXB := Lib.hid (HXA.out.kp hg2.2); have HTB := Lib.hid (HTA.out.kpL (HN.out _).1.lt hg2.2); have HR3 := Lib.hid (hr2.own 5 (.int .i64 pv)); have HS3 := Lib.hid (HS2.out.set 5 (.int .i64 pv)); have HXC := Lib.hid (HXB.out.other (Nat.ne_of_lt HX1.out.1.lt) hr2.2.1 5 (.int .i64 pv)); have HTC := Lib.hid (HTB.out.boxL hr2.2.1 5 (.int .i64 pv)); clear hg2 hr2)
            | (go_at_call 57; refine (setting_is b t1 n0 l0 wLim 1000 _ HS3.out.1 HW1.out wLim_l).mono ?_; rw [HSL.out]; rintro e W3 ⟨rfl, hg3⟩; have hr3 := HR3.out.kp hg3.2; have q6 := hr3.1.cell 6 rfl; have qf := hr3.1.fz; have HR4 := Lib.hid (hr3.own 6 (.int .i64 lv)); have HS4 : Hid (St3 b t2 n0 l0 w W1.heap.size W3) := ⟨hg3.1, HS3.out.2.1.trans hg3.2, HG1.out.1.lt, HG1.out.2.size, hr3.2.2⟩; have HS5 := Lib.hid (HS4.out.set 6 (.int .i64 lv)); have HXD := Lib.hid ((HXC.out.kp hg3.2).other (Nat.ne_of_lt HX1.out.1.lt) hr3.2.1 6 (.int .i64 lv)); have HTD := Lib.hid ((HTC.out.kpL (HN.out _).1.lt hg3.2).boxL hr3.2.1 6 (.int .i64 lv)); clear hg3 hr3)
            | (go_at_call 58; refine (take_no b t2 n0 l0 5 _ HS5.out.1 hpos.out h5' hp2).mono ?_; rintro e W4 ⟨rfl, hb4⟩; have HB4 := Lib.hid ((HS5.out.2.1.below HP.out).trans hb4); clear hb4))
          exact ⟨rfl, rfl, HB4.out⟩
end Go.Proofs.YtlokcmbkkfjlkaaGreatDoor

namespace Go.Proofs.YtlokcmbkkfjlkaaGreatDoor
open Go.RowKit
set_option linter.unusedVariables false
set_option linter.unusedSimpArgs false

theorem asF_no (w : World) : (Instr.typeAssert .nilIface 20 66 true).run Tryz.prog w = .ok (.tuple #[.agg #[.int .i64 0, .int .i64 0], .bool false]) w := by kernel_rfl
theorem asF_yes (pv : Value) (w : World) : (Instr.typeAssert (.iface 66 pv) 20 66 true).run Tryz.prog w = .ok (.tuple #[pv, .bool true]) w := by kernel_rfl
set_option maxHeartbeats 2000000 in
set_option maxRecDepth 8000 in
theorem catch_idle (p q : Addr) (w : World) :
    CallsD Tryz.prog 34 #[.pointer (some p), .pointer (some q)] .returning w fun e u' w' => e = .returned (.tuple #[]) ∧ u' = .returning ∧ Below w.heap.size w w' := by
  refine callsD_of_wpS Tryz.func34 rfl fun c₀ cs hu => ?_
  apply wpS_seq
  apply wpS_region
  simp [wpOpsS, go_sem, recoverD, hu, Tryz.ntmps34, Exit.thenS, asF_no]
  apply wpS_seq
  apply wpS_region
  simp [wpOpsS, go_sem, Exit.thenS]
  refine wpS_cond (t := false) (by simp [Act.eval, Array.replicate]) ?_
  simp only [Bool.false_eq_true, if_false]
  refine wpS_of_wp (wp_skip ?_)
  cases c₀
  simp_all [bodyPostS, results, Tryz.results34]
  exact newB _ _
set_option maxHeartbeats 4000000 in
set_option maxRecDepth 8000 in
theorem catch_pan (g1 g2 : Nat) (h12 : g1 ≠ g2) (a er x y : Int) (w : World) (hx : w.cell? ⟨g1, 0, none⟩ = some (.int .i64 x)) (hy : w.cell? ⟨g2, 0, none⟩ = some (.int .i64 y)) (zx : ∀ o, w.frozen? ⟨g1, o, none⟩ = false) (zy : ∀ o, w.frozen? ⟨g2, o, none⟩ = false) (l1 : g1 < w.heap.size) (l2 : g2 < w.heap.size) :
    CallsD Tryz.prog 34 #[.pointer (some ⟨g1, 0, none⟩), .pointer (some ⟨g2, 0, none⟩)] (.panicking [{ v := .iface 66 (.agg #[.int .i64 a, .int .i64 er]), recovered := false }]) w fun e u' w' =>
      e = .returned (.tuple #[]) ∧ u' = .panicking [{ v := .iface 66 (.agg #[.int .i64 a, .int .i64 er]), recovered := true }] ∧ w' = (((w.setCell ⟨g1, 0, none⟩ (.int .i64 a)).setCell ⟨g2, 0, none⟩ (.int .i64 er)).alloc (.cells #[.int .i64 a, .int .i64 er] 66)).drew := by
  have hz1 := zx 0
  have hz2 := zy 0
  refine callsD_of_wpS Tryz.func34 rfl fun c₀ cs hu => ?_
  apply wpS_seq
  apply wpS_region
  simp [wpOpsS, go_sem, recoverD, hu, Tryz.ntmps34, Exit.thenS, asF_yes]
  apply wpS_seq
  apply wpS_region
  simp [wpOpsS, go_sem, Exit.thenS]
  refine wpS_cond (t := true) (by simp [Act.eval, Array.replicate]) ?_
  simp only [if_true]
  refine wpS_of_wp ?_
  have kx : (w.alloc (.cells #[.int .i64 a, .int .i64 er] 66)).cell? ⟨g1, 0, none⟩ = some (.int .i64 x) := (cell_of_block ((newB w _).block g1 l1) 0).trans hx
  have ky : (w.alloc (.cells #[.int .i64 a, .int .i64 er] 66)).cell? ⟨g2, 0, none⟩ = some (.int .i64 y) := (cell_of_block ((newB w _).block g2 l2) 0).trans hy
  have k1 : ¬ g1 = w.heap.size := Nat.ne_of_lt l1
  have k2 : ¬ g2 = w.heap.size := Nat.ne_of_lt l2
  have k3 : ¬ w.heap.size = g1 := fun h => k1 h.symm
  have k4 : ¬ w.heap.size = g2 := fun h => k2 h.symm
  have k5 : ¬ g2 = g1 := fun h => h12 h.symm
  simp only [Array.replicate, List.replicate, List.setIfInBounds_toArray, List.set_cons_zero, List.set_cons_succ, List.append_toArray, List.cons_append, List.nil_append]
  go_region
  cases c₀
  simp_all [bodyPostS, results, Tryz.results34]
/-- What Parse answers. -/
def PaP (r : QR) (w : World) (e : Ending) (w' : World) : Prop :=
  match r with
  | .ok x => (∃ k s m u A n c, e = .returned (.tuple #[rq k s m u A n c x.2.1 x.2.2, .int .i64 0, .int .i64 0]) ∧ TIn (Lo w'.heap.size) w' ⟨k, s, m, u, A, n, c⟩ x.1) ∧ Below w.heap.size w w'
  | .no p x => e = .returned (.tuple #[rq 0 ⟨#[]⟩ 0 0 none 0 0 0 0, .int .i64 p, .int .i64 x]) ∧ Below w.heap.size w w'
abbrev w3 (w : World) : World := ((w.alloc (.cells #[.int .i64 0, .string ⟨#[]⟩, .int .i64 0, .int .i64 0, .slice none 0 0, .int .i64 0, .int .i64 0] 30)).alloc (.cells #[.int .i64 0] 3)).alloc (.cells #[.int .i64 0] 34)
theorem w3_size (w : World) : (w3 w).heap.size = w.heap.size + 3 := by simp
theorem w3_below (w : World) : Below w.heap.size w (w3 w) := nx (nx (newB w _) (newB _ _)) (newB _ _)
theorem w3_blk (w : World) : Blk (w3 w) w.heap.size zr7 ∧ Blk (w3 w) (w.heap.size + 1) [.int .i64 0] ∧ Blk (w3 w) (w.heap.size + 1 + 1) [.int .i64 0] := by
  have h0 := Blk.new w zr7 30 rfl
  have h1 := Blk.new (w.alloc (.cells zr7.toArray 30)) [.int .i64 0] 3 rfl
  have h2 := Blk.new ((w.alloc (.cells zr7.toArray 30)).alloc (.cells #[.int .i64 0] 3)) [.int .i64 0] 34 rfl
  refine ⟨(h0.up (newB _ _) h0.lt).up (newB _ _) (by simp; omega), ?_, ?_⟩
  · have e : (w.alloc (.cells zr7.toArray 30)).heap.size = w.heap.size + 1 := by simp
    rw [e] at h1
    exact h1.up (newB _ _) (by simp)
  · have e : ((w.alloc (.cells zr7.toArray 30)).alloc (.cells #[.int .i64 0] 3)).heap.size = w.heap.size + 1 + 1 := by simp
    rw [e] at h2
    exact h2
/-- Nine stores into the boxes of the results. -/
abbrev W9 (W : World) (g0 g1 g2 : Nat) (v0 v1 v2 v3 v4 v5 v6 x y : Value) : World := ((((((((W.setCell ⟨g0, 0, none⟩ v0).setCell ⟨g0, 1, none⟩ v1).setCell ⟨g0, 2, none⟩ v2).setCell ⟨g0, 3, none⟩ v3).setCell ⟨g0, 4, none⟩ v4).setCell ⟨g0, 5, none⟩ v5).setCell ⟨g0, 6, none⟩ v6).setCell ⟨g1, 0, none⟩ x).setCell ⟨g2, 0, none⟩ y
def Res9 (W : World) (g0 g1 g2 : Nat) (v0 v1 v2 v3 v4 v5 v6 x y : Value) : Prop := Blk W g0 [v0, v1, v2, v3, v4, v5, v6] ∧ Blk W g1 [x] ∧ Blk W g2 [y]
theorem blk_nine {W : World} {g0 g1 g2 : Nat} {u0 u1 u2 u3 u4 u5 u6 p q : Value} (h10 : g1 ≠ g0) (h20 : g2 ≠ g0) (h21 : g2 ≠ g1) (h0 : Blk W g0 [u0, u1, u2, u3, u4, u5, u6]) (h1 : Blk W g1 [p]) (h2 : Blk W g2 [q]) (v0 v1 v2 v3 v4 v5 v6 x y : Value) :
    Res9 (W9 W g0 g1 g2 v0 v1 v2 v3 v4 v5 v6 x y) g0 g1 g2 v0 v1 v2 v3 v4 v5 v6 x y := by
  have a0 := ((((((h0.set 0 v0).set 1 v1).set 2 v2).set 3 v3).set 4 v4).set 5 v5).set 6 v6
  have b0 : ∀ g, g ≠ g0 → (((((((W.setCell ⟨g0, 0, none⟩ v0).setCell ⟨g0, 1, none⟩ v1).setCell ⟨g0, 2, none⟩ v2).setCell ⟨g0, 3, none⟩ v3).setCell ⟨g0, 4, none⟩ v4).setCell ⟨g0, 5, none⟩ v5).setCell ⟨g0, 6, none⟩ v6).heap[g]? = W.heap[g]? := fun g hg =>
    (block_set _ _ _ hg).trans ((block_set _ _ _ hg).trans ((block_set _ _ _ hg).trans ((block_set _ _ _ hg).trans ((block_set _ _ _ hg).trans ((block_set _ _ _ hg).trans (block_set _ _ _ hg))))))
  exact ⟨(a0.of (block_set _ _ _ (fun e => h10 e.symm))).of (block_set _ _ _ (fun e => h20 e.symm)), ((h1.of (b0 _ h10)).set 0 x).of (block_set _ _ _ (fun e => h21 e.symm)), ((h2.of (b0 _ h20)).of (block_set _ _ _ h21)).set 0 y⟩
theorem res_nine {W : World} {g0 g1 g2 : Nat} {v0 v1 v2 v3 v4 v5 v6 x y : Value} (T : Array Value) (h0 : T[2]? = some (.pointer (some ⟨g0, 0, none⟩))) (h1 : T[3]? = some (.pointer (some ⟨g1, 0, none⟩))) (h2 : T[4]? = some (.pointer (some ⟨g2, 0, none⟩))) (h : Res9 W g0 g1 g2 v0 v1 v2 v3 v4 v5 v6 x y) :
    (results Tryz.f15 T).run Tryz.prog W = .ok (.tuple #[.agg #[v0, v1, v2, v3, v4, v5, v6], x, y]) W := by
  have c0 := h.1.cell 0 rfl
  have c1 := h.1.cell 1 rfl
  have c2 := h.1.cell 2 rfl
  have c3 := h.1.cell 3 rfl
  have c4 := h.1.cell 4 rfl
  have c5 := h.1.cell 5 rfl
  have c6 := h.1.cell 6 rfl
  have d1 := h.2.1.cell 0 rfl
  have d2 := h.2.2.cell 0 rfl
  simp [results, Tryz.results15, go_sem, h0, h1, h2, c0, c1, c2, c3, c4, c5, c6, d1, d2]
theorem Res9.drew {W : World} {g0 g1 g2 : Nat} {v0 v1 v2 v3 v4 v5 v6 x y : Value} (h : Res9 W g0 g1 g2 v0 v1 v2 v3 v4 v5 v6 x y) : Res9 W.drew g0 g1 g2 v0 v1 v2 v3 v4 v5 v6 x y := h
set_option maxHeartbeats 8000000 in
set_option maxRecDepth 100000 in
theorem parse_bad (s : ByteArray) (w : World) (hV : VX w) {x : List T4} {a e : Int} (hr : Hid (lexR s = (x, a, e))) (he : e ≠ 0) :
    Calls Tryz.prog 15 #[.string s] w (PaP (.no a e) w) := by
  have HV : Hid (VX (w3 w)) := hV.below (w3_below w)
  have HB0 := Lib.hid (w3_below w)
  have HK := Lib.hid (w3_blk w)
  have he0 : (e == 0) = false := by rw [beq_eq_false_iff_ne]; exact he
  clear hV he
  go_enter_defers Tryz.func15, Tryz.ntmps15
  go_wp2_with (first
    | (go_at_call 33; refine (tokens_is s _ HV.out hr).mono ?_; rintro e1 W1 ⟨A, m, c, rfl, -, hb1⟩; have k0 := HK.out.1.up hb1 (by rw [w3_size]; omega); have k1 := HK.out.2.1.up hb1 (by rw [w3_size]; omega); have k2 := HK.out.2.2.up hb1 (by rw [w3_size]; omega); have c1 := k1.cell 0 rfl; have c2 := k2.cell 0 rfl; have f1 := k1.fz; have f2 := k2.fz; have f0 := k0.fz; have d0 := k0.cell 0 rfl; have d1 := k0.cell 1 rfl; have d2 := k0.cell 2 rfl; have d3 := k0.cell 3 rfl; have d4 := k0.cell 4 rfl; have d5 := k0.cell 5 rfl; have d6 := k0.cell 6 rfl; have HK0 := Lib.hid k0; have HK1 := Lib.hid k1; have HK2 := Lib.hid k2; have HB1 := Lib.hid (HB0.out.trans (hb1.mono HB0.out.size)); clear hb1 k0 k1 k2))
  go_region
  go_wp2
  have a1' : w.heap.size + 1 + 1 ≠ w.heap.size := by omega
  have a2' : w.heap.size ≠ w.heap.size + 1 + 1 := by omega
  have a3' : w.heap.size + 1 + 1 ≠ w.heap.size + 1 := by omega
  have a4' : w.heap.size + 1 ≠ w.heap.size + 1 + 1 := by omega
  have a5' : w.heap.size + 1 ≠ w.heap.size := by omega
  have a6' : w.heap.size ≠ w.heap.size + 1 := by omega
  have z := blk_nine (a5') (a1') (a3') (HK0.out.of ((block_set _ _ _ a2').trans (block_set _ _ _ a6'))) ((HK1.out.set 0 (.int .i64 a)).of (block_set _ _ _ a4')) ((HK2.out.of (block_set _ _ _ a3')).set 0 (.int .i64 e)) (.int .i64 0) (.string ⟨#[]⟩) (.int .i64 0) (.int .i64 0) (.slice none 0 0) (.int .i64 0) (.int .i64 0) (.int .i64 a) (.int .i64 e)
  refine ⟨.tuple #[rq 0 ⟨#[]⟩ 0 0 none 0 0 0 0, .int .i64 a, .int .i64 e], ?_, rfl, ?_⟩
  · exact res_nine _ rfl rfl rfl z.drew
  · apply Below.drew
    repeat (refine Below.setCell ?_ (by simp only []; omega) _)
    exact HB1.out
theorem ps_new (W : World) {b : Nat} (hb : W.heap.size = b) {A : Option Addr} {m c : Nat} {t : List T4} (hi : InT W A m c t) (hw : WT t) : Ps (W.alloc (.cells #[.slice A m c, .int .i64 0, .slice none 0 0] 69)) b t 0 [] := by
  subst hb
  obtain ⟨tb, o, rfl, hlt, hz⟩ := hi.rd hw.ne
  obtain rfl := hi.len
  have hk : Blk (W.alloc (.cells #[.slice (some ⟨tb, o, none⟩) t.length c, .int .i64 0, .slice none 0 0] 69)) W.heap.size [.slice (some ⟨tb, o, none⟩) t.length c, .int .i64 0, .slice none 0 0] := Blk.new W _ _ rfl
  exact ⟨.slice none 0 0, tb, o, c, hk.lt, hk.cell 0 rfl, hk.cell 1 rfl, hk.cell 2 rfl, hk.fz, hi.fit, hlt, fun i h => (hz i h).of_block ((newB W _).block tb hlt), OwnQ.nil _ _⟩
/-- A store into a box of one cell does not touch the tokens. -/
theorem int_set {W : World} {A : Option Addr} {m c g : Nat} {t : List T4} {v : Value} (hi : InT W A m c t) (hg : Blk W g [v]) (u : Value) : InT (W.setCell ⟨g, 0, none⟩ u) A m c t := by
  refine ⟨hi.len, fun hx => ?_, hi.fit, hi.big⟩
  obtain ⟨b, o, rfl, hlt, hc⟩ := hi.rd hx
  have hne : b ≠ g := by
    rintro rfl
    obtain ⟨T, hT⟩ := hg
    have h0 := (hc 0 (List.length_pos_iff.2 hx)).2.1
    rw [cell_of_row W b _ _ T (0, 0) hT] at h0
    simp at h0
  exact ⟨b, o, rfl, by simpa using hlt, fun i h => (hc i h).of_block (block_set _ _ _ hne)⟩
theorem nine_block {W : World} {g0 g1 g2 : Nat} (v0 v1 v2 v3 v4 v5 v6 x y : Value) {g : Nat} (h0 : g ≠ g0) (h1 : g ≠ g1) (h2 : g ≠ g2) : (W9 W g0 g1 g2 v0 v1 v2 v3 v4 v5 v6 x y).heap[g]? = W.heap[g]? :=
  (block_set _ _ _ h2).trans ((block_set _ _ _ h1).trans ((block_set _ _ _ h0).trans ((block_set _ _ _ h0).trans ((block_set _ _ _ h0).trans ((block_set _ _ _ h0).trans ((block_set _ _ _ h0).trans ((block_set _ _ _ h0).trans (block_set _ _ _ h0))))))))
theorem nine_size {W : World} {g0 g1 g2 : Nat} (v0 v1 v2 v3 v4 v5 v6 x y : Value) : (W9 W g0 g1 g2 v0 v1 v2 v3 v4 v5 v6 x y).heap.size = W.heap.size := by simp [World.setCell]
theorem nine_below {B : Nat} {a W : World} {g0 g1 g2 : Nat} (h : Below B a W) (h0 : B ≤ g0) (h1 : B ≤ g1) (h2 : B ≤ g2) (v0 v1 v2 v3 v4 v5 v6 x y : Value) : Below B a (W9 W g0 g1 g2 v0 v1 v2 v3 v4 v5 v6 x y) :=
  ((below_seven h h0 v0 v1 v2 v3 v4 v5 v6).setCell (p := ⟨g1, 0, none⟩) h1 x).setCell (p := ⟨g2, 0, none⟩) h2 y
theorem Res9.up {W W' : World} {g0 g1 g2 : Nat} {v0 v1 v2 v3 v4 v5 v6 x y : Value} (h : Res9 W g0 g1 g2 v0 v1 v2 v3 v4 v5 v6 x y) (hb : Below W.heap.size W W') : Res9 W' g0 g1 g2 v0 v1 v2 v3 v4 v5 v6 x y := ⟨h.1.up hb h.1.lt, h.2.1.up hb h.2.1.lt, h.2.2.up hb h.2.2.lt⟩
theorem TIn.nine {lo b g0 g1 g2 : Nat} {W W' : World} {v : XV} {e : Ex} {v0 v1 v2 v3 v4 v5 v6 x y : Value} (h : TIn (Nw lo b W) W v e) (h0 : g0 < lo) (h1 : g1 < lo) (h2 : g2 < lo) (hb : Below (W9 W g0 g1 g2 v0 v1 v2 v3 v4 v5 v6 x y).heap.size (W9 W g0 g1 g2 v0 v1 v2 v3 v4 v5 v6 x y) W') : TIn (Lo W'.heap.size) W' v e :=
  h.of (fun k ⟨q1, q2, q3⟩ => Nat.lt_of_lt_of_le (by rw [nine_size]; exact q2) hb.size) (fun k ⟨q1, q2, q3⟩ _ => (hb.block k (by rw [nine_size]; exact q2)).trans (nine_block _ _ _ _ _ _ _ _ _ (by omega) (by omega) (by omega))) (by have := hb.size; rw [nine_size] at this; exact this)
/-- The boxes behind the tokens, the two stores and what the parser made. -/
theorem boxes {W1 W2 : World} {g0 g1 g2 : Nat} {p q : Value} {X : Obj} (h10 : g1 ≠ g0) (h20 : g2 ≠ g0) (h21 : g2 ≠ g1) (h0 : Blk W1 g0 zr7) (h1 : Blk W1 g1 [p]) (h2 : Blk W1 g2 [q]) (x y : Value) (hb : Below W1.heap.size (((W1.setCell ⟨g1, 0, none⟩ x).setCell ⟨g2, 0, none⟩ y).alloc X) W2) : Blk W2 g0 zr7 ∧ Blk W2 g1 [x] ∧ Blk W2 g2 [y] := by
  have e : ((W1.setCell ⟨g1, 0, none⟩ x).setCell ⟨g2, 0, none⟩ y).heap.size = W1.heap.size := by simp [World.setCell]
  have k0 := (h0.of (block_set _ _ _ (fun e => h10 e.symm))).of (block_set (W1.setCell ⟨g1, 0, none⟩ x) 0 y (fun e => h20 e.symm))
  have k1 := (h1.set 0 x).of (block_set (W1.setCell ⟨g1, 0, none⟩ x) 0 y (fun e => h21 e.symm))
  have k2 := (h2.of (block_set W1 0 x h21)).set 0 y
  exact ⟨(k0.grow X).up hb h0.lt, (k1.grow X).up hb h1.lt, (k2.grow X).up hb h2.lt⟩
theorem below_boxes {w W1 W2 : World} {g1 g2 : Nat} {X : Obj} {x y : Value} (h : Below w.heap.size w W1) (h1 : w.heap.size ≤ g1) (h2 : w.heap.size ≤ g2) (hb : Below W1.heap.size (((W1.setCell ⟨g1, 0, none⟩ x).setCell ⟨g2, 0, none⟩ y).alloc X) W2) : Below w.heap.size w W2 := by
  have k := (h.setCell (p := ⟨g1, 0, none⟩) h1 x).setCell (p := ⟨g2, 0, none⟩) h2 y
  have e : ((W1.setCell ⟨g1, 0, none⟩ x).setCell ⟨g2, 0, none⟩ y).heap.size = W1.heap.size := by simp [World.setCell]
  exact (k.trans ((newB _ X).mono (by rw [e]; exact h.size))).trans (hb.mono h.size)
set_option maxHeartbeats 8000000 in
set_option maxRecDepth 100000 in
theorem parse_go (s : ByteArray) (w : World) (hV : VX w) {t : List T4} {a : Int} (hr : Hid (lexR s = (t, a, 0))) (hw : WT t) {R : QR} (hR : Hid (pQ t = R)) :
    Calls Tryz.prog 15 #[.string s] w (PaP R w) := by
  have HV : Hid (VX (w3 w)) := hV.below (w3_below w)
  have HB0 := Lib.hid (w3_below w)
  have HK := Lib.hid (w3_blk w)
  have HWT := Lib.hid hw
  have hmf : ∀ (fn : Fn) (first cap : Array Value) (w : World), (Instr.makeFunc fn first cap).run Tryz.prog w = .ok (.func fn first cap) w := fun _ _ _ _ => rfl
  clear hV hw
  have a1' : w.heap.size + 1 + 1 ≠ w.heap.size := by omega
  have a3' : w.heap.size + 1 + 1 ≠ w.heap.size + 1 := by omega
  have a5' : w.heap.size + 1 ≠ w.heap.size := by omega
  have HG : Hid (w.heap.size ≤ w.heap.size + 1 ∧ w.heap.size ≤ w.heap.size + 1 + 1) := ⟨by omega, by omega⟩
  have A1 := Lib.hid a1'
  have A3 := Lib.hid a3'
  have A5 := Lib.hid a5'
  cases R with
  | ok x =>
    go_enter_defers Tryz.func15, Tryz.ntmps15
    go_wp2_with (first
      | (go_at_call 33; refine (tokens_is s _ HV.out hr).mono ?_; rintro e1 W1 ⟨A, m, c, rfl, hi, hb1⟩; have k0 := HK.out.1.up hb1 (by rw [w3_size]; omega); have k1 := HK.out.2.1.up hb1 (by rw [w3_size]; omega); have k2 := HK.out.2.2.up hb1 (by rw [w3_size]; omega); have c1 := k1.cell 0 rfl; have c2 := k2.cell 0 rfl; have f1 := k1.fz; have f2 := k2.fz; have HK0 := Lib.hid k0; have HKP := Lib.hid k1; have HK2 := Lib.hid k2; have HI := Lib.hid (int_set (int_set hi k1 (.int .i64 a)) (k2.of (block_set _ _ _ a3')) (.int .i64 0)); have HB1 := Lib.hid (HB0.out.trans (hb1.mono HB0.out.size)); clear hb1 k0 k1 k2 hi)
      | (go_at_call 35; refine (request_is _ t _ (ps_new _ (by simp) HI.out HWT.out) HWT.out).mono ?_; rw [hR.out]; rintro e2 W2 ⟨⟨k, s2, mm, u, A2, n2, c2', rfl, ht⟩, hb2⟩; have hbx := boxes A5.out A1.out A3.out HK0.out HKP.out HK2.out _ _ hb2; have x0 := hbx.1.cell 0 rfl; have x1 := hbx.1.cell 1 rfl; have x2 := hbx.1.cell 2 rfl; have x3 := hbx.1.cell 3 rfl; have x4 := hbx.1.cell 4 rfl; have x5 := hbx.1.cell 5 rfl; have x6 := hbx.1.cell 6 rfl; have y1 := hbx.2.1.cell 0 rfl; have y2 := hbx.2.2.cell 0 rfl; have xf := hbx.1.fz; have y1f := hbx.2.1.fz; have y2f := hbx.2.2.fz; have HBX := Lib.hid hbx; have HT := Lib.hid ht; have HB2 := Lib.hid (below_boxes HB1.out HG.out.1 HG.out.2 hb2); have HLT := Lib.hid hb2.size; clear hbx ht hb2))
    have hz := blk_nine A5.out A1.out A3.out HBX.out.1 HBX.out.2.1 HBX.out.2.2 (.int .i64 k) (.string s2) (.int .i64 mm) (.int .i64 u) (.slice A2 n2 c2') (.int .i64 x.2.1) (.int .i64 x.2.2) (.int .i64 0) (.int .i64 0)
    have HZ := Lib.hid hz
    clear hz
    refine leaves_cons (f := 34) (args := #[.pointer (some ⟨w.heap.size + 1, 0, none⟩), .pointer (some ⟨w.heap.size + 1 + 1, 0, none⟩)]) (by simp) (by simp [go_sem]) ?_
    refine (catch_idle ⟨w.heap.size + 1, 0, none⟩ ⟨w.heap.size + 1 + 1, 0, none⟩ _).mono ?_
    rintro e u' w'' ⟨rfl, rfl, hb9⟩
    have hlt := HK0.out.lt
    have hnb := nine_below HB2.out (Nat.le_refl _) HG.out.1 HG.out.2 (.int .i64 k) (.string s2) (.int .i64 mm) (.int .i64 u) (.slice A2 n2 c2') (.int .i64 x.2.1) (.int .i64 x.2.2) (.int .i64 0) (.int .i64 0)
    have hlt2 := HBX.out.2.1.lt
    exact ⟨_, res_nine _ rfl rfl rfl (HZ.out.up hb9), ⟨k, s2, mm, u, A2, n2, c2', rfl, HT.out.nine (by simp; omega) (by have := HKP.out.lt; simp; omega) (by have := HK2.out.lt; simp; omega) hb9⟩, hnb.trans (hb9.mono hnb.size)⟩
  | no pe xe0 =>
    go_enter_defers Tryz.func15, Tryz.ntmps15
    go_wp2_with (first
      | (go_at_call 33; refine (tokens_is s _ HV.out hr).mono ?_; rintro e1 W1 ⟨A, m, c, rfl, hi, hb1⟩; have k0 := HK.out.1.up hb1 (by rw [w3_size]; omega); have k1 := HK.out.2.1.up hb1 (by rw [w3_size]; omega); have k2 := HK.out.2.2.up hb1 (by rw [w3_size]; omega); have c1 := k1.cell 0 rfl; have c2 := k2.cell 0 rfl; have f1 := k1.fz; have f2 := k2.fz; have HK0 := Lib.hid k0; have HKP := Lib.hid k1; have HK2 := Lib.hid k2; have HI := Lib.hid (int_set (int_set hi k1 (.int .i64 a)) (k2.of (block_set _ _ _ a3')) (.int .i64 0)); have HB1 := Lib.hid (HB0.out.trans (hb1.mono HB0.out.size)); clear hb1 k0 k1 k2 hi)
      | (go_at_call 35; refine (request_is _ t _ (ps_new _ (by simp) HI.out HWT.out) HWT.out).mono ?_; rw [hR.out]; rintro e2 W2 ⟨rfl, hb2⟩; have hbx := boxes A5.out A1.out A3.out HK0.out HKP.out HK2.out _ _ hb2; have HBX := Lib.hid hbx; have HB2 := Lib.hid (below_boxes HB1.out HG.out.1 HG.out.2 hb2); clear hbx hb2))
    refine leaves_cons (f := 34) (args := #[.pointer (some ⟨w.heap.size + 1, 0, none⟩), .pointer (some ⟨w.heap.size + 1 + 1, 0, none⟩)]) (by simp) (by simp [go_sem]) ?_
    refine (catch_pan (w.heap.size + 1) (w.heap.size + 1 + 1) (fun e => A3.out e.symm) pe xe0 a 0 W2 (HBX.out.2.1.cell 0 rfl) (HBX.out.2.2.cell 0 rfl) HBX.out.2.1.fz HBX.out.2.2.fz HBX.out.2.1.lt HBX.out.2.2.lt).mono ?_
    rintro e u' w'' ⟨rfl, rfl, rfl⟩
    have hz := boxes (X := .cells #[.int .i64 pe, .int .i64 xe0] 66) A5.out A1.out A3.out HBX.out.1 HBX.out.2.1 HBX.out.2.2 (.int .i64 pe) (.int .i64 xe0) (bdD (Below.refl _ _))
    exact ⟨_, res_nine _ rfl rfl rfl hz, rfl, below_boxes (X := .cells #[.int .i64 pe, .int .i64 xe0] 66) (x := .int .i64 pe) (y := .int .i64 xe0) HB2.out HG.out.1 HG.out.2 (bdD (Below.refl _ _))⟩
/-- Parse, whatever the text. -/
theorem parse_is (s : ByteArray) (w : World) (hV : VX w) {R : QR} (hR : Hid (pR s = R)) : Calls Tryz.prog 15 #[.string s] w (PaP R w) := by
  have e := hR.out
  unfold pR at e
  by_cases h : (lexR s).2.2 = 0
  · rw [if_pos h] at e
    exact parse_go s w hV (t := (lexR s).1) (a := (lexR s).2.1) (by show _ = _; rw [← h]) (wt_lexR h) e
  · rw [if_neg h] at e
    rw [← e]
    exact parse_bad s w hV (x := (lexR s).1) (a := (lexR s).2.1) (e := (lexR s).2.2) rfl h
end Go.Proofs.YtlokcmbkkfjlkaaGreatDoor
