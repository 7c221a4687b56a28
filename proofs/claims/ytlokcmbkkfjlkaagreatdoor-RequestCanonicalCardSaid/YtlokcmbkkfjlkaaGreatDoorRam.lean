/- Contract: the parser's amount. -/
import Derived.Test.YtlokcmbkkfjlkaaGreatDoorRpb
namespace Go.Proofs.YtlokcmbkkfjlkaaGreatDoor
open Go.RowKit
set_option linter.unusedVariables false
set_option linter.unusedSimpArgs false

/-- What stands in an atom behind the name. -/
def pAm (t : List T4) (n : Nat) (l : List A3) : PR (Int × Int) :=
  if (hd t).2.1 = wStar then
    (if (hd t.tail).1 = 3 then (if 1 ≤ (hd t.tail).2.2.1 ∧ (hd t.tail).2.2.1 ≤ 8 then .ok (0, (hd t.tail).2.2.1) t.tail.tail n l else .no (hd t.tail).2.2.2 12)
     else .no (hd t.tail).2.2.2 8)
  else if (hd t).2.1 = wCol then (if (hd t.tail).1 = 2 then .ok ((hd t.tail).2.2.1, 0) t.tail.tail n l else .no (hd t.tail).2.2.2 8)
  else .no (hd t).2.2.2 8
def AmP (b n : Nat) (l : List A3) (r : PR (Int × Int)) (w : World) (e : Ending) (w' : World) : Prop :=
  match r with
  | .ok v t' _ _ => e = .returned (aa v.1 v.2) ∧ Go1 b t' n l w w'
  | .no p x => e = Pan p x ∧ Below b w w'
theorem PsV.box {w : World} {b : Nat} {t : List T4} {n : Nat} {l : List A3} {V : Value} {tb tq c : Nat} (h : PsV w b t n l V tb tq c) {g : Nat} (hg : b < g) (hr : rowOf w b ≠ some g) (o : Nat) (v : Value) : PsV (w.setCell ⟨g, o, none⟩ v) b t n l V tb tq c := by
  have e : (w.setCell ⟨g, o, none⟩ v).heap[b]? = w.heap[b]? := block_set _ _ _ (by omega)
  have hr' := hr
  rw [rowOf_eq h.c2] at hr'
  exact ⟨by simpa using h.lt, (cell_of_block e _).trans h.c0, (cell_of_block e _).trans h.c1, (cell_of_block e _).trans h.c2, fun o => (frozen_of_block e o).trans (h.fz o), h.fit, h.tlt,
    fun i hi => (h.tok i hi).of_block (block_set _ _ _ (by have := h.tlt; omega)), own_kept h.own (fun q hq => block_set _ _ _ (fun e => hr' (by rw [hq, e])))⟩
theorem Ps.box {w : World} {b : Nat} {t : List T4} {n : Nat} {l : List A3} (h : Ps w b t n l) {g : Nat} (hg : b < g) (hr : rowOf w b ≠ some g) (o : Nat) (v : Value) : Ps (w.setCell ⟨g, o, none⟩ v) b t n l := by
  obtain ⟨V, tb, tq, c, h⟩ := h
  exact ⟨V, tb, tq, c, h.box hg hr o v⟩
theorem rowOf_box {w : World} {b g : Nat} (hg : g ≠ b) (o : Nat) (v : Value) : rowOf (w.setCell ⟨g, o, none⟩ v) b = rowOf w b := by
  unfold rowOf
  rw [cell_of_block (block_set w (a := g) (b := b) o v (Ne.symm hg)) 2]
theorem Kp.box {b g : Nat} {a w : World} (h : Kp b a w) (hg : a.heap.size ≤ g) (hgb : g ≠ b) (o : Nat) (v : Value) : Kp b a (w.setCell ⟨g, o, none⟩ v) :=
  ⟨h.os, h.tape, h.output, by simpa [World.setCell] using h.size, fun k h1 h2 h3 => (block_set _ _ _ (by omega)).trans (h.block k h1 h2 h3), fun k hk => h.row k (by rw [← rowOf_box hgb o v]; exact hk)⟩
/-- The state, what is kept since a, and a box g that is the call's own. -/
def St3 (b : Nat) (t : List T4) (n : Nat) (l : List A3) (a : World) (g : Nat) (w : World) : Prop := Ps w b t n l ∧ Kp b a w ∧ b < g ∧ a.heap.size ≤ g ∧ rowOf w b ≠ some g
theorem St3.set {b : Nat} {t : List T4} {n : Nat} {l : List A3} {a : World} {g : Nat} {w : World} (h : St3 b t n l a g w) (o : Nat) (v : Value) : St3 b t n l a g (w.setCell ⟨g, o, none⟩ v) := by
  obtain ⟨h1, h2, h3, h4, h5⟩ := h
  exact ⟨h1.box h3 h5 o v, h2.box h4 (by omega) o v, h3, h4, by rw [rowOf_box (by omega)]; exact h5⟩
theorem St3.go {b : Nat} {t : List T4} {n : Nat} {l : List A3} {a : World} {g : Nat} {w : World} (h : St3 b t n l a g w) : Go1 b t n l a w := ⟨h.1, h.2.1⟩
theorem fldT (k : Int) (s : ByteArray) (n a : Int) (W : World) : (Instr.field 53 (tk k s n a) 2).run Tryz.prog W = .ok (.int .i64 n) W := by kernel_rfl
set_option maxHeartbeats 4000000 in
set_option maxRecDepth 8000 in
theorem amount_is (b : Nat) (t : List T4) (n : Nat) (l : List A3) (w : World) (hp : Ps w b t n l) (hw : WT t) :
    Calls Tryz.prog 110 #[.pointer (some ⟨b, 0, none⟩)] w (AmP b n l (pAm t n l) w) := by
  have HP := Lib.hid hp
  have hlt := hp.lt
  have h0 : 0 < t.length := by have := hw.ne; cases t with | nil => exact absurd rfl this | cons a r => simp
  have HX : Hid (Bx (w.alloc (.cells #[.int .i64 0, .int .i64 0] 23)) b w.heap.size [.int .i64 0, .int .i64 0]) := Bx.new hp _ _
  have HN : Hid (∀ X : Obj, Ps (w.alloc X) b t n l ∧ Kp b w (w.alloc X)) := fun X => ⟨HP.out.up (newB w X), Kp.up (newB w X) HP.out.lt⟩
  have hbg : Hid (b < w.heap.size) := hlt
  have hf := fldT
  clear hp hlt
  unfold pAm
  by_cases e1 : (hd t).2.1 = wStar
  · rw [if_pos e1]
    obtain ⟨w1, w2, w3, w4⟩ := hw.punc (by rw [e1]; exact wStar_p)
    have he1 := Lib.hid e1
    have h2 : 0 < t.tail.length := by have := w2.ne; cases hh : t.tail with | nil => exact absurd hh this | cons a r => simp
    have H4 := Lib.hid w4
    have H2 := Lib.hid h2
    by_cases e2 : (hd t.tail).1 = 3
    · rw [if_pos e2]
      have he2 := Lib.hid e2
      obtain ⟨_, w5, w6, w7⟩ := w2.next (by omega)
      have H7 := Lib.hid w7
      obtain ⟨s0, hs0⟩ : ∃ s0, Hid ((hd t.tail).2.1 = s0) := ⟨_, rfl⟩
      obtain ⟨n0, hn0⟩ : ∃ n0, Hid ((hd t.tail).2.2.1 = n0) := ⟨_, rfl⟩
      obtain ⟨p, hpp⟩ : ∃ p, Hid ((hd t.tail).2.2.2 = p) := ⟨_, rfl⟩
      rw [hn0.out, hpp.out]
      by_cases e3 : 1 ≤ n0 ∧ n0 ≤ 8
      · rw [if_pos e3]
        have hu : Hid (usb 0 n0 = true) := decide_eq_true (.inr ⟨rfl, e3.1, e3.2⟩)
        clear e1 e2 e3 w1 w2 w3 w4 w5 w6 w7 h0 h2 hw
        go_enter Tryz.func110, Tryz.ntmps110
        go_wp2_with (first
          | (go_at_call 85; refine (skip_yes b t n l wStar _ (HN.out _).1 H4.out he1).mono ?_; rintro e W1 ⟨rfl, hs1, hk1⟩; have HS1 := Lib.hid hs1; have HX1 := Lib.hid (HX.out.kp hk1); have HK1 := Lib.hid ((HN.out _).2.trans hk1); clear hs1 hk1)
          | (go_at_call 58; refine (take_yes b t.tail n l 3 _ HS1.out H7.out he2 hs0 hn0 hpp).mono ?_; rintro e W2 ⟨rfl, hs2, hk2⟩; have HS2 := Lib.hid hs2; have HX2 := Lib.hid (HX1.out.kp hk2); have HK2 := Lib.hid (HK1.out.trans hk2); clear hs2 hk2)
          | (go_at_call 52; refine (claimable_is _ _ _ hu).mono ?_; rintro e W3 ⟨rfl, hb3⟩; have HB3 := Lib.hid (nx (new2 W2 _ _) hb3); have hk3 := ((Blk.new (W2.alloc _) [.int .i64 0, .int .i64 n0] 23 (g := W2.heap.size + 1) (by simp)).up hb3 (by simp)); have y0 := hk3.cell 0 rfl; have y1 := hk3.cell 1 rfl; have hx3 := HX2.out.kp (Kp.up (nx (new2 W2 _ _) hb3) HS2.out.lt); have x0 := hx3.1.cell 0 rfl; have x1 := hx3.1.cell 1 rfl; have xf := hx3.1.fz; have HX3 := Lib.hid hx3; clear hb3 hx3 hk3))
        have hst : St3 b t.tail.tail n l w w.heap.size W3 := ⟨HS2.out.up HB3.out, HK2.out.trans (Kp.up HB3.out HS2.out.lt), hbg.out, Nat.le_refl _, HX3.out.2.2⟩
        exact bodyPost_ret (v := aa 0 n0) (by simp [results, Tryz.results110, go_sem, x0, x1, xf]) rfl ⟨rfl, ((hst.set 0 _).set 1 _).go⟩
      · rw [if_neg e3]
        have hu : Hid (usb 0 n0 = false) := decide_eq_false (by omega)
        clear e1 e2 e3 w1 w2 w3 w4 w5 w6 w7 h0 h2 hw
        go_enter Tryz.func110, Tryz.ntmps110
        go_wp2_with (first
          | (go_at_call 85; refine (skip_yes b t n l wStar _ (HN.out _).1 H4.out he1).mono ?_; rintro e W1 ⟨rfl, hs1, hk1⟩; have HS1 := Lib.hid hs1; have HK1 := Lib.hid ((HN.out _).2.trans hk1); clear hs1 hk1)
          | (go_at_call 58; refine (take_yes b t.tail n l 3 _ HS1.out H7.out he2 hs0 hn0 hpp).mono ?_; rintro e W2 ⟨rfl, hs2, hk2⟩; have HS2 := Lib.hid hs2; have HK2 := Lib.hid (HK1.out.trans hk2); clear hs2 hk2)
          | (go_at_call 52; refine (claimable_is _ _ _ hu).mono ?_; rintro e W3 ⟨rfl, hb3⟩; have HB3 := Lib.hid (nx (new2 W2 _ _) hb3); have hk3 := (((Blk.new W2 [.int .i64 3, .string s0, .int .i64 n0, .int .i64 p] 53 rfl).grow _).up hb3 (by simp; omega)); have y0 := hk3.cell 0 rfl; have y1 := hk3.cell 1 rfl; have y2 := hk3.cell 2 rfl; have y3 := hk3.cell 3 rfl; clear hb3 hk3)
          | (go_at_call 89; refine (fail_is _ _ _ _ _ _).mono ?_; rintro e W4 ⟨rfl, hb4⟩; have HB4 := Lib.hid (nx HB3.out hb4); clear hb4))
        exact ⟨rfl, rfl, (HK2.out.below HP.out).trans (HB4.out.mono (Nat.le_trans (Nat.le_of_lt hbg.out) HK2.out.size))⟩
    · rw [if_neg e2]
      have he2 := Lib.hid e2
      obtain ⟨p, hpp⟩ : ∃ p, Hid ((hd t.tail).2.2.2 = p) := ⟨_, rfl⟩
      rw [hpp.out]
      clear e1 e2 w1 w2 w3 w4 h0 h2 hw
      go_enter Tryz.func110, Tryz.ntmps110
      go_wp2_with (first
        | (go_at_call 85; refine (skip_yes b t n l wStar _ (HN.out _).1 H4.out he1).mono ?_; rintro e W1 ⟨rfl, hs1, hk1⟩; have HS1 := Lib.hid hs1; have HK1 := Lib.hid ((HN.out _).2.trans hk1); clear hs1 hk1)
        | (go_at_call 58; refine (take_no b t.tail n l 3 _ HS1.out H2.out he2 hpp).mono ?_; rintro e W2 ⟨rfl, hb2⟩; have HB2 := Lib.hid ((HK1.out.below HP.out).trans hb2); clear hb2))
      exact ⟨rfl, rfl, HB2.out⟩
  · rw [if_neg e1]
    have he1 := Lib.hid e1
    have H0 := Lib.hid h0
    clear e1
    by_cases e3 : (hd t).2.1 = wCol
    · rw [if_pos e3]
      have he3 := Lib.hid e3
      obtain ⟨w1, w2, w3, w4⟩ := hw.punc (by rw [e3]; exact wCol_p)
      have h2 : 0 < t.tail.length := by have := w2.ne; cases hh : t.tail with | nil => exact absurd hh this | cons a r => simp
      have H4 := Lib.hid w4
      have H2 := Lib.hid h2
      by_cases e2 : (hd t.tail).1 = 2
      · rw [if_pos e2]
        have he2 := Lib.hid e2
        obtain ⟨_, w5, w6, w7⟩ := w2.next (by omega)
        have H7 := Lib.hid w7
        obtain ⟨s0, hs0⟩ : ∃ s0, Hid ((hd t.tail).2.1 = s0) := ⟨_, rfl⟩
        obtain ⟨n0, hn0⟩ : ∃ n0, Hid ((hd t.tail).2.2.1 = n0) := ⟨_, rfl⟩
        obtain ⟨p, hpp⟩ : ∃ p, Hid ((hd t.tail).2.2.2 = p) := ⟨_, rfl⟩
        rw [hn0.out]
        clear e2 e3 w1 w2 w3 w4 w5 w6 w7 h0 h2 hw
        go_enter Tryz.func110, Tryz.ntmps110
        go_wp2_with (first
          | (go_at_call 85; refine (skip_no b t n l wStar _ (HN.out _).1 H0.out he1).mono ?_; rintro e W0 ⟨rfl, rfl⟩)
          | (go_at_call 109; refine (must_yes b t n l wCol _ (HN.out _).1 H4.out he3).mono ?_; rintro e W1 ⟨rfl, hs1, hk1⟩; have HS1 := Lib.hid hs1; have HX1 := Lib.hid (HX.out.kp hk1); have HK1 := Lib.hid ((HN.out _).2.trans hk1); clear hs1 hk1)
          | (go_at_call 58; refine (take_yes b t.tail n l 2 _ HS1.out H7.out he2 hs0 hn0 hpp).mono ?_; rintro e W2 ⟨rfl, hs2, hk2⟩; have HS2 := Lib.hid hs2; have hx2 := (HX1.out.kp hk2); have x0 := hx2.1.cell 0 rfl; have x1 := hx2.1.cell 1 rfl; have xf := hx2.1.fz; have HX2 := Lib.hid hx2; have HK2 := Lib.hid (HK1.out.trans hk2); clear hs2 hk2 hx2))
        have hst : St3 b t.tail.tail n l w w.heap.size W2 := ⟨HS2.out, HK2.out, hbg.out, Nat.le_refl _, HX2.out.2.2⟩
        exact bodyPost_ret (v := aa n0 0) (by simp [results, Tryz.results110, go_sem, x0, x1, xf]) rfl ⟨rfl, ((hst.set 0 _).set 1 _).go⟩
      · rw [if_neg e2]
        have he2 := Lib.hid e2
        obtain ⟨p, hpp⟩ : ∃ p, Hid ((hd t.tail).2.2.2 = p) := ⟨_, rfl⟩
        rw [hpp.out]
        clear e2 e3 w1 w2 w3 w4 h0 h2 hw
        go_enter Tryz.func110, Tryz.ntmps110
        go_wp2_with (first
          | (go_at_call 85; refine (skip_no b t n l wStar _ (HN.out _).1 H0.out he1).mono ?_; rintro e W0 ⟨rfl, rfl⟩)
          | (go_at_call 109; refine (must_yes b t n l wCol _ (HN.out _).1 H4.out he3).mono ?_; rintro e W1 ⟨rfl, hs1, hk1⟩; have HS1 := Lib.hid hs1; have HK1 := Lib.hid ((HN.out _).2.trans hk1); clear hs1 hk1)
          | (go_at_call 58; refine (take_no b t.tail n l 2 _ HS1.out H2.out he2 hpp).mono ?_; rintro e W2 ⟨rfl, hb2⟩; have HB2 := Lib.hid ((HK1.out.below HP.out).trans hb2); clear hb2))
        exact ⟨rfl, rfl, HB2.out⟩
    · rw [if_neg e3]
      have he3 := Lib.hid e3
      obtain ⟨p, hpp⟩ : ∃ p, Hid ((hd t).2.2.2 = p) := ⟨_, rfl⟩
      rw [hpp.out]
      clear e3 h0 hw
      go_enter Tryz.func110, Tryz.ntmps110
      go_wp2_with (first
        | (go_at_call 85; refine (skip_no b t n l wStar _ (HN.out _).1 H0.out he1).mono ?_; rintro e W0 ⟨rfl, rfl⟩)
        | (go_at_call 109; refine (must_no b t n l wCol _ (HN.out _).1 H0.out he3 hpp).mono ?_; rintro e W1 ⟨rfl, hb1⟩; have HB1 := Lib.hid (((newB w _).mono (Nat.le_of_lt hbg.out)).trans hb1); clear hb1))
      exact ⟨rfl, rfl, HB1.out⟩
end Go.Proofs.YtlokcmbkkfjlkaaGreatDoor
