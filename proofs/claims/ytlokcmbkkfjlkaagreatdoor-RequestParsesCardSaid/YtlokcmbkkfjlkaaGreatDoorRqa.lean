/- Contract of the reference's reader: atom. -/
import Derived.Test.YtlokcmbkkfjlkaaGreatDoorRqm
import Derived.Deep.RegionWith
import Derived.Deep.CutRange
import Derived.Deep.CutBlock
namespace Go.Proofs.YtlokcmbkkfjlkaaGreatDoor.Rdr
open Go.RowKit
set_option linter.unusedVariables false
set_option linter.unusedSimpArgs false

theorem RsV.box {w : World} {b j : Nat} {t : List T4} {n : Nat} {l : List A3} {V : Value} {tb tq c : Nat} (h : RsV w b j t n l V tb tq c) {g : Nat} (hg : b < g) (hr : rowOf w b ≠ some g) (o : Nat) (v : Value) : RsV (w.setCell ⟨g, o, none⟩ v) b j t n l V tb tq c := by
  have e : (w.setCell ⟨g, o, none⟩ v).heap[b]? = w.heap[b]? := block_set _ _ _ (by omega)
  have hr' := hr
  rw [rowOf_eq h.c3] at hr'
  exact ⟨by simpa using h.lt, (cell_of_block e _).trans h.c0, (cell_of_block e _).trans h.c1, (cell_of_block e _).trans h.c2, (cell_of_block e _).trans h.c3, (cell_of_block e _).trans h.c4, (cell_of_block e _).trans h.c5, fun o => (frozen_of_block e o).trans (h.fz o), h.fit, h.small, h.nn, h.tlt,
    fun i hi => (h.tok i hi).of_block (block_set _ _ _ (by have := h.tlt; omega)), own_kept h.own (fun q hq => block_set _ _ _ (fun e => hr' (by rw [hq, e]))), h.l8⟩
theorem Ps.box {w : World} {b : Nat} {t : List T4} {n : Nat} {l : List A3} (h : Ps w b t n l) {g : Nat} (hg : b < g) (hr : rowOf w b ≠ some g) (o : Nat) (v : Value) : Ps (w.setCell ⟨g, o, none⟩ v) b t n l := by
  obtain ⟨j, V, tb, tq, c, h⟩ := h
  exact ⟨j, V, tb, tq, c, h.box hg hr o v⟩
theorem rowOf_box {w : World} {b g : Nat} (hg : g ≠ b) (o : Nat) (v : Value) : rowOf (w.setCell ⟨g, o, none⟩ v) b = rowOf w b := by
  unfold rowOf
  rw [cell_of_block (block_set w (a := g) (b := b) o v (Ne.symm hg)) 3]
theorem Kp.box {b g : Nat} {a w : World} (h : Kp b a w) (hg : a.heap.size ≤ g) (hgb : g ≠ b) (o : Nat) (v : Value) : Kp b a (w.setCell ⟨g, o, none⟩ v) :=
  ⟨h.os, h.tape, h.output, by simpa [World.setCell] using h.size, fun k h1 h2 h3 => (block_set _ _ _ (by omega)).trans (h.block k h1 h2 h3), fun k hk => h.row k (by rw [← rowOf_box hgb o v]; exact hk)⟩
/-- The state, what is kept since a, and a box g that is the call's own. -/
def St3 (b : Nat) (t : List T4) (n : Nat) (l : List A3) (a : World) (g : Nat) (w : World) : Prop := Ps w b t n l ∧ Kp b a w ∧ b < g ∧ a.heap.size ≤ g ∧ rowOf w b ≠ some g
theorem St3.set {b : Nat} {t : List T4} {n : Nat} {l : List A3} {a : World} {g : Nat} {w : World} (h : St3 b t n l a g w) (o : Nat) (v : Value) : St3 b t n l a g (w.setCell ⟨g, o, none⟩ v) := by
  obtain ⟨h1, h2, h3, h4, h5⟩ := h
  exact ⟨h1.box h3 h5 o v, h2.box h4 (by omega) o v, h3, h4, by rw [rowOf_box (by omega)]; exact h5⟩
theorem St3.go {b : Nat} {t : List T4} {n : Nat} {l : List A3} {a : World} {g : Nat} {w : World} (h : St3 b t n l a g w) : Go1 b t n l a w := ⟨h.1, h.2.1⟩
theorem Bx.own {w : World} {b g : Nat} {cs : List Value} (h : Bx w b g cs) (o : Nat) (v : Value) : Bx (w.setCell ⟨g, o, none⟩ v) b g (cs.set o v) := ⟨h.1.set o v, h.2.1, by rw [rowOf_box h.2.1]; exact h.2.2⟩
theorem Bx.other {w : World} {b g q : Nat} {cs : List Value} (h : Bx w b g cs) (hq : g ≠ q) (hb : q ≠ b) (o : Nat) (v : Value) : Bx (w.setCell ⟨q, o, none⟩ v) b g cs := ⟨h.1.of (block_set _ _ _ hq), h.2.1, by rw [rowOf_box hb]; exact h.2.2⟩
/-- An error, and a box of the call's own. -/
def Er3 (b : Nat) (p e : Int) (a : World) (g : Nat) (w : World) : Prop := RE w b p e ∧ Kp b a w ∧ g ≠ b ∧ a.heap.size ≤ g
theorem Er3.set {b : Nat} {p e : Int} {a : World} {g : Nat} {w : World} (h : Er3 b p e a g w) (o : Nat) (v : Value) : Er3 b p e a g (w.setCell ⟨g, o, none⟩ v) := by
  obtain ⟨h1, h2, h3, h4⟩ := h
  exact ⟨h1.of (block_set _ _ _ (Ne.symm h3)) (by simp [World.setCell]), h2.box h4 h3 o v, h3, h4⟩
theorem Er3.er {b : Nat} {p e : Int} {a : World} {g : Nat} {w : World} (h : Er3 b p e a g w) : Er b p e a w := ⟨h.1, h.2.1⟩
/-- What a method that makes an expression leaves. -/
def ExQ (b : Nat) (r : PR Ex) (w : World) (e : Ending) (w' : World) : Prop :=
  match r with
  | .ok x t' n' l' => (∃ k s m u A n c, e = .returned (xe k s m u A n c) ∧ TIn (Nw w.heap.size b w') w' ⟨k, s, m, u, A, n, c⟩ x) ∧ Go1 b t' n' l' w w'
  | .no p x => (∃ k s m u A n c, e = .returned (xe k s m u A n c)) ∧ Er b p x w w'
abbrev z5 : List Value := [.int .i64 0, .string ⟨#[]⟩, .int .i64 0, .int .i64 0, .slice none 0 0]
abbrev tk4 (r : T4) : List Value := [.int .i64 r.1, .string r.2.1, .int .i64 r.2.2.1, .int .i64 r.2.2.2]
/-- The three boxes of atom: the name, the result, the atom. -/
def At3 (b : Nat) (t : List T4) (n : Nat) (l : List A3) (a : World) (h : T4) (q : A3) (wx : World) : Prop :=
  (b < a.heap.size ∧ a.heap.size + 3 ≤ wx.heap.size) ∧ Go1 b t n l a wx ∧ Bx wx b a.heap.size (tk4 h) ∧ Bx wx b (a.heap.size + 1) z5 ∧ Bx wx b (a.heap.size + 2) [.string q.1, .int .i64 q.2.1, .int .i64 q.2.2]
theorem At3.new {b : Nat} {t : List T4} {n : Nat} {l : List A3} {w : World} (h : T4) (q : A3) (T1 T2 T3 : TypeId) (hp : Ps w b t n l) : At3 b t n l w h q (((w.alloc (.cells (tk4 h).toArray T1)).alloc (.cells z5.toArray T2)).alloc (.cells #[.string q.1, .int .i64 q.2.1, .int .i64 q.2.2] T3)) := by
  have p1 := hp.up (newB w (.cells (tk4 h).toArray T1))
  have p2 := p1.up (newB _ (.cells z5.toArray T2))
  have p3 := p2.up (newB _ (.cells #[.string q.1, .int .i64 q.2.1, .int .i64 q.2.2] T3))
  have b1 := Bx.new hp (tk4 h) T1
  have b2 := Bx.new p1 z5 T2
  have b3 := Bx.new p2 [.string q.1, .int .i64 q.2.1, .int .i64 q.2.2] T3
  have k2 := Kp.up (newB (w.alloc (.cells (tk4 h).toArray T1)) (.cells z5.toArray T2)) p1.lt
  have k3 := Kp.up (newB ((w.alloc (.cells (tk4 h).toArray T1)).alloc (.cells z5.toArray T2)) (.cells #[.string q.1, .int .i64 q.2.1, .int .i64 q.2.2] T3)) p2.lt
  refine ⟨⟨hp.lt, by simp⟩, ⟨p3, ((Kp.up (newB w _) hp.lt).trans k2).trans k3⟩, (b1.kp k2).kp k3, ?_, ?_⟩
  · have := b2.kp k3
    rwa [show (w.alloc (.cells (tk4 h).toArray T1)).heap.size = w.heap.size + 1 by simp] at this
  · rwa [show ((w.alloc (.cells (tk4 h).toArray T1)).alloc (.cells z5.toArray T2)).heap.size = w.heap.size + 2 by simp] at b3
theorem At3.up {b : Nat} {t : List T4} {n : Nat} {l : List A3} {a : World} {h : T4} {q : A3} {w w' : World} (k : At3 b t n l a h q w) {t' : List T4} {n' : Nat} {l' : List A3} (hp : Ps w' b t' n' l') (hk : Kp b w w') : At3 b t' n' l' a h q w' :=
  ⟨⟨k.1.1, Nat.le_trans k.1.2 hk.size⟩, ⟨hp, k.2.1.2.trans hk⟩, k.2.2.1.kp hk, k.2.2.2.1.kp hk, k.2.2.2.2.kp hk⟩
theorem At3.low {b : Nat} {t : List T4} {n : Nat} {l : List A3} {a : World} {h : T4} {q : A3} {w w' : World} (k : At3 b t n l a h q w) (hb : Below w.heap.size w w') : At3 b t n l a h q w' := k.up (k.2.1.1.up hb) (Kp.up hb k.2.1.1.lt)
theorem At3.low4 {b : Nat} {t : List T4} {n : Nat} {l : List A3} {a : World} {h : T4} {q : A3} {w w' : World} (k : At3 b t n l a h q w) (hb : Below w.heap.size w w') {g : Nat} {cs : List Value} (hx : Bx w b g cs) : Bx w' b g cs := hx.kp (Kp.up hb k.2.1.1.lt)
theorem At3.fail {b : Nat} {t : List T4} {n : Nat} {l : List A3} {a : World} {h : T4} {q : A3} {w w' : World} (k : At3 b t n l a h q w) {p e : Int} (he : Er b p e w w') : Er3 b p e a (a.heap.size + 1) w' ∧ Blk w' (a.heap.size + 1) z5 :=
  ⟨⟨he.1, k.2.1.2.trans he.2, k.2.2.2.1.2.1, by omega⟩, (k.2.2.2.1.kp he.2).1⟩
theorem At3.put1 {b : Nat} {t : List T4} {n : Nat} {l : List A3} {a : World} {h : T4} {s : ByteArray} {w : World} (k : At3 b t n l a h (s, 0, 0) w) (v : Int) : At3 b t n l a h (s, v, 0) (w.setCell ⟨a.heap.size + 2, 1, none⟩ (.int .i64 v)) := by
  obtain ⟨⟨hb0, h1⟩, ⟨h2, h3⟩, h4, h5, h6⟩ := k
  have hb : b < a.heap.size + 2 := by omega
  exact ⟨⟨hb0, by simpa [World.setCell] using h1⟩, ⟨h2.box hb h6.2.2 1 _, h3.box (by omega) h6.2.1 1 _⟩, h4.other (by omega) h6.2.1 1 _, h5.other (by omega) h6.2.1 1 _, h6.own 1 _⟩
theorem At3.put2 {b : Nat} {t : List T4} {n : Nat} {l : List A3} {a : World} {h : T4} {s : ByteArray} {w : World} (k : At3 b t n l a h (s, 0, 0) w) (v : Int) : At3 b t n l a h (s, 0, v) (w.setCell ⟨a.heap.size + 2, 2, none⟩ (.int .i64 v)) := by
  obtain ⟨⟨hb0, h1⟩, ⟨h2, h3⟩, h4, h5, h6⟩ := k
  have hb : b < a.heap.size + 2 := by omega
  exact ⟨⟨hb0, by simpa [World.setCell] using h1⟩, ⟨h2.box hb h6.2.2 2 _, h3.box (by omega) h6.2.1 2 _⟩, h4.other (by omega) h6.2.1 2 _, h5.other (by omega) h6.2.1 2 _, h6.own 2 _⟩
theorem str_yes {s : ByteArray} {x : List UInt8} (h : s = ⟨x.toArray⟩) : (s.toList == x) = true := by subst h; simp
theorem str_no {s : ByteArray} {x : List UInt8} (h : s ≠ ⟨x.toArray⟩) : (s.toList == x) = false := by
  have h := eqS_no.2 h
  unfold eqS at h
  simpa only [ByteArray.toList_mk] using h
theorem RsV.inc {w w' : World} {b j : Nat} {t : List T4} {n : Nat} {l l' : List A3} {V V' : Value} {tb tq c : Nat} (h : RsV w b j t n l V tb tq c) (hg : w.grownBy w' V.ownBlock) (ho : OwnQ w' (b + 1) V' l') (hn : ∀ g, V'.ownBlock = some g → V.ownBlock = some g ∨ w.heap.size ≤ g) (h8 : l'.length ≤ 8) :
    RsV (w'.setCell ⟨b, 3, none⟩ V') b j t n l' V' tb tq c ∧ Kp b w (w'.setCell ⟨b, 3, none⟩ V') := by
  have hne : ∀ g, V.ownBlock = some g → b < g := fun g hg => (own_lt h.own hg).1
  have eb : w'.heap[b]? = w.heap[b]? := hg.block b h.lt (fun e => by have := hne b e.symm; omega)
  have et : w'.heap[tb]? = w.heap[tb]? := hg.block tb (Nat.lt_trans h.tlt h.lt) (fun e => by have := hne tb e.symm; have := h.tlt; omega)
  have c0 := (cell_of_block eb 0).trans h.c0
  have c1 := (cell_of_block eb 1).trans h.c1
  have c2 := (cell_of_block eb 2).trans h.c2
  have c3 := (cell_of_block eb 3).trans h.c3
  have c4 := (cell_of_block eb 4).trans h.c4
  have c5 := (cell_of_block eb 5).trans h.c5
  have fz := fun o => (frozen_of_block eb o).trans (h.fz o)
  have e2 : rowOf (w'.setCell ⟨b, 3, none⟩ V') b = V'.ownBlock := rowOf_eq (World.cell?_setCell_same _ _ _ c3)
  refine ⟨⟨by have := Nat.lt_of_lt_of_le h.lt hg.size; simpa using this, ?_, ?_, ?_, ?_, ?_, ?_, fun o => ?_, h.fit, h.small, h.nn, h.tlt, fun i hi => (h.tok i hi).of_block ((block_set _ _ _ (by have := h.tlt; omega)).trans et), own_kept ho (fun g hq => block_set _ _ _ (by have := (own_lt ho hq).1; omega)), h8⟩,
    ⟨hg.os, hg.tape, hg.output, by simpa [World.setCell] using hg.size, fun k h1 h2 h3 => (block_set _ _ _ h2).trans (hg.block k h1 (fun e => h3 (by rw [rowOf_eq h.c3]; exact e.symm))), fun k hk => ?_⟩⟩
  · simp [go_sem, c0, c1, c2, c3, c4, c5, fz]
  · simp [go_sem, c0, c1, c2, c3, c4, c5, fz]
  · simp [go_sem, c0, c1, c2, c3, c4, c5, fz]
  · simp [go_sem, c0, c1, c2, c3, c4, c5, fz]
  · simp [go_sem, c0, c1, c2, c3, c4, c5, fz]
  · simp [go_sem, c0, c1, c2, c3, c4, c5, fz]
  · simp [go_sem, c0, c1, c2, c3, c4, c5, fz]
  · rw [e2] at hk
    rw [rowOf_eq h.c3]
    exact hn k hk
theorem step_app_atom {w : World} {ops : Array Oper} {o : Oper} {a : Act} {K : Act → World → Prop} {Q : Exit → Act → World → Prop} {E : Prop} (hgd : o.guard = none) (s y : Operand)
    (ho : o.op = .call { callee := .builtin .append, args := #[s, y], argTypes := #[59, 59] })
    (base : Nat) (V : Value) (xs : List A3) (A : Option Addr) (ys : List A3) (n c : Nat) (hn : Hid (ys.length = n)) (hv : a.eval s = V) (hx : a.eval y = .slice A n c)
    (hd : OwnQ w base V xs) (hs : QRd w A ys) (hlen : Hid (xs.length + n ≤ 1000000)) (hbase : base ≤ w.heap.size)
    (h : ∀ V' w', OwnQ w' base V' (xs ++ ys) → w.grownBy w' V.ownBlock → (V'.ownBlock = V.ownBlock ∨ V'.ownBlock = some w.heap.size) → K (a.put o.dst V') w') :
    if Region.wanted o (yielded ops a.tmps) = true then Oper.wp Tryz.prog o a w K Q else E := by
  have hw : Region.wanted o (yielded ops a.tmps) = true := by simp [Region.wanted, hgd]
  rw [if_pos hw]
  have hn' := hn.out
  subst hn'
  obtain ⟨i0, hi, hz0, hz1, hz2⟩ := info_parts atom_info
  have hl := hlen.out
  obtain ⟨v', w', hr, h2, h3, h4, h5⟩ := run_app (P := Tryz.prog) w base 59 59 o.type 25 i0 _ 3 32 Tryz.underlying59 hi hz0 hz1 hz2 rfl V xs.length (avs xs) _ ys.length (avs ys) (.inl hd)
    (Src.atoms Tryz.underlying59 c hs) (by simp only [maxLen]; omega) (fits_half (by omega)) hbase
  unfold Oper.wp execOp
  simp only [ho, resolve, invoke, builtin, Sem.run_bind, Sem.run_pure, Result.andThen_ok, List.map_toArray, List.map_cons, List.map_nil, hv, hx, hr]
  refine h v' w' ?_ (h4 hd) h5
  unfold OwnQ
  rw [List.length_append, avs_append]
  exact h2
/-- A fourth box at g. -/
def At4 (b : Nat) (t : List T4) (n : Nat) (l : List A3) (a : World) (h : T4) (q : A3) (m : T4) (x : Value) (wx : World) : Prop :=
  ∃ g, x = .pointer (some ⟨g, 0, none⟩) ∧ a.heap.size + 3 ≤ g ∧ At3 b t n l a h q wx ∧ Bx wx b g (tk4 m)
theorem At4.new {b : Nat} {t : List T4} {n : Nat} {l : List A3} {a : World} {h : T4} {q : A3} {w : World} (k : At3 b t n l a h q w) (m : T4) (T : TypeId) : At4 b t n l a h q m (.pointer (some ⟨w.heap.size, 0, none⟩)) ((w.alloc (.cells (tk4 m).toArray T)).drew) := by
  have hb := bdD (newB w (.cells (tk4 m).toArray T))
  exact ⟨_, rfl, k.1.2, k.up (k.2.1.1.up hb) (Kp.up hb k.2.1.1.lt), Bx.new k.2.1.1 (tk4 m) T⟩
set_option maxHeartbeats 8000000 in
set_option maxRecDepth 100000 in
theorem atom_is (b : Nat) (t : List T4) (n : Nat) (l : List A3) (hk : Int) (hs : ByteArray) (hn hp : Int) (w : World) (hps : Ps w b t n l) (hw : WT t) :
    Calls Tryz.prog 60 #[.pointer (some ⟨b, 0, none⟩), tk hk hs hn hp] w (ExQ b (pA ((hk, hs, hn, hp) :: t) n l) w) := by
  have h0 : 0 < t.length := by have := hw.ne; cases t with | nil => exact absurd rfl this | cons a r => simp
  have H0 := Lib.hid h0
  obtain ⟨R, hR⟩ : ∃ R, Hid (pA ((hk, hs, hn, hp) :: t) n l = R) := ⟨_, rfl⟩
  rw [hR.out]
  have HW := Lib.hid hw
  have HA0 : Hid (At3 b t n l w (hk, hs, hn, hp) (hs, 0, 0) (((w.alloc (.cells #[.int .i64 hk, .string hs, .int .i64 hn, .int .i64 hp] 53)).alloc (.cells #[.int .i64 0, .string ⟨#[]⟩, .int .i64 0, .int .i64 0, .slice none 0 0] 28)).alloc (.cells #[.string hs, .int .i64 0, .int .i64 0] 25))) := At3.new (hk, hs, hn, hp) (hs, 0, 0) _ _ _ hps
  clear hw h0 hps
  go_enter Tryz.func60, Tryz.ntmps60
  go_upto_region 2 with fail
  generalize (((w.alloc (.cells #[.int .i64 hk, .string hs, .int .i64 hn, .int .i64 hp] 53)).alloc (.cells #[.int .i64 0, .string ⟨#[]⟩, .int .i64 0, .int .i64 0, .slice none 0 0] 28)).alloc (.cells #[.string hs, .int .i64 0, .int .i64 0] 25)) = W0 at HA0 ⊢
  obtain ⟨k0, hk0⟩ : ∃ k0, Hid ((hd t).1 = k0) := ⟨_, rfl⟩
  obtain ⟨s0, hs0⟩ : ∃ s0, Hid ((hd t).2.1 = s0) := ⟨_, rfl⟩
  obtain ⟨n0, hn0⟩ : ∃ n0, Hid ((hd t).2.2.1 = n0) := ⟨_, rfl⟩
  obtain ⟨p0, hp0⟩ : ∃ p0, Hid ((hd t).2.2.2 = p0) := ⟨_, rfl⟩
  go_cut [6] from 22 (fun x wx => At4 b t n l w (hk, hs, hn, hp) (hs, 0, 0) (k0, s0, n0, p0) x wx)
  case first =>
    obtain ⟨j, V, tb, tq, c, tl, hpv, htl, g0, hfit, hsm, hlt, c0, c1, c2, c3, c4, c5, fz, htb, z0, z1, z2, z3⟩ := HA0.out.2.1.1.open_ H0.out
    rw [hk0.out] at z0
    rw [hs0.out] at z1
    rw [hn0.out] at z2
    rw [hp0.out] at z3
    clear hpv htl c2 c3 c4 c5 fz
    go_region
    all_goals (
      go_wp2_with fail
      go_meet
      exact At4.new HA0.out (k0, s0, n0, p0) _)
  case rest =>
    obtain ⟨g6, rfl, hg6, hA, hX6⟩ := hcut
    have HA := Lib.hid hA
    have HX6 := Lib.hid hX6
    have x1 := hX6.1.cell 1 rfl
    have x3 := hX6.1.cell 3 rfl
    have hg6l := hX6.1.lt
    have h8 : Hid ((8 : Int) ≠ 0) := by show _ ≠ _; decide
    have h12 : Hid ((12 : Int) ≠ 0) := by show _ ≠ _; decide
    have h13 : Hid ((13 : Int) ≠ 0) := by show _ ≠ _; decide
    have h4n : Hid ((4 : Int) ≠ 0) := by show _ ≠ _; decide
    clear hA hX6 HA0
    obtain ⟨B, hB⟩ : ∃ B, Hid ((!eqS s0 wCol && !eqS s0 wStar) = B) := ⟨_, rfl⟩
    go_upto_region 3 with fail
    go_cut [29] from 22 (fun y wx => y = .bool B ∧ At3 b t n l w (hk, hs, hn, hp) (hs, 0, 0) wx ∧ Bx wx b g6 (tk4 (k0, s0, n0, p0)))
    case first =>
      have MK := Lib.hid trivial
      by_cases e1 : s0 = wCol
      · have hr1 : Hid (tkIs (hd t) 4 wCol = true) := Lib.hid (by
          have e2 : (hd t).2.1 = wCol := hs0.out.trans e1
          exact tkIs_yes (HW.out.punc (by rw [e2]; exact wCol_p)).1 e2)
        have hb : Hid (B = false) := by show _ = _; rw [← hB.out, eqS_iff.2 e1]; rfl
        clear e1 hB
        go_wp2_with (go_at_call 62; refine (is_is b t n l 4 wCol _ HA.out.2.1.1 H0.out hr1).mono ?_; rintro e W1 ⟨rfl, hb1⟩; have HA1 := Lib.hid (HA.out.low hb1); have HX1 := Lib.hid (HA.out.low4 hb1 HX6.out); clear hb1)
        go_meet
        exact ⟨by rw [hb.out], HA1.out, HX1.out⟩
      · have hr1 : Hid (tkIs (hd t) 4 wCol = false) := Lib.hid (tkIs_no (by rw [hs0.out]; exact e1))
        obtain ⟨v2, hr2⟩ : ∃ v2, Hid (tkIs (hd t) 4 wStar = v2) := ⟨_, rfl⟩
        have hb : Hid (B = !v2) := by
          show _ = _
          rw [← hB.out, eqS_no.2 e1, ← hr2.out]
          by_cases e2 : s0 = wStar
          · have e3 : (hd t).2.1 = wStar := hs0.out.trans e2
            rw [tkIs_yes (HW.out.punc (by rw [e3]; exact wStar_p)).1 e3, eqS_iff.2 e2]
            rfl
          · rw [tkIs_no (by rw [hs0.out]; exact e2), eqS_no.2 e2]
            rfl
        clear e1 hB
        go_wp2_with (first
          | (go_at_call 62; clear MK; refine (is_is b t n l 4 wCol _ HA.out.2.1.1 H0.out hr1).mono ?_; rintro e W1 ⟨rfl, hb1⟩; have HA1 := Lib.hid (HA.out.low hb1); have HX1 := Lib.hid (HA.out.low4 hb1 HX6.out); clear hb1)
          | (go_at_call 62; refine (is_is b t n l 4 wStar _ HA1.out.2.1.1 H0.out hr2).mono ?_; rintro e W2 ⟨rfl, hb2⟩; have HA2 := Lib.hid (HA1.out.low hb2); have HX2 := Lib.hid (HA1.out.low4 hb2 HX1.out); clear hb2))
        go_meet
        exact ⟨by rw [hb.out], HA2.out, HX2.out⟩
    case rest =>
      obtain ⟨rfl, hA1, hX1⟩ := hcut
      have HA1 := Lib.hid hA1
      have HX1 := Lib.hid hX1
      clear x1 x3 hg6l HA HX6
      have x1 := hX1.1.cell 1 rfl
      have x3 := hX1.1.cell 3 rfl
      have hg6l := hX1.1.lt
      clear hA1 hX1
      cases B with
      | true =>
        have hend : Hid (R = .no p0 8) := by
          have e := hB.out
          rw [Bool.and_eq_true, Bool.not_eq_true', Bool.not_eq_true'] at e
          show _ = _
          rw [← hR.out]
          unfold pA
          rw [show ((hk, hs, hn, hp) :: t : List T4).tail = t from rfl, hs0.out, if_neg (eqS_no.1 e.2), if_neg (eqS_no.1 e.1), hp0.out]
        clear hR hB
        go_wp2_with (first
          | (go_at_call 38; refine (fail_is b p0 8 _ (HA1).out.2.1.1.rf h8).mono ?_; rintro e W9 ⟨rfl, he9⟩; have hf9 := (HA1).out.fail he9; have r0 := hf9.2.cell 0 rfl; have r1 := hf9.2.cell 1 rfl; have r2 := hf9.2.cell 2 rfl; have r3 := hf9.2.cell 3 rfl; have r4 := hf9.2.cell 4 rfl; have rf := hf9.2.fz; have r5 := hf9.2.lt; have HE9 := Lib.hid hf9.1; clear he9 hf9))
        have e := hend.out
        subst e
        exact bodyPost_ret (v := xe 0 ⟨#[]⟩ 0 0 none 0 0) (by simp [results, Tryz.results60, go_sem, r0, r1, r2, r3, r4, rf]) rfl ⟨⟨_, _, _, _, _, _, _, rfl⟩, (((((HE9.out.set 0 _).set 1 _).set 2 _).set 3 _).set 4 _).er⟩
      | false =>
        have hcs : Hid (s0 = wCol ∨ s0 = wStar) := by
          have e := hB.out
          rw [Bool.and_eq_false_iff, Bool.not_eq_false', Bool.not_eq_false'] at e
          exact e.imp eqS_iff.1 eqS_iff.1
        clear hB
        obtain ⟨_, hw1, _, h1l⟩ : (hd t).1 = 4 ∧ WT t.tail ∧ t.tail.length < t.length ∧ 1 < t.length := HW.out.punc (by rw [hs0.out]; rcases hcs.out with e | e <;> rw [e] <;> decide)
        have HW1 := Lib.hid hw1
        have h1 : 0 < t.tail.length := by simp; omega
        have H1 := Lib.hid h1
        have HPA : Hid (pA ((hk, hs, hn, hp) :: t) n l = if s0 = wStar then (if (hd t.tail).1 = 3 then (if 1 ≤ (hd t.tail).2.2.1 ∧ (hd t.tail).2.2.1 ≤ 8 then atEnd (hk, hs, hn, hp) (hs, 0, (hd t.tail).2.2.1) t.tail.tail n l else .no (hd t.tail).2.2.2 12) else .no (hd t.tail).2.2.2 8) else if s0 = wCol then (if (hd t.tail).1 = 2 then atEnd (hk, hs, hn, hp) (hs, (hd t.tail).2.2.1, 0) t.tail.tail n l else .no (hd t.tail).2.2.2 8) else .no p0 8) := by
          show _ = _
          rw [← hs0.out, ← hp0.out]
          rfl
        obtain ⟨k1, hk1⟩ : ∃ k1, Hid ((hd t.tail).1 = k1) := ⟨_, rfl⟩
        obtain ⟨s1, hs1⟩ : ∃ s1, Hid ((hd t.tail).2.1 = s1) := ⟨_, rfl⟩
        obtain ⟨n1, hn1⟩ : ∃ n1, Hid ((hd t.tail).2.2.1 = n1) := ⟨_, rfl⟩
        obtain ⟨p1, hp1⟩ : ∃ p1, Hid ((hd t.tail).2.2.2 = p1) := ⟨_, rfl⟩
        rw [hR.out, hk1.out, hn1.out, hp1.out] at HPA
        clear hw1 h1 h1l hR
        obtain ⟨j, V, tb, tq, c, tl, hpv, htl, g0, hfit, hsm, hlt, c0, c1, c2, c3, c4, c5, fz, htb, z0, z1, z2, z3⟩ := HA1.out.2.1.1.open_ H0.out
        have HPV := Lib.hid hpv
        have e5 : IntKind.i64.wrap ((j : Int) + 1) = (j : Int) + 1 := by rw [IntKind.wrap_i64]; omega
        clear hpv htl c2 c3 c4 c5 z0 z1 z2 z3
        go_upto_region 7 with fail
        have HA2 : Hid (At3 b t.tail n l w (hk, hs, hn, hp) (hs, 0, 0) (wc.setCell ⟨b, 1, none⟩ (.int .i64 ((j : Int) + 1)))) := HA1.out.up (HPV.out.adv H0.out rfl).ps (Kp.set 1 (by decide) _)
        have HX2 : Hid (Bx (wc.setCell ⟨b, 1, none⟩ (.int .i64 ((j : Int) + 1))) b g6 (tk4 (k0, s0, n0, p0))) := HX1.out.kp (Kp.set 1 (by decide) _)
        generalize wc.setCell ⟨b, 1, none⟩ (.int .i64 ((j : Int) + 1)) = W3 at HA2 HX2 ⊢
        clear x1 x3 hg6l HA1 HX1 HPV c0 c1 fz g0 hfit hsm hlt htb e5
        go_cut [7] from 42 (fun y wx => ∃ g7, y = .pointer (some ⟨g7, 0, none⟩) ∧ w.heap.size + 3 ≤ g7 ∧ At3 b t.tail n l w (hk, hs, hn, hp) (hs, 0, 0) wx ∧ Bx wx b g6 (tk4 (k0, s0, n0, p0)) ∧ Bx wx b g7 (tk4 (k1, s1, n1, p1)))
        case first =>
          obtain ⟨j, V, tb, tq, c, tl, hpv, htl, g0, hfit, hsm, hlt, c0, c1, c2, c3, c4, c5, fz, htb, z0, z1, z2, z3⟩ := HA2.out.2.1.1.open_ H1.out
          rw [hk1.out] at z0
          rw [hs1.out] at z1
          rw [hn1.out] at z2
          rw [hp1.out] at z3
          clear hpv htl c2 c3 c4 c5 fz
          go_region
          all_goals (
            go_wp2_with fail
            go_meet
            have hb := bdD (newB W3 (.cells (tk4 (k1, s1, n1, p1)).toArray 53))
            exact ⟨_, rfl, HA2.out.1.2, HA2.out.low hb, HA2.out.low4 hb HX2.out, Bx.new HA2.out.2.1.1 (tk4 (k1, s1, n1, p1)) _⟩)
        case rest =>
          obtain ⟨g7, rfl, hg7, hA3, hX3, hY3⟩ := hcut
          have HA3 := Lib.hid hA3
          have HX3 := Lib.hid hX3
          have HY3 := Lib.hid hY3
          have x1 := hX3.1.cell 1 rfl
          have hg6l := hX3.1.lt
          have y0 := hY3.1.cell 0 rfl
          have y3 := hY3.1.cell 3 rfl
          have hg7l := hY3.1.lt
          clear hA3 hX3 hY3 HA2 HX2
          obtain ⟨B2, hB2⟩ : ∃ B2, Hid (((eqS s0 wCol && !decide (k1 = 2)) || (eqS s0 wStar && !decide (k1 = 3))) = B2) := ⟨_, rfl⟩
          go_upto_region 8 with fail
          go_cut [69] from 52 (fun y wx => y = .bool B2 ∧ At3 b t.tail n l w (hk, hs, hn, hp) (hs, 0, 0) wx ∧ Bx wx b g6 (tk4 (k0, s0, n0, p0)) ∧ Bx wx b g7 (tk4 (k1, s1, n1, p1)))
          case first =>
            have hne : wCol ≠ wStar := by decide
            rcases hcs.out with e | e
            · have f1 : (s0.toList == [58]) = true := str_yes e
              have f2 : (s0.toList == [42]) = false := str_no (by rw [e]; decide)
              have hb : Hid (B2 = !decide (k1 = 2)) := by show _ = _; rw [← hB2.out, eqS_iff.2 e, eqS_no.2 (show s0 ≠ wStar by rw [e]; exact hne)]; simp
              clear hB2 e hcs hne
              by_cases e2 : k1 = 2
              · have b1 : (k1 != 2) = false := by rw [bne_eq_false_iff_eq]; exact e2
                have hb2 : Hid (B2 = false) := by show _ = _; rw [hb.out, decide_eq_true e2]; rfl
                clear hb e2
                go_wp2_with fail
                go_meet
                exact ⟨by rw [hb2.out], HA3.out, HX3.out, HY3.out⟩
              · have b1 : (k1 != 2) = true := by rw [bne_iff_ne]; exact e2
                have hb2 : Hid (B2 = true) := by show _ = _; rw [hb.out, decide_eq_false e2]; rfl
                clear hb e2
                go_wp2_with fail
                go_meet
                exact ⟨by rw [hb2.out], HA3.out, HX3.out, HY3.out⟩
            · have f1 : (s0.toList == [58]) = false := str_no (by rw [e]; decide)
              have f2 : (s0.toList == [42]) = true := str_yes e
              have hb : Hid (B2 = !decide (k1 = 3)) := by show _ = _; rw [← hB2.out, eqS_iff.2 e, eqS_no.2 (show s0 ≠ wCol by rw [e]; exact hne.symm)]; simp
              clear hB2 e hcs hne
              by_cases e2 : k1 = 3
              · have b1 : (k1 != 3) = false := by rw [bne_eq_false_iff_eq]; exact e2
                have hb2 : Hid (B2 = false) := by show _ = _; rw [hb.out, decide_eq_true e2]; rfl
                clear hb e2
                go_wp2_with fail
                go_meet
                exact ⟨by rw [hb2.out], HA3.out, HX3.out, HY3.out⟩
              · have b1 : (k1 != 3) = true := by rw [bne_iff_ne]; exact e2
                have hb2 : Hid (B2 = true) := by show _ = _; rw [hb.out, decide_eq_false e2]; rfl
                clear hb e2
                go_wp2_with fail
                go_meet
                exact ⟨by rw [hb2.out], HA3.out, HX3.out, HY3.out⟩
          case rest =>
            obtain ⟨rfl, hA4, hX4, hY4⟩ := hcut
            have HA4 := Lib.hid hA4
            have HX4 := Lib.hid hX4
            have HY4 := Lib.hid hY4
            clear x1 y0 y3 hg6l hg7l HA3 HX3 HY3
            have x1 := hX4.1.cell 1 rfl
            have hg6l := hX4.1.lt
            have y2 := hY4.1.cell 2 rfl
            have y3 := hY4.1.cell 3 rfl
            have hg7l := hY4.1.lt
            clear hA4 hX4 hY4
            cases B2 with
            | true =>
              have hend : Hid (R = .no p1 8) := by
                have e := hB2.out
                have hp := HPA.out
                show _ = _
                rw [hp]
                rcases hcs.out with e1 | e1
                · subst e1
                  rw [if_neg (by decide), if_pos rfl, if_neg]
                  intro e2
                  rw [decide_eq_true e2, eqS_no.2 (show wCol ≠ wStar by decide)] at e
                  simp at e
                · subst e1
                  rw [if_pos rfl, if_neg]
                  intro e2
                  rw [decide_eq_true e2, eqS_no.2 (show wStar ≠ wCol by decide)] at e
                  simp at e
              clear HPA hB2 hcs
              go_wp2_with (first
                | (go_at_call 38; refine (fail_is b p1 8 _ (HA4).out.2.1.1.rf h8).mono ?_; rintro e W9 ⟨rfl, he9⟩; have hf9 := (HA4).out.fail he9; have r0 := hf9.2.cell 0 rfl; have r1 := hf9.2.cell 1 rfl; have r2 := hf9.2.cell 2 rfl; have r3 := hf9.2.cell 3 rfl; have r4 := hf9.2.cell 4 rfl; have rf := hf9.2.fz; have r5 := hf9.2.lt; have HE9 := Lib.hid hf9.1; clear he9 hf9))
              have e := hend.out
              subst e
              exact bodyPost_ret (v := xe 0 ⟨#[]⟩ 0 0 none 0 0) (by simp [results, Tryz.results60, go_sem, r0, r1, r2, r3, r4, rf]) rfl ⟨⟨_, _, _, _, _, _, _, rfl⟩, (((((HE9.out.set 0 _).set 1 _).set 2 _).set 3 _).set 4 _).er⟩
            | false =>
              have hcs2 : Hid ((s0 = wCol ∧ k1 = 2 ∧ R = atEnd (hk, hs, hn, hp) (hs, n1, 0) t.tail.tail n l) ∨ (s0 = wStar ∧ k1 = 3 ∧ R = if 1 ≤ n1 ∧ n1 ≤ 8 then atEnd (hk, hs, hn, hp) (hs, 0, n1) t.tail.tail n l else .no p1 12)) := by
                have e := hB2.out
                have hp := HPA.out
                rw [Bool.or_eq_false_iff, Bool.and_eq_false_iff, Bool.and_eq_false_iff] at e
                rcases hcs.out with e1 | e1
                · have e2 : k1 = 2 := by
                    rcases e.1 with g | g
                    · rw [eqS_iff.2 e1] at g; cases g
                    · simpa using g
                  subst e1
                  rw [if_neg (by decide), if_pos rfl, if_pos e2] at hp
                  exact .inl ⟨rfl, e2, hp⟩
                · have e2 : k1 = 3 := by
                    rcases e.2 with g | g
                    · rw [eqS_iff.2 e1] at g; cases g
                    · simpa using g
                  subst e1
                  rw [if_pos rfl, if_pos e2] at hp
                  exact .inr ⟨rfl, e2, hp⟩
              clear HPA hB2 hcs
              obtain ⟨_, hw2, _, h1l⟩ : okT (hd t.tail) ∧ WT t.tail.tail ∧ t.tail.tail.length < t.tail.length ∧ 1 < t.tail.length := HW1.out.next (by rw [hk1.out]; rcases hcs2.out with e | e <;> have := e.2.1 <;> omega)
              have h2 : 0 < t.tail.tail.length := by have := hw2.ne; cases hh : t.tail.tail with | nil => exact absurd hh this | cons a r => simp
              clear hw2 h1l h2
              obtain ⟨j, V, tb, tq, c, tl, hpv, htl, g0, hfit, hsm, hlt, c0, c1, c2, c3, c4, c5, fz, htb, z0, z1, z2, z3⟩ := HA4.out.2.1.1.open_ H1.out
              have HPV := Lib.hid hpv
              have e5 : IntKind.i64.wrap ((j : Int) + 1) = (j : Int) + 1 := by rw [IntKind.wrap_i64]; omega
              have hb6 : ¬ b = g6 := fun e => HX4.out.2.1 e.symm
              have hb6' : ¬ g6 = b := HX4.out.2.1
              clear hpv htl c2 c3 c4 c5 z0 z1 z2 z3
              obtain ⟨Bc, hBc⟩ : ∃ Bc : Bool, (s0.toList == [58]) = Bc := ⟨_, rfl⟩
              go_upto_if 84 with fail
              have HA5 : Hid (At3 b t.tail.tail n l w (hk, hs, hn, hp) (hs, 0, 0) (wc.setCell ⟨b, 1, none⟩ (.int .i64 ((j : Int) + 1)))) := HA4.out.up (HPV.out.adv H1.out rfl).ps (Kp.set 1 (by decide) _)
              have HX5 : Hid (Bx (wc.setCell ⟨b, 1, none⟩ (.int .i64 ((j : Int) + 1))) b g6 (tk4 (k0, s0, n0, p0))) := HX4.out.kp (Kp.set 1 (by decide) _)
              have HY5 : Hid (Bx (wc.setCell ⟨b, 1, none⟩ (.int .i64 ((j : Int) + 1))) b g7 (tk4 (k1, s1, n1, p1))) := HY4.out.kp (Kp.set 1 (by decide) _)
              generalize wc.setCell ⟨b, 1, none⟩ (.int .i64 ((j : Int) + 1)) = W5 at HA5 HX5 HY5 ⊢
              clear x1 y2 y3 hg6l hg7l HA4 HX4 HY4 HPV c0 c1 fz g0 hfit hsm hlt htb e5
              go_cut [] from 52 (fun wx => ∃ m u : Int, At3 b t.tail.tail n l w (hk, hs, hn, hp) (hs, m, u) wx ∧ Hid (R = atEnd (hk, hs, hn, hp) (hs, m, u) t.tail.tail n l))
              case first =>
                have hx5 := HX5.out
                have hy5 := HY5.out
                have ha5 := HA5.out.2.2.2.2
                have x1 := hx5.1.cell 1 rfl
                have hg6l := hx5.1.lt
                have y2 := hy5.1.cell 2 rfl
                have y3 := hy5.1.cell 3 rfl
                have hg7l := hy5.1.lt
                have a1 : W5.cell? ⟨w.heap.size + 1 + 1, 1, none⟩ = some (.int .i64 0) := ha5.1.cell 1 rfl
                have a2 : W5.cell? ⟨w.heap.size + 1 + 1, 2, none⟩ = some (.int .i64 0) := ha5.1.cell 2 rfl
                have af : ∀ o, W5.frozen? ⟨w.heap.size + 1 + 1, o, none⟩ = false := ha5.1.fz
                have al : w.heap.size + 1 + 1 < W5.heap.size := ha5.1.lt
                have hq1 : ¬ g7 = w.heap.size + 1 + 1 := by omega
                have hq2 : ¬ w.heap.size + 1 + 1 = g7 := by omega
                clear hx5 hy5 ha5
                rcases hcs2.out with ⟨e1, e2, e3⟩ | ⟨e1, e2, e3⟩
                · have f1 : Bc = true := by rw [← hBc]; exact str_yes e1
                  subst f1
                  have E3 := Lib.hid e3
                  clear e1 e2 e3 hcs2
                  go_wp2_with fail
                  go_meet
                  exact ⟨n1, 0, HA5.out.put1 n1, E3.out⟩
                · have f1 : Bc = false := by rw [← hBc]; exact str_no (by rw [e1]; decide)
                  subst f1
                  have E3 := Lib.hid e3
                  clear e1 e2 e3 hcs2
                  have HA6 : Hid (At3 b t.tail.tail n l w (hk, hs, hn, hp) (hs, 0, n1) (W5.setCell ⟨w.heap.size + 1 + 1, 2, none⟩ (.int .i64 n1))) := HA5.out.put2 n1
                  by_cases g1 : n1 < 1
                  · have hend : Hid (R = .no p1 12) := by show _ = _; rw [E3.out, if_neg (by omega)]
                    clear E3
                    go_wp2_with (first
                      | (go_at_call 38; refine (fail_is b p1 12 _ (HA6.out).2.1.1.rf h12).mono ?_; rintro e W9 ⟨rfl, he9⟩; have hf9 := (HA6.out).fail he9; have r0 := hf9.2.cell 0 rfl; have r1 := hf9.2.cell 1 rfl; have r2 := hf9.2.cell 2 rfl; have r3 := hf9.2.cell 3 rfl; have r4 := hf9.2.cell 4 rfl; have rf := hf9.2.fz; have r5 := hf9.2.lt; have HE9 := Lib.hid hf9.1; clear he9 hf9))
                    have e := hend.out
                    subst e
                    exact bodyPost_ret (v := xe 0 ⟨#[]⟩ 0 0 none 0 0) (by simp [results, Tryz.results60, go_sem, r0, r1, r2, r3, r4, rf]) rfl ⟨⟨_, _, _, _, _, _, _, rfl⟩, (((((HE9.out.set 0 _).set 1 _).set 2 _).set 3 _).set 4 _).er⟩
                  · by_cases g2 : 8 < n1
                    · have hend : Hid (R = .no p1 12) := by show _ = _; rw [E3.out, if_neg (by omega)]
                      clear E3
                      go_wp2_with (first
                        | (go_at_call 38; refine (fail_is b p1 12 _ (HA6.out).2.1.1.rf h12).mono ?_; rintro e W9 ⟨rfl, he9⟩; have hf9 := (HA6.out).fail he9; have r0 := hf9.2.cell 0 rfl; have r1 := hf9.2.cell 1 rfl; have r2 := hf9.2.cell 2 rfl; have r3 := hf9.2.cell 3 rfl; have r4 := hf9.2.cell 4 rfl; have rf := hf9.2.fz; have r5 := hf9.2.lt; have HE9 := Lib.hid hf9.1; clear he9 hf9))
                      have e := hend.out
                      subst e
                      exact bodyPost_ret (v := xe 0 ⟨#[]⟩ 0 0 none 0 0) (by simp [results, Tryz.results60, go_sem, r0, r1, r2, r3, r4, rf]) rfl ⟨⟨_, _, _, _, _, _, _, rfl⟩, (((((HE9.out.set 0 _).set 1 _).set 2 _).set 3 _).set 4 _).er⟩
                    · have hend : Hid (R = atEnd (hk, hs, hn, hp) (hs, 0, n1) t.tail.tail n l) := by show _ = _; rw [E3.out, if_pos (by omega)]
                      clear E3
                      go_wp2_with fail
                      go_meet
                      exact ⟨0, n1, HA6.out, hend.out⟩
              case rest =>
                obtain ⟨m, u, hA6, hR6⟩ := hcut
                have HA6 := Lib.hid hA6
                have hR := hR6
                clear hR6 HA5 HX5 HY5 hcs2 hBc
                obtain ⟨j, V, tb, tq, c, hpv⟩ := hA6.2.1.1
                obtain ⟨A, cA, rfl, hfA, hrd⟩ := hpv.own.form
                obtain ⟨la, hla⟩ : ∃ la, Hid (l.length = la) := ⟨_, rfl⟩
                rw [hla.out] at hpv hfA
                have hla8 : la ≤ 8 := by rw [← hla.out]; exact hpv.l8
                have HPV := Lib.hid hpv
                have HRD := Lib.hid hrd
                have hbw := hA6.1.1
                clear hpv hrd hA6
                go_wp2_with fail
                go_loopw [8] (fun i wr => ∃ k : Nat, k ≤ la ∧ i = .int .i64 k ∧ Hid (scan (l.drop k) (hs, m, u) = scan l (hs, m, u)) ∧ Hid (Below wc.heap.size wc wr)) (fun i _ => la - (intOf i).toNat)
                case atStart => exact ⟨0, by omega, rfl, rfl, Below.refl _ _⟩
                case round =>
                  obtain ⟨k, hk8, rfl, hsc, hB⟩ := hrel
                  have HA7 := Lib.hid (HA6.out.low hB.out)
                  have hp7 := HPV.out.up hB.out
                  have ha7 := HA7.out.2.2.2.2.1
                  have hr7 := HA7.out.2.2.2.1.1
                  have hn7 := HA7.out.2.2.1.1
                  have c3 := hp7.c3
                  have bf := hp7.fz
                  have hlt := hp7.lt
                  have a0 : wr.cell? ⟨w.heap.size + 1 + 1, 0, none⟩ = some (.string hs) := ha7.cell 0 rfl
                  have a1 : wr.cell? ⟨w.heap.size + 1 + 1, 1, none⟩ = some (.int .i64 m) := ha7.cell 1 rfl
                  have a2 : wr.cell? ⟨w.heap.size + 1 + 1, 2, none⟩ = some (.int .i64 u) := ha7.cell 2 rfl
                  have al : w.heap.size + 1 + 1 < wr.heap.size := ha7.lt
                  have r0 := hr7.cell 0 rfl
                  have r1 := hr7.cell 1 rfl
                  have r2 := hr7.cell 2 rfl
                  have r3 := hr7.cell 3 rfl
                  have r4 := hr7.cell 4 rfl
                  have rf := hr7.fz
                  have rl := hr7.lt
                  have w3 := hn7.cell 3 rfl
                  have wl := hn7.lt
                  clear ha7 hr7 hn7 hp7
                  by_cases hlt2 : (k : Int) < (la : Int)
                  · obtain ⟨g, o, s', m', u', rfl, hg, hx, d1, d2, d3⟩ := (HRD.out.below hB.out).at_ (i := k) (by have := hla.out; omega)
                    have e5 : IntKind.i64.wrap ((k : Int) + 1) = (k : Int) + 1 := by rw [IntKind.wrap_i64]; omega
                    have hstep : Hid (scan l (hs, m, u) = if (s', m', u') = ((hs, m, u) : A3) then some true else if s' = hs then some false else scan (l.drop (k + 1)) (hs, m, u)) := by
                      show _ = _
                      rw [← hsc.out, scan_drop (by have := hla.out; omega), hx.out]
                    have e0 : ∀ W, (binOp .eql 25 (av s' m' u') (av hs m u)).run Tryz.prog W = .ok (.bool (eqS s' hs && decide (m' = m ∧ u' = u))) W := fun W => eqAtom s' hs m' u' m u W
                    cases hq : (eqS s' hs && decide (m' = m ∧ u' = u)) with
                    | true =>
                      rw [hq] at e0
                      have hend : Hid (R = .ok (.nd 0 (hs, m, u) []) t.tail.tail n l) := by
                        have h2 := hstep.out
                        rw [if_pos (eq_a3.1 hq)] at h2
                        show _ = _
                        rw [hR.out]
                        unfold atEnd incl
                        rw [h2]
                        rfl
                      clear hq hstep hR
                      go_wp2
                      go_quiet (fail)
                      go_wp2
                      have e := hend.out
                      subst e
                      have hst : St3 b t.tail.tail n l w (w.heap.size + 1) (wr.drewN nq) := by
                        have k8 := HA7.out.low (bdN (Below.refl _ _) nq)
                        exact ⟨k8.2.1.1, k8.2.1.2, by omega, by omega, k8.2.2.2.1.2.2⟩
                      exact bodyPost_ret (v := xe 0 hs m u none 0 0) (by simp [results, Tryz.results60, go_sem, r0, r1, r2, r3, r4, rf]) rfl ⟨⟨_, _, _, _, _, _, _, rfl, ⟨⟨rfl, Nat.le_refl _, by show (0 : Nat) ≤ maxLen; simp [maxLen]⟩, .nil _⟩⟩, (((((hst.set 0 _).set 1 _).set 2 _).set 3 _).set 4 _).go⟩
                    | false =>
                      rw [hq] at e0
                      by_cases he0 : s' = hs
                      · have he : (s'.toList == hs.toList) = true := eqS_iff.2 he0
                        have hend : Hid (R = .no hp 13) := by
                          have h2 := hstep.out
                          rw [if_neg (fun h => by rw [eq_a3.2 h] at hq; cases hq), if_pos he0] at h2
                          show _ = _
                          rw [hR.out]
                          unfold atEnd incl
                          rw [h2]
                          rfl
                        clear hq hstep hR he0
                        go_wp2
                        go_quiet (fail)
                        go_wp2
                        go_quiet (fail)
                        clear r0 r1 r2 r3 r4 rf rl
                        go_wp2_with (first
                          | (go_at_call 38; refine (fail_is b hp 13 _ ((HA7.out.low (by first | exact bdN (Below.refl _ _) _ | exact bdN (bdN (Below.refl _ _) _) _ | exact Below.refl _ _))).2.1.1.rf h13).mono ?_; rintro e W9 ⟨rfl, he9⟩; have hf9 := ((HA7.out.low (by first | exact bdN (Below.refl _ _) _ | exact bdN (bdN (Below.refl _ _) _) _ | exact Below.refl _ _))).fail he9; have r0 := hf9.2.cell 0 rfl; have r1 := hf9.2.cell 1 rfl; have r2 := hf9.2.cell 2 rfl; have r3 := hf9.2.cell 3 rfl; have r4 := hf9.2.cell 4 rfl; have rf := hf9.2.fz; have r5 := hf9.2.lt; have HE9 := Lib.hid hf9.1; clear he9 hf9))
                        have e := hend.out
                        subst e
                        exact bodyPost_ret (v := xe 0 ⟨#[]⟩ 0 0 none 0 0) (by simp [results, Tryz.results60, go_sem, r0, r1, r2, r3, r4, rf]) rfl ⟨⟨_, _, _, _, _, _, _, rfl⟩, (((((HE9.out.set 0 _).set 1 _).set 2 _).set 3 _).set 4 _).er⟩
                      · have he : (s'.toList == hs.toList) = false := eqS_no.2 he0
                        have hsc2 : Hid (scan (l.drop (k + 1)) (hs, m, u) = scan l (hs, m, u)) := by
                          have h2 := hstep.out
                          rw [if_neg (fun h => by rw [eq_a3.2 h] at hq; cases hq), if_neg he0] at h2
                          exact h2.symm
                        clear hq he0 hstep
                        go_wp2
                        go_quiet (fail)
                        go_wp2
                        go_quiet (fail)
                        go_wp2
                        go_roundw
                        case rel => exact ⟨k + 1, by omega, by go_num, hsc2, by first | exact bdN (bdN hB.out _) _ | exact bdN hB.out _⟩
                        case measure => simp [intOf]; omega
                  · have hnone : Hid (scan l (hs, m, u) = none) := by
                      have := hsc.out
                      rw [List.drop_eq_nil_of_le (by have := hla.out; omega)] at this
                      exact this.symm
                    by_cases he8 : la = 8
                    · have h8b : ((la : Int) == 8) = true := by rw [beq_iff_eq]; omega
                      have hend : Hid (R = .no hp 4) := by
                        show _ = _
                        rw [hR.out]
                        unfold atEnd incl
                        rw [hnone.out]
                        simp [hla.out, he8]
                      clear he8 hR r0 r1 r2 r3 r4 rf rl
                      go_wp2_with (first
                        | (go_at_call 38; refine (fail_is b hp 4 _ (HA7.out).2.1.1.rf h4n).mono ?_; rintro e W9 ⟨rfl, he9⟩; have hf9 := (HA7.out).fail he9; have r0 := hf9.2.cell 0 rfl; have r1 := hf9.2.cell 1 rfl; have r2 := hf9.2.cell 2 rfl; have r3 := hf9.2.cell 3 rfl; have r4 := hf9.2.cell 4 rfl; have rf := hf9.2.fz; have r5 := hf9.2.lt; have HE9 := Lib.hid hf9.1; clear he9 hf9))
                      have e := hend.out
                      subst e
                      exact bodyPost_ret (v := xe 0 ⟨#[]⟩ 0 0 none 0 0) (by simp [results, Tryz.results60, go_sem, r0, r1, r2, r3, r4, rf]) rfl ⟨⟨_, _, _, _, _, _, _, rfl⟩, (((((HE9.out.set 0 _).set 1 _).set 2 _).set 3 _).set 4 _).er⟩
                    · have h8b : ((la : Int) == 8) = false := by rw [beq_eq_false_iff_ne]; omega
                      have hend : Hid (R = .ok (.nd 0 (hs, m, u) []) t.tail.tail n (l ++ [(hs, m, u)])) := by
                        show _ = _
                        rw [hR.out]
                        unfold atEnd incl
                        rw [hnone.out]
                        simp [hla.out, he8]
                      have HL9 : Hid ((l ++ [((hs, m, u) : A3)]).length ≤ 8) := by have := hla.out; show _ ≤ _; rw [List.length_append]; simp; omega
                      clear he8 hR
                      have h1 : Hid ([((hs, m, u) : A3)].length = 1) := rfl
                      have hl2 : Hid (l.length + 1 ≤ 1000000) := by have := hla.out; show _ ≤ _; omega
                      obtain ⟨k2, hk2⟩ : ∃ k2, Hid ((l ++ [((hs, m, u) : A3)]).length = k2) := ⟨_, rfl⟩
                      have HV7 := Lib.hid (HPV.out.up hB.out)
                      have HOW : Hid (∀ W, Below wr.heap.size wr W → OwnQ W (b + 1) (.slice A la cA) l) := fun W hW => own_kept HV7.out.own (fun g hg => hW.block g (own_lt HV7.out.own hg).2)
                      have HWS : Hid (∀ W, Below wr.heap.size wr W → b + 1 ≤ W.heap.size) := fun W hW => Nat.le_trans HV7.out.lt hW.size
                      have HZ1 : Hid (QRd ((wr.alloc (.cells #[.string hs, .int .i64 m, .int .i64 u] 25)).drew) (some ⟨wr.heap.size, 0, none⟩) [(hs, m, u)]) := QRd.one_at wr _ hs m u rfl
                      have HZ2 : Hid (QRd (wr.drew.alloc (.cells #[.string hs, .int .i64 m, .int .i64 u] 25)) (some ⟨wr.heap.size, 0, none⟩) [(hs, m, u)]) := QRd.one_at wr.drew _ hs m u rfl
                      have HST : Hid (∀ (W w2 : World) (V2 : Value), Below wr.heap.size wr W → OwnQ w2 (b + 1) V2 (l ++ [(hs, m, u)]) → W.grownBy w2 (Value.slice A la cA).ownBlock → (V2.ownBlock = (Value.slice A la cA).ownBlock ∨ V2.ownBlock = some W.heap.size) →
                          ∃ A2 c2, V2 = .slice A2 k2 c2 ∧ Hid (RsV (w2.setCell ⟨b, 3, none⟩ V2) b j t.tail.tail n (l ++ [(hs, m, u)]) V2 tb tq c ∧ Kp b wr (w2.setCell ⟨b, 3, none⟩ V2)) ∧ b < w2.heap.size ∧ (∃ x, w2.cell? ⟨b, 3, none⟩ = some x) ∧ (∀ o, w2.frozen? ⟨b, o, none⟩ = false) ∧ Blk w2 (w.heap.size + 1) z5 ∧ Blk w2 (w.heap.size + 1 + 1) [.string hs, .int .i64 m, .int .i64 u]) := fun W w2 V2 hW ho hg hn => by
                        have hv := HV7.out.up hW
                        have hk8 := HA7.out.low hW
                        have hinc := hv.inc hg ho (fun g hg' => by
                          rcases hn with e | e
                          · exact .inl (by rw [← e]; exact hg')
                          · rw [e] at hg'; injection hg' with hg'; exact .inr (by omega)) HL9.out
                        have hrw := rowOf_eq hv.c3
                        have bk : ∀ {g : Nat} {cs : List Value}, Bx W b g cs → Blk w2 g cs := fun hx => hx.1.of (hg.block _ hx.1.lt (fun e => hx.2.2 (by rw [hrw]; exact e.symm)))
                        have eb : w2.heap[b]? = W.heap[b]? := hg.block b hv.lt (fun e => by have := (own_lt hv.own e.symm).1; omega)
                        obtain ⟨A2, c2, hV2, -⟩ := ho.form
                        rw [hk2.out] at hV2
                        exact ⟨A2, c2, hV2, ⟨hinc.1, (Kp.up hW HV7.out.lt).trans hinc.2⟩, Nat.lt_of_lt_of_le hv.lt hg.size, ⟨_, (cell_of_block eb 3).trans hv.c3⟩, fun o => (frozen_of_block eb o).trans (hv.fz o), bk hk8.2.2.2.1, bk hk8.2.2.2.2⟩
                      have q1 : ¬ w.heap.size + 1 + 1 = b := by omega
                      have q2 : ¬ b = w.heap.size + 1 + 1 := by omega
                      have q3 : ¬ w.heap.size + 1 = b := by omega
                      have q4 : ¬ b = w.heap.size + 1 := by omega
                      clear r0 r1 r2 r3 r4 rf rl w3 wl
                      go_wp2_with fail
                      go_region_law (refine step_app_atom rfl (.tmp 157) (.tmp 159) rfl (b + 1) (.slice A la cA) l (some ⟨wr.heap.size, 0, none⟩) [(hs, m, u)] 1 1 h1 (by simp [Act.eval, Act.put]) (by simp [Act.eval, Act.put]) (HOW.out _ (by first | exact bdD (newB _ _) | exact nxA (bdD (Below.refl _ _)) _)) (by first | exact HZ1.out | exact HZ2.out) hl2 (HWS.out _ (by first | exact bdD (newB _ _) | exact nxA (bdD (Below.refl _ _)) _)) ?_; intro V2 w2 ho2 hg2 hn2; obtain ⟨A2, c2, rfl, hrs, kb, ⟨kx, kc⟩, kf, kr, ka⟩ := HST.out _ w2 V2 (by first | exact bdD (newB _ _) | exact nxA (bdD (Below.refl _ _)) _) ho2 hg2 hn2; clear ho2 hg2 hn2; have r0 := kr.cell 0 rfl; have r1 := kr.cell 1 rfl; have r2 := kr.cell 2 rfl; have r3 := kr.cell 3 rfl; have r4 := kr.cell 4 rfl; have rf := kr.fz; have rl := kr.lt; have e0 := ka.cell 0 rfl; have e1 := ka.cell 1 rfl; have e2 := ka.cell 2 rfl; have el := ka.lt; clear kr ka)
                      all_goals (
                        go_wp2
                        have e := hend.out
                        subst e
                        have hst : St3 b t.tail.tail n (l ++ [(hs, m, u)]) w (w.heap.size + 1) (w2.setCell ⟨b, 3, none⟩ (.slice A2 k2 c2)) := ⟨hrs.out.1.ps, HA7.out.2.1.2.trans hrs.out.2, by omega, by omega, (HA7.out.2.2.2.1.kp hrs.out.2).2.2⟩
                        exact bodyPost_ret (v := xe 0 hs m u none 0 0) (by simp [results, Tryz.results60, go_sem, r0, r1, r2, r3, r4, rf, q3, q4]) rfl ⟨⟨_, _, _, _, _, _, _, rfl, ⟨⟨rfl, Nat.le_refl _, by show (0 : Nat) ≤ maxLen; simp [maxLen]⟩, .nil _⟩⟩, (((((hst.set 0 _).set 1 _).set 2 _).set 3 _).set 4 _).go⟩)
end Go.Proofs.YtlokcmbkkfjlkaaGreatDoor.Rdr
