/- Contract: the parser's atom. -/
import Derived.Test.YtlokcmbkkfjlkaaGreatDoorRpm
import Derived.Deep.RegionWith
import Derived.Deep.CutRange
import Derived.Deep.CutBlock
namespace Go.Proofs.YtlokcmbkkfjlkaaGreatDoor
open Go.RowKit
set_option linter.unusedVariables false
set_option linter.unusedSimpArgs false

/-- What a method that makes an expression leaves. -/
def ExP (b : Nat) (r : PR Ex) (w : World) (e : Ending) (w' : World) : Prop :=
  match r with
  | .ok x t' n' l' => (∃ k s m u A n c, e = .returned (xe k s m u A n c) ∧ TIn (Nw w.heap.size b w') w' ⟨k, s, m, u, A, n, c⟩ x) ∧ Go1 b t' n' l' w w'
  | .no p x => e = Pan p x ∧ Below b w w'
theorem pA_eq (t : List T4) (n : Nat) (l : List A3) : pA t n l = match pAm t.tail n l with
    | .ok v t' _ _ => atEnd (hd t) ((hd t).2.1, v.1, v.2) t' n l
    | .no p e => .no p e := by
  unfold pA pAm
  split
  · split
    · split
      · rfl
      · rfl
    · rfl
  · split
    · split
      · rfl
      · rfl
    · rfl
/-- Behind 'atom := ..': the name's token in box g3, the atom in box g4. -/
def AtMid (b : Nat) (t : List T4) (n : Nat) (l : List A3) (a : World) (g2 g3 : Nat) (tk0 : T4) (v : Int × Int) (x : Value) (wx : World) : Prop :=
  ∃ g4, x = .pointer (some ⟨g4, 0, none⟩) ∧ Go1 b t n l a wx ∧ Bx wx b g2 [.int .i64 0, .string ⟨#[]⟩, .int .i64 0, .int .i64 0, .slice none 0 0] ∧ Bx wx b g3 [.int .i64 tk0.1, .string tk0.2.1, .int .i64 tk0.2.2.1, .int .i64 tk0.2.2.2] ∧ Bx wx b g4 [.string tk0.2.1, .int .i64 v.1, .int .i64 v.2]
theorem Bx.own {w : World} {b g : Nat} {cs : List Value} (h : Bx w b g cs) (o : Nat) (v : Value) : Bx (w.setCell ⟨g, o, none⟩ v) b g (cs.set o v) := ⟨h.1.set o v, h.2.1, by rw [rowOf_box h.2.1]; exact h.2.2⟩
theorem Bx.other {w : World} {b g q : Nat} {cs : List Value} (h : Bx w b g cs) (hq : g ≠ q) (hb : q ≠ b) (o : Nat) (v : Value) : Bx (w.setCell ⟨q, o, none⟩ v) b g cs := ⟨h.1.of (block_set _ _ _ hq), h.2.1, by rw [rowOf_box hb]; exact h.2.2⟩
theorem at_a {b : Nat} {t : List T4} {n : Nat} {l : List A3} {a W : World} {g2 g3 g4 : Nat} {tk0 : T4} {v : Int × Int} {z0 z1 z2 : Value} (h : St3 b t n l a g4 W) (h2 : Bx W b g2 [.int .i64 0, .string ⟨#[]⟩, .int .i64 0, .int .i64 0, .slice none 0 0]) (h3 : Bx W b g3 [.int .i64 tk0.1, .string tk0.2.1, .int .i64 tk0.2.2.1, .int .i64 tk0.2.2.2]) (h4 : Bx W b g4 [z0, z1, z2]) (n2 : g2 ≠ g4) (n3 : g3 ≠ g4) :
    AtMid b t n l a g2 g3 tk0 v (.pointer (some ⟨g4, 0, none⟩)) (((W.setCell ⟨g4, 0, none⟩ (.string tk0.2.1)).setCell ⟨g4, 1, none⟩ (.int .i64 v.1)).setCell ⟨g4, 2, none⟩ (.int .i64 v.2)) :=
  ⟨g4, rfl, (((h.set 0 _).set 1 _).set 2 _).go, ((h2.other n2 h4.2.1 0 _).other n2 h4.2.1 1 _).other n2 h4.2.1 2 _, ((h3.other n3 h4.2.1 0 _).other n3 h4.2.1 1 _).other n3 h4.2.1 2 _, ((h4.own 0 _).own 1 _).own 2 _⟩
theorem at_b {b : Nat} {t : List T4} {n : Nat} {l : List A3} {a W : World} {g2 g3 : Nat} {tk0 : T4} {v : Int × Int} (T : TypeId) (h : Go1 b t n l a W) (h2 : Bx W b g2 [.int .i64 0, .string ⟨#[]⟩, .int .i64 0, .int .i64 0, .slice none 0 0]) (h3 : Bx W b g3 [.int .i64 tk0.1, .string tk0.2.1, .int .i64 tk0.2.2.1, .int .i64 tk0.2.2.2]) :
    AtMid b t n l a g2 g3 tk0 v (.pointer (some ⟨W.heap.size, 0, none⟩)) (W.alloc (.cells #[.string tk0.2.1, .int .i64 v.1, .int .i64 v.2] T)) :=
  ⟨_, rfl, ⟨h.1.up (newB W _), h.2.trans (Kp.up (newB W _) h.1.lt)⟩, h2.kp (Kp.up (newB W _) h.1.lt), h3.kp (Kp.up (newB W _) h.1.lt), Bx.new h.1 [.string tk0.2.1, .int .i64 v.1, .int .i64 v.2] T⟩
theorem PsV.inc {w w' : World} {b : Nat} {t : List T4} {n : Nat} {l l' : List A3} {V V' : Value} {tb tq c : Nat} (h : PsV w b t n l V tb tq c) (hg : w.grownBy w' V.ownBlock) (ho : OwnQ w' (b + 1) V' l') (hn : ∀ g, V'.ownBlock = some g → V.ownBlock = some g ∨ w.heap.size ≤ g) :
    PsV (w'.setCell ⟨b, 2, none⟩ V') b t n l' V' tb tq c ∧ Kp b w (w'.setCell ⟨b, 2, none⟩ V') := by
  have hne : ∀ g, V.ownBlock = some g → b < g := fun g hg => (own_lt h.own hg).1
  have eb : w'.heap[b]? = w.heap[b]? := hg.block b h.lt (fun e => by have := hne b e.symm; omega)
  have et : w'.heap[tb]? = w.heap[tb]? := hg.block tb (Nat.lt_trans h.tlt h.lt) (fun e => by have := hne tb e.symm; have := h.tlt; omega)
  have c0 := (cell_of_block eb 0).trans h.c0
  have c1 := (cell_of_block eb 1).trans h.c1
  have c2 := (cell_of_block eb 2).trans h.c2
  have fz := fun o => (frozen_of_block eb o).trans (h.fz o)
  have e2 : rowOf (w'.setCell ⟨b, 2, none⟩ V') b = V'.ownBlock := rowOf_eq (World.cell?_setCell_same _ _ _ c2)
  refine ⟨⟨by have := Nat.lt_of_lt_of_le h.lt hg.size; simpa using this, ?_, ?_, ?_, fun o => ?_, h.fit, h.tlt, fun i hi => (h.tok i hi).of_block ((block_set _ _ _ (by have := h.tlt; omega)).trans et), own_kept ho (fun g hq => block_set _ _ _ (by have := (own_lt ho hq).1; omega))⟩,
    ⟨hg.os, hg.tape, hg.output, by simpa [World.setCell] using hg.size, fun k h1 h2 h3 => (block_set _ _ _ h2).trans (hg.block k h1 (fun e => h3 (by rw [rowOf_eq h.c2]; exact e.symm))), fun k hk => ?_⟩⟩
  · simp [go_sem, c0, c1, c2, fz]
  · simp [go_sem, c0, c1, c2, fz]
  · simp [go_sem, c0, c1, c2, fz]
  · simp [go_sem, c0, c1, c2, fz]
  · rw [e2] at hk
    rw [rowOf_eq h.c2]
    exact hn k hk
/-- What never holds. -/
def Nev : Prop := ∀ p : Prop, p
/-- A contract whose call panics, with a way that is none. -/
theorem or_none {K : FuncId} {args : Array Value} {w : World} {R : Ending → World → Prop} (v : Value) (h : Calls Tryz.prog K args w R) : Calls Tryz.prog K args w fun e w' => R e w' ∨ (e = .returned v ∧ Nev) := h.mono fun _ _ h => .inl h
set_option maxHeartbeats 8000000 in
set_option maxRecDepth 100000 in
theorem atom_is (b : Nat) (t : List T4) (n : Nat) (l : List A3) (w : World) (hp : Ps w b t n l) (hw : WT t) (h1 : (hd t).1 = 1) (h8 : l.length ≤ 8) :
    Calls Tryz.prog 88 #[.pointer (some ⟨b, 0, none⟩)] w (ExP b (pA t n l) w) := by
  obtain ⟨_, w2, w3, w4⟩ := hw.next (by omega)
  have HP := Lib.hid hp
  have hbg := Lib.hid hp.lt
  have HX : Hid (Bx (w.alloc (.cells #[.int .i64 0, .string ⟨#[]⟩, .int .i64 0, .int .i64 0, .slice none 0 0] 28)) b w.heap.size [.int .i64 0, .string ⟨#[]⟩, .int .i64 0, .int .i64 0, .slice none 0 0]) := Bx.new hp _ _
  have HN : Hid (∀ X : Obj, Ps (w.alloc X) b t n l ∧ Kp b w (w.alloc X)) := fun X => ⟨HP.out.up (newB w X), Kp.up (newB w X) HP.out.lt⟩
  have he1 := Lib.hid h1
  have H4 := Lib.hid w4
  have HW2 := Lib.hid w2
  have H8 := Lib.hid h8
  obtain ⟨s0, hs0⟩ : ∃ s0, Hid ((hd t).2.1 = s0) := ⟨_, rfl⟩
  obtain ⟨n0, hn0⟩ : ∃ n0, Hid ((hd t).2.2.1 = n0) := ⟨_, rfl⟩
  obtain ⟨p, hpp⟩ : ∃ p, Hid ((hd t).2.2.2 = p) := ⟨_, rfl⟩
  rw [pA_eq]
  clear hp w2 w3 w4 h1 h8 hw
  cases ham : pAm t.tail n l with
  | no pe xe0 =>
    have HAM := Lib.hid ham
    show Calls _ _ _ _ (ExP b (.no pe xe0) w)
    clear ham
    go_enter Tryz.func88, Tryz.ntmps88
    go_wp2_with (first
      | (go_at_call 58; refine (take_yes b t n l 1 _ (HN.out _).1 H4.out he1 hs0 hn0 hpp).mono ?_; rintro e W1 ⟨rfl, hs1, hk1⟩; have HS1 := Lib.hid hs1; have HK1 := Lib.hid ((HN.out _).2.trans hk1); clear hs1 hk1))
    have HB0 : Hid (∀ W W2, Below W1.heap.size W1 W → Below b W W2 → Below b w W2) := fun W W2 h1 h2 => (HK1.out.below HP.out).trans ((h1.mono (Nat.le_trans (Nat.le_of_lt hbg.out) HK1.out.size)).trans h2)
    go_region_with (go_at_call 110; refine (or_none (aa 0 0) (amount_is b t.tail n l _ (HS1.out.up (by first | exact bdD (newB W1 _) | exact bdD (new2 W1 _ _))) HW2.out)).mono ?_; rw [HAM.out]; rintro e W2 (⟨rfl, hb2⟩ | ⟨rfl, hF⟩); (exact ⟨rfl, rfl, HB0.out _ _ (by first | exact bdD (newB W1 _) | exact bdD (new2 W1 _ _)) hb2⟩); have y0 : W2.cell? ⟨W1.heap.size + 1, 0, none⟩ = some (.string ⟨#[]⟩) := hF _; have y1 : W2.cell? ⟨W1.heap.size + 1, 1, none⟩ = some (.int .i64 0) := hF _; have y2 : W2.cell? ⟨W1.heap.size + 1, 2, none⟩ = some (.int .i64 0) := hF _; have y3 : W2.cell? ⟨W1.heap.size, 1, none⟩ = some (.string s0) := hF _; have yf : ∀ o, W2.frozen? ⟨W1.heap.size + 1, o, none⟩ = false := hF _; have y4 : W1.heap.size < W2.heap.size := hF _; have y5 : W1.heap.size + 1 < W2.heap.size := hF _)
    all_goals exact hF _
  | ok v t' n1 l1 =>
    have HAM := Lib.hid ham
    obtain ⟨v1, v2⟩ := v
    have hn1 : n1 = n ∧ l1 = l := by
      unfold pAm at ham
      split at ham
      · split at ham
        · split at ham
          · injection ham with _ _ e3 e4; exact ⟨e3.symm, e4.symm⟩
          · cases ham
        · cases ham
      · split at ham
        · split at ham
          · injection ham with _ _ e3 e4; exact ⟨e3.symm, e4.symm⟩
          · cases ham
        · cases ham
    obtain ⟨rfl, rfl⟩ := hn1
    rw [hs0.out]
    show Calls _ _ _ _ (ExP b (atEnd (hd t) (s0, v1, v2) t' n1 l1) w)
    obtain ⟨R, hR⟩ : ∃ R, Hid (atEnd (hd t) (s0, v1, v2) t' n1 l1 = R) := ⟨_, rfl⟩
    rw [hR.out]
    clear ham
    go_enter Tryz.func88, Tryz.ntmps88
    go_upto_region 2 with (first
      | (go_at_call 58; refine (take_yes b t n1 l1 1 _ (HN.out _).1 H4.out he1 hs0 hn0 hpp).mono ?_; rintro e W1 ⟨rfl, hs1, hk1⟩; have HS1 := Lib.hid hs1; have HX1 := Lib.hid (HX.out.kp hk1); have HK1 := Lib.hid ((HN.out _).2.trans hk1); clear hs1 hk1))
    go_cut [4] from 9 (fun x wx => AtMid b t' n1 l1 w w.heap.size W1.heap.size (1, s0, n0, p) (v1, v2) x wx)
    case first =>
      have HK3 : Hid (∀ X : Obj, Kp b w (W1.alloc X) ∧ Ps (W1.alloc X) b t.tail n1 l1) := fun X => ⟨HK1.out.trans (Kp.up (newB W1 X) HS1.out.lt), HS1.out.up (newB W1 X)⟩
      have HX3 : Hid (Bx (W1.alloc (.cells #[.int .i64 1, .string s0, .int .i64 n0, .int .i64 p] 53)) b W1.heap.size [.int .i64 1, .string s0, .int .i64 n0, .int .i64 p]) := Bx.new HS1.out _ _
      have HX2 : Hid (∀ X : Obj, Bx (W1.alloc X) b w.heap.size [.int .i64 0, .string ⟨#[]⟩, .int .i64 0, .int .i64 0, .slice none 0 0]) := fun X => HX1.out.kp (Kp.up (newB W1 X) HS1.out.lt)
      have HX4 : Hid (Bx (((W1.alloc (.cells #[.int .i64 1, .string s0, .int .i64 n0, .int .i64 p] 53)).alloc (.cells #[.string ⟨#[]⟩, .int .i64 0, .int .i64 0] 25)).drew) b (W1.heap.size + 1) [.string ⟨#[]⟩, .int .i64 0, .int .i64 0]) := by
        have := Bx.new (HK3.out (.cells #[.int .i64 1, .string s0, .int .i64 n0, .int .i64 p] 53)).2 [.string ⟨#[]⟩, .int .i64 0, .int .i64 0] 25
        rw [show (W1.alloc (.cells #[.int .i64 1, .string s0, .int .i64 n0, .int .i64 p] 53)).heap.size = W1.heap.size + 1 by simp] at this
        exact this
      have KD : Hid (∀ X W2, Kp b (W1.alloc X).drew W2 → Kp b (W1.alloc X) W2) := fun X W2 h => (Kp.up (bdD (Below.refl _ _)) (HK3.out X).2.lt).trans h
      have KD2 : Hid (∀ X Y W2, Kp b ((W1.alloc X).alloc Y).drew W2 → Kp b (W1.alloc X) W2) := fun X Y W2 h => (Kp.up (bdD (newB (W1.alloc X) Y)) (HK3.out X).2.lt).trans h
      go_region_with (go_at_call 110; refine (amount_is b t.tail n1 l1 _ (HS1.out.up (by first | exact bdD (newB W1 _) | exact bdD (new2 W1 _ _))) HW2.out).mono ?_; rw [HAM.out]; rintro e W2 ⟨rfl, hs2, hk2⟩; have HS2 := Lib.hid hs2; have HK9 := Lib.hid hk2; have HK2 : Hid (Kp b (W1.alloc _) W2) := (by first | exact KD.out _ _ hk2 | exact KD2.out _ _ _ hk2); have hx3 := HX3.out.kp HK2.out; have y3 := hx3.1.cell 1 rfl; have y4 := hx3.1.lt; (try (have hx4 := HX4.out.kp hk2; have y0 := hx4.1.cell 0 rfl; have y1 := hx4.1.cell 1 rfl; have y2 := hx4.1.cell 2 rfl; have yf := hx4.1.fz; have y5 := hx4.1.lt; have HX5 := Lib.hid hx4; clear hx4)); have HX6 := Lib.hid hx3; clear hs2 hk2 hx3)
      all_goals (
        go_wp2_with fail
        go_meet
        have HG : Hid (Go1 b t' n1 l1 w W2) := ⟨HS2.out, (HK3.out _).1.trans HK2.out⟩
        have HX7 := Lib.hid ((HX2.out _).kp HK2.out)
        first
          | exact at_b (v := (v1, v2)) (tk0 := (1, s0, n0, p)) _ HG.out HX7.out HX6.out
          | (have hst : St3 b t' n1 l1 w (W1.heap.size + 1) W2 := ⟨HS2.out, HG.out.2, Nat.lt_succ_of_lt HS1.out.lt, Nat.le_trans HK1.out.size (Nat.le_succ _), HX5.out.2.2⟩
             exact at_a (v := (v1, v2)) (tk0 := (1, s0, n0, p)) hst HX7.out HX6.out HX5.out (Nat.ne_of_lt (Nat.lt_succ_of_le HK1.out.size)) (Nat.ne_of_lt (Nat.lt_succ_self _))))
    case rest =>
      obtain ⟨g4, rfl, ⟨hs2, hk2⟩, hx2, hx3, hx4⟩ := hcut
      have HS2 := Lib.hid hs2
      have HK2 := Lib.hid hk2
      have HX2 := Lib.hid hx2
      have HX3 := Lib.hid hx3
      have HX4 := Lib.hid hx4
      obtain ⟨V, tb, tq, c, hpv⟩ := hs2
      obtain ⟨A, cA, rfl, hfA, -⟩ := hpv.own.form
      obtain ⟨la, hla⟩ : ∃ la, Hid (l1.length = la) := ⟨_, rfl⟩
      rw [hla.out] at hpv
      have HPV := Lib.hid hpv
      have k2 := hpv.c2
      have a0 := hx4.1.cell 0 rfl
      have a1 := hx4.1.cell 1 rfl
      have a2 := hx4.1.cell 2 rfl
      have hb4 := hx4.2.1
      have hglt := Lib.hid hx4.1.lt
      obtain ⟨l', xi, hi⟩ : ∃ l' xi, Hid (incl l1 (s0, v1, v2) = (l', xi)) := ⟨_, _, rfl⟩
      clear hk2 hx2 hx3 hx4 hpv hfA HX HN HS1 HX1 HK1
      by_cases hxi : xi = 0
      · subst hxi
        have hae : Hid (R = .ok (.nd 0 (s0, v1, v2) []) t' n1 l') := by
          show _ = _
          rw [← hR.out]
          unfold atEnd
          rw [hi.out, if_pos rfl]
        have KE : Hid (∀ W, wc.grownBy W (Value.slice A la cA).ownBlock → W.cell? ⟨b, 2, none⟩ = some (.slice A la cA) ∧ W.cell? ⟨g4, 0, none⟩ = some (.string s0) ∧ W.cell? ⟨g4, 1, none⟩ = some (.int .i64 v1) ∧ W.cell? ⟨g4, 2, none⟩ = some (.int .i64 v2)) := fun W hW => by
          have eb : W.heap[b]? = wc.heap[b]? := hW.block b HPV.out.lt (fun e => by have := (own_lt HPV.out.own e.symm).1; omega)
          have eg : W.heap[g4]? = wc.heap[g4]? := hW.block g4 hglt.out (fun e => HX4.out.2.2 (by rw [rowOf_eq HPV.out.c2]; exact e.symm))
          exact ⟨(cell_of_block eb 2).trans k2, (cell_of_block eg 0).trans a0, (cell_of_block eg 1).trans a1, (cell_of_block eg 2).trans a2⟩
        have hb1b : b + 1 ≤ wc.heap.size := HPV.out.lt
        have HLB := Lib.hid hb1b
        clear hb1b
        go_wp2_with fail
        go_region_held3 (fun W => W.cell? ⟨b, 2, none⟩ = some (.slice A la cA) ∧ W.cell? ⟨g4, 0, none⟩ = some (.string s0) ∧ W.cell? ⟨g4, 1, none⟩ = some (.int .i64 v1) ∧ W.cell? ⟨g4, 2, none⟩ = some (.int .i64 v2))
          (first
            | exact KE.out _ (gB_refl _ _)
            | exact KE.out _ (gB_below (bdD (Below.refl _ _)) (Nat.le_refl _))
            | exact KE.out _ HG3.out)
          (first
            | (go_at_call 30; refine (include_yes (b + 1) A la cA l1 s0 v1 v2 _ (World.ownsRow.drew HPV.out.own) HLB.out H8.out hi).mono ?_; rintro e W3 ⟨A3, n3, c3, rfl, ho3, hg3, hn3⟩; have HO3 := Lib.hid ho3; have HG3 : Hid (wc.grownBy W3 (Value.slice A la cA).ownBlock) := gB_trans (gB_below (bdD (Below.refl _ _)) (Nat.le_refl _)) hg3; have HN3 : Hid (∀ g, (Value.slice A3 n3 c3).ownBlock = some g → (Value.slice A la cA).ownBlock = some g ∨ wc.heap.size ≤ g) := hn3; clear ho3 hg3 hn3))
        go_split_ands
        have hinc := HPV.out.inc HG3.out HO3.out HN3.out
        have HI := Lib.hid hinc
        have eb : W3.heap[b]? = wc.heap[b]? := HG3.out.block b HPV.out.lt (fun e => by have := (own_lt HPV.out.own e.symm).1; omega)
        have er : W3.heap[w.heap.size]? = wc.heap[w.heap.size]? := HG3.out.block _ HX2.out.1.lt (fun e => HX2.out.2.2 (by rw [rowOf_eq HPV.out.c2]; exact e.symm))
        have hr3 := HX2.out.1.of er
        have r0 := hr3.cell 0 rfl
        have r1 := hr3.cell 1 rfl
        have r2 := hr3.cell 2 rfl
        have r3 := hr3.cell 3 rfl
        have r4 := hr3.cell 4 rfl
        have rf := hr3.fz
        have bf : ∀ o, W3.frozen? ⟨b, o, none⟩ = false := fun o => (frozen_of_block eb o).trans (HPV.out.fz o)
        have hnb : ¬ w.heap.size = b := HX2.out.2.1
        have hbn : ¬ b = w.heap.size := fun e => HX2.out.2.1 e.symm
        have hb4' : ¬ b = g4 := fun e => hb4 e.symm
        have hst : Hid (St3 b t' n1 l' w w.heap.size (W3.setCell ⟨b, 2, none⟩ (.slice A3 n3 c3))) := ⟨HI.out.1.ps, HK2.out.trans HI.out.2, hbg.out, Nat.le_refl _, (HX2.out.kp HI.out.2).2.2⟩
        clear hr3 eb er hinc
        go_wp2
        have e9 := hae.out
        subst e9
        exact bodyPost_ret (v := xe 0 s0 v1 v2 none 0 0) (by simp [results, Tryz.results88, go_sem, r0, r1, r2, r3, r4, rf, hnb, hbn]) rfl ⟨⟨_, _, _, _, _, _, _, rfl, ⟨⟨rfl, Nat.le_refl _, by show (0 : Nat) ≤ maxLen; simp [maxLen]⟩, .nil _⟩⟩, (((((hst.out.set 0 _).set 1 _).set 2 _).set 3 _).set 4 _).go⟩
      · have hae : Hid (R = .no p xi) := by
          show _ = _
          rw [← hR.out]
          unfold atEnd
          rw [hi.out, if_neg hxi, hpp.out]
        have hxh := Lib.hid hxi
        have x0b : (xi == 0) = false := by rw [beq_eq_false_iff_ne]; exact hxi
        have x0c : (xi != 0) = true := by rw [bne_iff_ne]; exact hxi
        have KE : Hid (∀ W, Below wc.heap.size wc W → W.cell? ⟨b, 2, none⟩ = some (.slice A la cA) ∧ W.cell? ⟨g4, 0, none⟩ = some (.string s0) ∧ W.cell? ⟨g4, 1, none⟩ = some (.int .i64 v1) ∧ W.cell? ⟨g4, 2, none⟩ = some (.int .i64 v2)) := fun W hW => by
          have eb : W.heap[b]? = wc.heap[b]? := hW.block b HPV.out.lt
          have eg : W.heap[g4]? = wc.heap[g4]? := hW.block g4 hglt.out
          exact ⟨(cell_of_block eb 2).trans k2, (cell_of_block eg 0).trans a0, (cell_of_block eg 1).trans a1, (cell_of_block eg 2).trans a2⟩
        clear hxi
        go_wp2_with fail
        go_region_held3 (fun W => W.cell? ⟨b, 2, none⟩ = some (.slice A la cA) ∧ W.cell? ⟨g4, 0, none⟩ = some (.string s0) ∧ W.cell? ⟨g4, 1, none⟩ = some (.int .i64 v1) ∧ W.cell? ⟨g4, 2, none⟩ = some (.int .i64 v2))
          (first
            | exact KE.out _ (Below.refl _ _)
            | exact KE.out _ (bdD (Below.refl _ _))
            | exact KE.out _ HB3.out)
          (first
            | (go_at_call 30; refine (include_no (b + 1) A la cA l1 s0 v1 v2 _ (World.ownsRow.drew HPV.out.own) H8.out hi hxh).mono ?_; rintro e W3 ⟨rfl, hb3⟩; have HB3 : Hid (Below wc.heap.size wc W3) := (bdD (Below.refl _ _)).trans hb3; clear hb3))
        go_split_ands
        have hx3 := HX3.out.1.up HB3.out HX3.out.1.lt
        have y0 := hx3.cell 0 rfl
        have y1 := hx3.cell 1 rfl
        have y2 := hx3.cell 2 rfl
        have y3 := hx3.cell 3 rfl
        clear hx3
        go_wp2_with (go_at_call 89; refine (fail_is _ _ _ _ _ _).mono ?_; rintro e W4 ⟨rfl, hb4⟩; have HB4 := Lib.hid (nx HB3.out hb4); clear hb4)
        have e9 := hae.out
        subst e9
        exact ⟨rfl, rfl, (HK2.out.below HP.out).trans (HB4.out.mono (Nat.le_of_lt HS2.out.lt))⟩
end Go.Proofs.YtlokcmbkkfjlkaaGreatDoor
