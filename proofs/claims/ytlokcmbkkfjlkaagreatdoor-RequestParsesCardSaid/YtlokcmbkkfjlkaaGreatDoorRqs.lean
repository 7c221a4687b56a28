/- The reference's reader: its box, what its methods keep, the trees that they make. -/
import Derived.Test.YtlokcmbkkfjlkaaGreatDoorRps
import Derived.Test.YtlokcmbkkfjlkaaGreatDoorRls
namespace Go.Proofs.YtlokcmbkkfjlkaaGreatDoor.Rdr
open Go.RowKit
set_option linter.unusedVariables false
set_option linter.unusedSimpArgs false

/-- The block of the row of atoms that box b names. -/
def rowOf (w : World) (b : Nat) : Option Nat := match w.cell? ⟨b, 3, none⟩ with | some v => v.ownBlock | none => none
theorem rowOf_eq {w : World} {b : Nat} {V : Value} (h : w.cell? ⟨b, 3, none⟩ = some V) : rowOf w b = V.ownBlock := by unfold rowOf; rw [h]
/-- Only box b, its row of atoms and new blocks may have changed. -/
structure Kp (b : Nat) (w w' : World) : Prop where
  os : w'.os = w.os
  tape : w'.tape = w.tape
  output : w'.output = w.output
  size : w.heap.size ≤ w'.heap.size
  block : ∀ k, k < w.heap.size → k ≠ b → rowOf w b ≠ some k → w'.heap[k]? = w.heap[k]?
  row : ∀ k, rowOf w' b = some k → rowOf w b = some k ∨ w.heap.size ≤ k
theorem Kp.refl (b : Nat) (w : World) : Kp b w w := ⟨rfl, rfl, rfl, Nat.le_refl _, fun _ _ _ _ => rfl, fun _ h => .inl h⟩
theorem Kp.trans {b : Nat} {a w c : World} (h : Kp b a w) (k : Kp b w c) : Kp b a c := by
  refine ⟨k.os.trans h.os, k.tape.trans h.tape, k.output.trans h.output, Nat.le_trans h.size k.size, fun q h1 h2 h3 => ?_, fun q hq => ?_⟩
  · refine (k.block q (Nat.lt_of_lt_of_le h1 h.size) h2 (fun e => ?_)).trans (h.block q h1 h2 h3)
    rcases h.row q e with e | e
    · exact h3 e
    · omega
  · rcases k.row q hq with e | e
    · exact h.row q e
    · exact .inr (Nat.le_trans h.size e)
theorem Kp.up {b : Nat} {w w' : World} (hb : Below w.heap.size w w') (hlt : b < w.heap.size) : Kp b w w' := by
  have e : rowOf w' b = rowOf w b := by unfold rowOf; rw [cell_of_block (hb.block b hlt) 3]
  exact ⟨hb.os, hb.tape, hb.output, hb.size, fun k h _ _ => hb.block k h, fun k h => .inl (by rw [← e]; exact h)⟩
theorem Kp.set {b : Nat} {w : World} (o : Nat) (ho : o ≠ 3) (v : Value) : Kp b w (w.setCell ⟨b, o, none⟩ v) := by
  have e : rowOf (w.setCell ⟨b, o, none⟩ v) b = rowOf w b := by
    unfold rowOf
    rw [World.cell?_setCell_other _ _ _ _ (fun h => ho (congrArg Addr.off h))]
  exact ⟨rfl, rfl, rfl, by simp [World.setCell], fun k h1 h2 _ => block_set _ _ _ h2, fun k h => .inl (by rw [← e]; exact h)⟩
theorem Kp.set3 {b : Nat} {w : World} {V V' : Value} (h : w.cell? ⟨b, 3, none⟩ = some V) (hn : ∀ g, V'.ownBlock = some g → V.ownBlock = some g ∨ w.heap.size ≤ g) : Kp b w (w.setCell ⟨b, 3, none⟩ V') := by
  refine ⟨rfl, rfl, rfl, by simp [World.setCell], fun k h1 h2 _ => block_set _ _ _ h2, fun k hk => ?_⟩
  have e : rowOf (w.setCell ⟨b, 3, none⟩ V') b = V'.ownBlock := rowOf_eq (World.cell?_setCell_same _ _ _ h)
  rw [e] at hk
  rw [rowOf_eq h]
  exact hn k hk
/-- The reader in box b: it stands at token j, the tokens t are left; the nodes that have begun, the atoms. -/
structure RsV (w : World) (b j : Nat) (t : List T4) (n : Nat) (l : List A3) (V : Value) (tb tq c : Nat) : Prop where
  lt : b < w.heap.size
  c0 : w.cell? ⟨b, 0, none⟩ = some (.slice (some ⟨tb, tq, none⟩) (j + t.length) c)
  c1 : w.cell? ⟨b, 1, none⟩ = some (.int .i64 (j : Int))
  c2 : w.cell? ⟨b, 2, none⟩ = some (.int .i64 (n : Int))
  c3 : w.cell? ⟨b, 3, none⟩ = some V
  c4 : w.cell? ⟨b, 4, none⟩ = some (.int .i64 0)
  c5 : w.cell? ⟨b, 5, none⟩ = some (.int .i64 0)
  fz : ∀ o, w.frozen? ⟨b, o, none⟩ = false
  fit : j + t.length ≤ c
  small : j + t.length ≤ 100000
  nn : n ≤ 24
  tlt : tb < b
  tok : ∀ i, i < t.length → TZ w tb (tq + (j + i) * 4) (t.getD i default)
  own : OwnQ w (b + 1) V l
  l8 : l.length ≤ 8
def Ps (w : World) (b : Nat) (t : List T4) (n : Nat) (l : List A3) : Prop := ∃ j V tb tq c, RsV w b j t n l V tb tq c
theorem RsV.up {w w' : World} {b j : Nat} {t : List T4} {n : Nat} {l : List A3} {V : Value} {tb tq c : Nat} (h : RsV w b j t n l V tb tq c) (hb : Below w.heap.size w w') : RsV w' b j t n l V tb tq c := by
  have e := hb.block b h.lt
  exact ⟨Nat.lt_of_lt_of_le h.lt hb.size, (cell_of_block e _).trans h.c0, (cell_of_block e _).trans h.c1, (cell_of_block e _).trans h.c2, (cell_of_block e _).trans h.c3, (cell_of_block e _).trans h.c4, (cell_of_block e _).trans h.c5, fun o => (frozen_of_block e o).trans (h.fz o), h.fit, h.small, h.nn, h.tlt,
    fun i hi => (h.tok i hi).of_block (hb.block tb (Nat.lt_trans h.tlt h.lt)), own_kept h.own (fun g hg => hb.block g (own_lt h.own hg).2), h.l8⟩
theorem Ps.up {w w' : World} {b : Nat} {t : List T4} {n : Nat} {l : List A3} (h : Ps w b t n l) (hb : Below w.heap.size w w') : Ps w' b t n l := by
  obtain ⟨j, V, tb, tq, c, h⟩ := h
  exact ⟨j, V, tb, tq, c, h.up hb⟩
theorem Ps.lt {w : World} {b : Nat} {t : List T4} {n : Nat} {l : List A3} (h : Ps w b t n l) : b < w.heap.size := by
  obtain ⟨j, V, tb, tq, c, h⟩ := h
  exact h.lt
theorem RsV.ps {w : World} {b j : Nat} {t : List T4} {n : Nat} {l : List A3} {V : Value} {tb tq c : Nat} (h : RsV w b j t n l V tb tq c) : Ps w b t n l := ⟨j, V, tb, tq, c, h⟩
theorem RsV.set2 {w : World} {b j : Nat} {t : List T4} {n : Nat} {l : List A3} {V : Value} {tb tq c : Nat} (h : RsV w b j t n l V tb tq c) (m : Nat) (hm : m ≤ 24) {v : Int} (hv : v = (m : Int)) : RsV (w.setCell ⟨b, 2, none⟩ (.int .i64 v)) b j t m l V tb tq c := by
  subst hv
  obtain ⟨h0, h1, h2, h3, h4, h5, h6, h7, h8, h9, h10, h11, h12, h13, h14⟩ := h
  refine ⟨by simpa using h0, ?_, ?_, ?_, ?_, ?_, ?_, fun o => ?_, h8, h9, hm, h11, fun i hi => (h12 i hi).of_block (block_set _ _ _ (by omega)), own_kept h13 (fun g hg => block_set _ _ _ (by have := (own_lt h13 hg).1; omega)), h14⟩ <;> simp [go_sem, h1, h2, h3, h4, h5, h6, h7]
theorem RsV.adv {w : World} {b j : Nat} {t : List T4} {n : Nat} {l : List A3} {V : Value} {tb tq c : Nat} (h : RsV w b j t n l V tb tq c) (h1t : 0 < t.length) {v : Int} (hv : v = (j : Int) + 1) : RsV (w.setCell ⟨b, 1, none⟩ (.int .i64 v)) b (j + 1) t.tail n l V tb tq c := by
  obtain rfl : v = ((j + 1 : Nat) : Int) := by omega
  obtain ⟨h0, h1, h2, h3, h4, h5, h6, h7, h8, h9, h10, h11, h12, h13, h14⟩ := h
  have hl : j + 1 + t.tail.length = j + t.length := by simp; omega
  refine ⟨by simpa using h0, ?_, ?_, ?_, ?_, ?_, ?_, fun o => ?_, by omega, by omega, h10, h11, fun i hi => ?_, own_kept h13 (fun g hg => block_set _ _ _ (by have := (own_lt h13 hg).1; omega)), h14⟩
  · rw [hl]; simp [go_sem, h1, h2, h3, h4, h5, h6, h7]
  · simp [go_sem, h1, h2, h3, h4, h5, h6, h7]
  · simp [go_sem, h1, h2, h3, h4, h5, h6, h7]
  · simp [go_sem, h1, h2, h3, h4, h5, h6, h7]
  · simp [go_sem, h1, h2, h3, h4, h5, h6, h7]
  · simp [go_sem, h1, h2, h3, h4, h5, h6, h7]
  · simp [go_sem, h1, h2, h3, h4, h5, h6, h7]
  · have hi' : i < t.length - 1 := by simpa using hi
    have := h12 (i + 1) (by omega)
    have e : t.tail.getD i default = t.getD (i + 1) default := by cases t with | nil => rfl | cons a r => rfl
    rw [e, show j + 1 + i = j + (i + 1) by omega]
    exact this.of_block (block_set _ _ _ (by omega))
/-- The reader behind an error. -/
structure RE (w : World) (b : Nat) (p e : Int) : Prop where
  lt : b < w.heap.size
  c4 : w.cell? ⟨b, 4, none⟩ = some (.int .i64 e)
  c5 : w.cell? ⟨b, 5, none⟩ = some (.int .i64 p)
  ne : e ≠ 0
theorem RE.up {w w' : World} {b : Nat} {p e : Int} (h : RE w b p e) (hb : Below w.heap.size w w') : RE w' b p e := by
  have k := hb.block b h.lt
  exact ⟨Nat.lt_of_lt_of_le h.lt hb.size, (cell_of_block k _).trans h.c4, (cell_of_block k _).trans h.c5, h.ne⟩
theorem RE.of {w w' : World} {b : Nat} {p e : Int} (h : RE w b p e) (hb : w'.heap[b]? = w.heap[b]?) (hs : w.heap.size ≤ w'.heap.size) : RE w' b p e :=
  ⟨Nat.lt_of_lt_of_le h.lt hs, (cell_of_block hb _).trans h.c4, (cell_of_block hb _).trans h.c5, h.ne⟩
/-- What a method that went well leaves: nothing below b has changed. -/
theorem Kp.below {b : Nat} {w w' : World} {t : List T4} {n : Nat} {l : List A3} (h : Kp b w w') (hp : Ps w b t n l) : Below b w w' := by
  obtain ⟨j, V, tb, tq, c, hp⟩ := hp
  refine ⟨h.os, h.tape, h.output, h.size, fun k hk => h.block k (Nat.lt_trans hk hp.lt) (by omega) (fun e => ?_)⟩
  rw [rowOf_eq hp.c3] at e
  have := (own_lt hp.own e).1
  omega
/-- Blocks that were made since, without the row of atoms. -/
def Nw (lo b : Nat) (w : World) : Nat → Prop := fun k => lo ≤ k ∧ k < w.heap.size ∧ rowOf w b ≠ some k
theorem TIn.kp {lo b : Nat} {w w' : World} {v : XV} {e : Ex} (hlo : b < lo) (h : TIn (Nw lo b w) w v e) (hk : Kp b w w') : TIn (Nw lo b w') w' v e :=
  h.of (fun k ⟨h1, h2, h3⟩ => ⟨h1, Nat.lt_of_lt_of_le h2 hk.size, fun e => by
    rcases hk.row k e with e | e
    · exact h3 e
    · omega⟩) (fun k ⟨h1, h2, h3⟩ _ => hk.block k h2 (by omega) h3) hk.size
theorem KRd.kp {lo b : Nat} {w w' : World} {A : Option Addr} {l : List Ex} (hlo : b < lo) (h : KRd (Nw lo b w) w A l) (hk : Kp b w w') : KRd (Nw lo b w') w' A l :=
  h.of (fun k ⟨h1, h2, h3⟩ => ⟨h1, Nat.lt_of_lt_of_le h2 hk.size, fun e => by
    rcases hk.row k e with e | e
    · exact h3 e
    · omega⟩) (fun k ⟨h1, h2, h3⟩ _ => hk.block k h2 (by omega) h3) hk.size
theorem Nw.mono {lo lo' b : Nat} {w : World} (h : lo' ≤ lo) (k : Nat) (hk : Nw lo b w k) : Nw lo' b w k := ⟨Nat.le_trans h hk.1, hk.2⟩
/-- A box of the call's own, beside the parser's. -/
def Bx (w : World) (b g : Nat) (cs : List Value) : Prop := Blk w g cs ∧ g ≠ b ∧ rowOf w b ≠ some g
theorem Bx.kp {w w' : World} {b g : Nat} {cs : List Value} (h : Bx w b g cs) (hk : Kp b w w') : Bx w' b g cs := by
  obtain ⟨h1, h2, h3⟩ := h
  refine ⟨h1.of (hk.block g h1.lt h2 h3), h2, fun e => ?_⟩
  rcases hk.row g e with e | e
  · exact h3 e
  · have := h1.lt; omega
theorem rowOf_lt {w : World} {b : Nat} {t : List T4} {n : Nat} {l : List A3} (h : Ps w b t n l) {k : Nat} (e : rowOf w b = some k) : b < k ∧ k < w.heap.size := by
  obtain ⟨j, V, tb, tq, c, hp⟩ := h
  rw [rowOf_eq hp.c3] at e
  have := own_lt hp.own e
  omega
theorem Bx.new {w : World} {b : Nat} {t : List T4} {n : Nat} {l : List A3} (h : Ps w b t n l) (cs : List Value) (T : TypeId) : Bx (w.alloc (.cells cs.toArray T)) b w.heap.size cs := by
  refine ⟨Blk.new w cs T rfl, by have := h.lt; omega, fun e => ?_⟩
  have := rowOf_lt (h.up (newB w (.cells cs.toArray T))) e
  have h2 : rowOf (w.alloc (.cells cs.toArray T)) b = rowOf w b := by unfold rowOf; rw [cell_of_block ((newB w _).block b h.lt) 3]
  rw [h2] at e
  have := (rowOf_lt h e).2
  omega
end Go.Proofs.YtlokcmbkkfjlkaaGreatDoor.Rdr
