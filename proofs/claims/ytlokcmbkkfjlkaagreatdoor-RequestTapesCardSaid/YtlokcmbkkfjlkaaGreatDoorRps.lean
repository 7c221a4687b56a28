/- The parser's box, what its methods keep, the trees that they make; the panic of an error. -/
import Derived.Test.YtlokcmbkkfjlkaaGreatDoorRvx
import Derived.Test.YtlokcmbkkfjlkaaGreatDoorRpp
import Derived.Test.YtlokcmbkkfjlkaaGreatDoorRblk
import Derived.Test.YtlokcmbkkfjlkaaGreatDoorLrows
namespace Go.Proofs.YtlokcmbkkfjlkaaGreatDoor
open Go.RowKit
set_option linter.unusedVariables false
set_option linter.unusedSimpArgs false

/-- The block of the row of atoms that box b names. -/
def rowOf (w : World) (b : Nat) : Option Nat := match w.cell? ⟨b, 2, none⟩ with | some v => v.ownBlock | none => none
theorem rowOf_eq {w : World} {b : Nat} {V : Value} (h : w.cell? ⟨b, 2, none⟩ = some V) : rowOf w b = V.ownBlock := by unfold rowOf; rw [h]
/-- Only box b, its row of atoms and new blocks may have changed. -/
structure Kp (b : Nat) (w w' : World) : Prop where
  os : w'.os = w.os
  tape : w'.tape = w.tape
  output : w'.output = w.output
  size : w.heap.size ≤ w'.heap.size
  block : ∀ k, k < w.heap.size → k ≠ b → rowOf w b ≠ some k → w'.heap[k]? = w.heap[k]?
  row : ∀ k, rowOf w' b = some k → rowOf w b = some k ∨ w.heap.size ≤ k
theorem Kp.refl (b : Nat) (w : World) : Kp b w w := ⟨rfl, rfl, rfl, Nat.le_refl _, fun _ _ _ _ => rfl, fun _ h => .inl h⟩
theorem Kp.trans {b : Nat} {a w c : World} (h : Kp b a w) (k : Kp b w c) : Kp b a c := by
  refine ⟨k.os.trans h.os, k.tape.trans h.tape, k.output.trans h.output, Nat.le_trans h.size k.size, fun q h1 h2 h3 => ?_, fun q hq => ?_⟩
  · refine (k.block q (Nat.lt_of_lt_of_le h1 h.size) h2 (fun e => ?_)).trans (h.block q h1 h2 h3)
    rcases h.row q e with e | e
    · exact h3 e
    · omega
  · rcases k.row q hq with e | e
    · exact h.row q e
    · exact .inr (Nat.le_trans h.size e)
theorem Kp.up {b : Nat} {w w' : World} (hb : Below w.heap.size w w') (hlt : b < w.heap.size) : Kp b w w' := by
  have e : rowOf w' b = rowOf w b := by unfold rowOf; rw [cell_of_block (hb.block b hlt) 2]
  exact ⟨hb.os, hb.tape, hb.output, hb.size, fun k h _ _ => hb.block k h, fun k h => .inl (by rw [← e]; exact h)⟩
theorem Kp.set {b : Nat} {w : World} (o : Nat) (ho : o ≠ 2) (v : Value) : Kp b w (w.setCell ⟨b, o, none⟩ v) := by
  have e : rowOf (w.setCell ⟨b, o, none⟩ v) b = rowOf w b := by
    unfold rowOf
    rw [World.cell?_setCell_other _ _ _ _ (fun h => ho (congrArg Addr.off h))]
  exact ⟨rfl, rfl, rfl, by simp [World.setCell], fun k h1 h2 _ => block_set _ _ _ h2, fun k h => .inl (by rw [← e]; exact h)⟩
theorem Kp.set2 {b : Nat} {w : World} {V V' : Value} (h : w.cell? ⟨b, 2, none⟩ = some V) (hn : ∀ g, V'.ownBlock = some g → V.ownBlock = some g ∨ w.heap.size ≤ g) : Kp b w (w.setCell ⟨b, 2, none⟩ V') := by
  refine ⟨rfl, rfl, rfl, by simp [World.setCell], fun k h1 h2 _ => block_set _ _ _ h2, fun k hk => ?_⟩
  have e : rowOf (w.setCell ⟨b, 2, none⟩ V') b = V'.ownBlock := rowOf_eq (World.cell?_setCell_same _ _ _ h)
  rw [e] at hk
  rw [rowOf_eq h]
  exact hn k hk
/-- The parser in box b: the tokens that are left, the nodes that have begun, the atoms. -/
structure PsV (w : World) (b : Nat) (t : List T4) (n : Nat) (l : List A3) (V : Value) (tb tq c : Nat) : Prop where
  lt : b < w.heap.size
  c0 : w.cell? ⟨b, 0, none⟩ = some (.slice (some ⟨tb, tq, none⟩) t.length c)
  c1 : w.cell? ⟨b, 1, none⟩ = some (.int .i64 (n : Int))
  c2 : w.cell? ⟨b, 2, none⟩ = some V
  fz : ∀ o, w.frozen? ⟨b, o, none⟩ = false
  fit : t.length ≤ c
  tlt : tb < b
  tok : ∀ i, i < t.length → TZ w tb (tq + i * 4) (t.getD i default)
  own : OwnQ w (b + 1) V l
def Ps (w : World) (b : Nat) (t : List T4) (n : Nat) (l : List A3) : Prop := ∃ V tb tq c, PsV w b t n l V tb tq c
theorem TZ.of_block {w w' : World} {b o : Nat} {r : T4} (h : TZ w b o r) (hb : w'.heap[b]? = w.heap[b]?) : TZ w' b o r :=
  ⟨(cell_of_block hb _).trans h.1, (cell_of_block hb _).trans h.2.1, (cell_of_block hb _).trans h.2.2.1, (cell_of_block hb _).trans h.2.2.2⟩
theorem PsV.up {w w' : World} {b : Nat} {t : List T4} {n : Nat} {l : List A3} {V : Value} {tb tq c : Nat} (h : PsV w b t n l V tb tq c) (hb : Below w.heap.size w w') : PsV w' b t n l V tb tq c := by
  have e := hb.block b h.lt
  exact ⟨Nat.lt_of_lt_of_le h.lt hb.size, (cell_of_block e _).trans h.c0, (cell_of_block e _).trans h.c1, (cell_of_block e _).trans h.c2, fun o => (frozen_of_block e o).trans (h.fz o), h.fit, h.tlt,
    fun i hi => (h.tok i hi).of_block (hb.block tb (Nat.lt_trans h.tlt h.lt)), own_kept h.own (fun g hg => hb.block g (own_lt h.own hg).2)⟩
theorem Ps.up {w w' : World} {b : Nat} {t : List T4} {n : Nat} {l : List A3} (h : Ps w b t n l) (hb : Below w.heap.size w w') : Ps w' b t n l := by
  obtain ⟨V, tb, tq, c, h⟩ := h
  exact ⟨V, tb, tq, c, h.up hb⟩
theorem Ps.lt {w : World} {b : Nat} {t : List T4} {n : Nat} {l : List A3} (h : Ps w b t n l) : b < w.heap.size := by
  obtain ⟨V, tb, tq, c, h⟩ := h
  exact h.lt
theorem PsV.set1 {w : World} {b : Nat} {t : List T4} {n : Nat} {l : List A3} {V : Value} {tb tq c : Nat} (h : PsV w b t n l V tb tq c) (m : Nat) {v : Int} (hv : v = (m : Int)) : PsV (w.setCell ⟨b, 1, none⟩ (.int .i64 v)) b t m l V tb tq c := by
  subst hv
  obtain ⟨h0, h1, h2, h3, h4, h5, h6, h7, h8⟩ := h
  refine ⟨by simpa using h0, ?_, ?_, ?_, fun o => ?_, h5, h6, fun i hi => (h7 i hi).of_block (block_set _ _ _ (by omega)), own_kept h8 (fun g hg => block_set _ _ _ (by have := (own_lt h8 hg).1; omega))⟩ <;> simp [go_sem, h1, h2, h3, h4]
theorem PsV.adv {w : World} {b : Nat} {t : List T4} {n : Nat} {l : List A3} {V : Value} {tb tq c : Nat} (h : PsV w b t n l V tb tq c) (h1t : 1 < t.length) {m d : Nat} (hm : m = t.length - 1) (hd : d = c - 1) : PsV (w.setCell ⟨b, 0, none⟩ (.slice (some ⟨tb, tq + 4, none⟩) m d)) b t.tail n l V tb (tq + 4) d := by
  subst hm hd
  obtain ⟨h0, h1, h2, h3, h4, h5, h6, h7, h8⟩ := h
  have hl : t.tail.length = t.length - 1 := by simp
  refine ⟨by simpa using h0, ?_, ?_, ?_, fun o => ?_, by omega, h6, fun i hi => ?_, own_kept h8 (fun g hg => block_set _ _ _ (by have := (own_lt h8 hg).1; omega))⟩
  · rw [hl]; simp [go_sem, h1, h2, h3, h4]
  · simp [go_sem, h1, h2, h3, h4]
  · simp [go_sem, h1, h2, h3, h4]
  · simp [go_sem, h1, h2, h3, h4]
  · have := h7 (i + 1) (by omega)
    have e : t.tail.getD i default = t.getD (i + 1) default := by cases t with | nil => rfl | cons a r => rfl
    rw [e, show tq + 4 + i * 4 = tq + (i + 1) * 4 by omega]
    exact this.of_block (block_set _ _ _ (by omega))
theorem PsV.set2 {w : World} {b : Nat} {t : List T4} {n : Nat} {l : List A3} {V : Value} {tb tq c : Nat} (h : PsV w b t n l V tb tq c) {V' : Value} {l' : List A3} (ho : OwnQ w (b + 1) V' l') : PsV (w.setCell ⟨b, 2, none⟩ V') b t n l' V' tb tq c := by
  obtain ⟨h0, h1, h2, h3, h4, h5, h6, h7, h8⟩ := h
  refine ⟨by simpa using h0, ?_, ?_, ?_, fun o => ?_, h5, h6, fun i hi => (h7 i hi).of_block (block_set _ _ _ (by omega)), own_kept ho (fun g hg => block_set _ _ _ (by have := (own_lt ho hg).1; omega))⟩ <;> simp [go_sem, h1, h2, h3, h4]
/-- What a method that went well leaves: nothing below b has changed. -/
theorem Kp.below {b : Nat} {w w' : World} {t : List T4} {n : Nat} {l : List A3} (h : Kp b w w') (hp : Ps w b t n l) : Below b w w' := by
  obtain ⟨V, tb, tq, c, hp⟩ := hp
  refine ⟨h.os, h.tape, h.output, h.size, fun k hk => h.block k (Nat.lt_trans hk hp.lt) (by omega) (fun e => ?_)⟩
  rw [rowOf_eq hp.c2] at e
  have := (own_lt hp.own e).1
  omega
/-- Blocks that were made since, without the row of atoms. -/
def Nw (lo b : Nat) (w : World) : Nat → Prop := fun k => lo ≤ k ∧ k < w.heap.size ∧ rowOf w b ≠ some k
theorem TIn.kp {lo b : Nat} {w w' : World} {v : XV} {e : Ex} (hlo : b < lo) (h : TIn (Nw lo b w) w v e) (hk : Kp b w w') : TIn (Nw lo b w') w' v e :=
  h.of (fun k ⟨h1, h2, h3⟩ => ⟨h1, Nat.lt_of_lt_of_le h2 hk.size, fun e => by
    rcases hk.row k e with e | e
    · exact h3 e
    · omega⟩) (fun k ⟨h1, h2, h3⟩ _ => hk.block k h2 (by omega) h3) hk.size
theorem KRd.kp {lo b : Nat} {w w' : World} {A : Option Addr} {l : List Ex} (hlo : b < lo) (h : KRd (Nw lo b w) w A l) (hk : Kp b w w') : KRd (Nw lo b w') w' A l :=
  h.of (fun k ⟨h1, h2, h3⟩ => ⟨h1, Nat.lt_of_lt_of_le h2 hk.size, fun e => by
    rcases hk.row k e with e | e
    · exact h3 e
    · omega⟩) (fun k ⟨h1, h2, h3⟩ _ => hk.block k h2 (by omega) h3) hk.size
theorem Nw.mono {lo lo' b : Nat} {w : World} (h : lo' ≤ lo) (k : Nat) (hk : Nw lo b w k) : Nw lo' b w k := ⟨Nat.le_trans h hk.1, hk.2⟩
/-- A box of the call's own, beside the parser's. -/
def Bx (w : World) (b g : Nat) (cs : List Value) : Prop := Blk w g cs ∧ g ≠ b ∧ rowOf w b ≠ some g
theorem Bx.kp {w w' : World} {b g : Nat} {cs : List Value} (h : Bx w b g cs) (hk : Kp b w w') : Bx w' b g cs := by
  obtain ⟨h1, h2, h3⟩ := h
  refine ⟨h1.of (hk.block g h1.lt h2 h3), h2, fun e => ?_⟩
  rcases hk.row g e with e | e
  · exact h3 e
  · have := h1.lt; omega
theorem rowOf_lt {w : World} {b : Nat} {t : List T4} {n : Nat} {l : List A3} (h : Ps w b t n l) {k : Nat} (e : rowOf w b = some k) : b < k ∧ k < w.heap.size := by
  obtain ⟨V, tb, tq, c, hp⟩ := h
  rw [rowOf_eq hp.c2] at e
  have := own_lt hp.own e
  omega
theorem Bx.new {w : World} {b : Nat} {t : List T4} {n : Nat} {l : List A3} (h : Ps w b t n l) (cs : List Value) (T : TypeId) : Bx (w.alloc (.cells cs.toArray T)) b w.heap.size cs := by
  refine ⟨Blk.new w cs T rfl, by have := h.lt; omega, fun e => ?_⟩
  have := rowOf_lt (h.up (newB w (.cells cs.toArray T))) e
  have h2 : rowOf (w.alloc (.cells cs.toArray T)) b = rowOf w b := by unfold rowOf; rw [cell_of_block ((newB w _).block b h.lt) 2]
  rw [h2] at e
  have := (rowOf_lt h e).2
  omega
/-- The panic with which the parser stops. -/
abbrev Pan (p e : Int) : Ending := .panicked [{ v := .iface 66 (.agg #[.int .i64 p, .int .i64 e]), recovered := false }]
theorem fail_is (k : Int) (s : ByteArray) (n a e : Int) (w : World) : Calls Tryz.prog 89 #[tk k s n a, .int .i64 e] w fun x w' => x = Pan a e ∧ Below w.heap.size w w' := by
  go_enter Tryz.func89, Tryz.ntmps89
  go_wp2
  exact ⟨rfl, rfl, newB _ _⟩
end Go.Proofs.YtlokcmbkkfjlkaaGreatDoor
