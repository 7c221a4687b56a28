/- The reference's reader: kids under way. -/
import Derived.Test.YtlokcmbkkfjlkaaGreatDoorRqa
namespace Go.Proofs.YtlokcmbkkfjlkaaGreatDoor.Rdr
open Go.RowKit
set_option linter.unusedVariables false
set_option linter.unusedSimpArgs false

theorem rowOf_grown {w w' : World} {b : Nat} {r : Option Nat} (h : w.grownBy w' r) (hb : b < w.heap.size) (hr : r ≠ some b) : rowOf w' b = rowOf w b := by
  unfold rowOf
  rw [cell_of_block (h.block b hb (fun e => hr e.symm)) 3]
/-- A row that is not the reader's grows. -/
theorem Kp.grown {b : Nat} {a w w' : World} {r : Option Nat} (hk : Kp b a w) (hlt : b < w.heap.size) (hg : w.grownBy w' r) (hr : ∀ g, r = some g → a.heap.size ≤ g ∧ b < g) : Kp b a w' := by
  have hb : r ≠ some b := fun e => by have := (hr b e).2; omega
  have er := rowOf_grown hg hlt hb
  exact ⟨hg.os.trans hk.os, hg.tape.trans hk.tape, hg.output.trans hk.output, Nat.le_trans hk.size hg.size, fun k h1 h2 h3 => (hg.block k (Nat.lt_of_lt_of_le h1 hk.size) (fun e => by have := (hr k e.symm).1; omega)).trans (hk.block k h1 h2 h3), fun k h => hk.row k (by rw [← er]; exact h)⟩
theorem Ps.grown {b : Nat} {t : List T4} {n : Nat} {l : List A3} {w w' : World} {r : Option Nat} (h : Ps w b t n l) (hg : w.grownBy w' r) (hr : ∀ g, r = some g → b < g ∧ rowOf w b ≠ some g) : Ps w' b t n l := by
  obtain ⟨j, V, tb, tq, c, hp⟩ := h
  have hb : r ≠ some b := fun e => by have := (hr b e).1; omega
  have eb : w'.heap[b]? = w.heap[b]? := hg.block b hp.lt (fun e => hb e.symm)
  exact ⟨j, V, tb, tq, c, Nat.lt_of_lt_of_le hp.lt hg.size, (cell_of_block eb _).trans hp.c0, (cell_of_block eb _).trans hp.c1, (cell_of_block eb _).trans hp.c2, (cell_of_block eb _).trans hp.c3, (cell_of_block eb _).trans hp.c4, (cell_of_block eb _).trans hp.c5, fun o => (frozen_of_block eb o).trans (hp.fz o), hp.fit, hp.small, hp.nn, hp.tlt,
    fun i hi => (hp.tok i hi).of_block (hg.block tb (Nat.lt_trans hp.tlt hp.lt) (fun e => by have := (hr tb e.symm).1; have := hp.tlt; omega)), own_kept hp.own (fun q hq => hg.block q (own_lt hp.own hq).2 (fun e => (hr q e.symm).2 (by rw [rowOf_eq hp.c3]; exact hq))), hp.l8⟩
theorem RE.grown {b : Nat} {p e : Int} {w w' : World} {r : Option Nat} (h : RE w b p e) (hg : w.grownBy w' r) (hr : ∀ g, r = some g → b < g) : RE w' b p e :=
  h.of (hg.block b h.lt (fun e => by have := hr b e.symm; omega)) hg.size
theorem Bx.grown {b g : Nat} {cs : List Value} {w w' : World} {r : Option Nat} (h : Bx w b g cs) (hlt : b < w.heap.size) (hg : w.grownBy w' r) (hr : ∀ q, r = some q → b < q ∧ q ≠ g) : Bx w' b g cs := by
  have hb : r ≠ some b := fun e => by have := (hr b e).1; omega
  exact ⟨h.1.of (hg.block g h.1.lt (fun e => (hr g e.symm).2 rfl)), h.2.1, by rw [rowOf_grown hg hlt hb]; exact h.2.2⟩
/-- Kids that a call is collecting, in a row of its own (blocks from lo on), apart from box x. -/
structure KS (b lo x : Nat) (V : Value) (es : List Ex) (vs : List XV) (w : World) : Prop where
  own : OwnX w lo V vs
  len : vs.length = es.length
  apart : ∀ g, V.ownBlock = some g → rowOf w b ≠ some g ∧ g ≠ x
  tree : ∀ i, i < es.length → TIn (fun k => Nw lo b w k ∧ V.ownBlock ≠ some k ∧ k ≠ x) w (vs.getD i default) (es.getD i default)
theorem KS.kp {b lo x : Nat} {V : Value} {es : List Ex} {vs : List XV} {w w' : World} (h : KS b lo x V es vs w) (hk : Kp b w w') (hb : b < lo) : KS b lo x V es vs w' := by
  refine ⟨own_kept h.own (fun g hg => hk.block g (own_lt h.own hg).2 (by have := (own_lt h.own hg).1; omega) (h.apart g hg).1), h.len, fun g hg => ⟨fun e => ?_, (h.apart g hg).2⟩, fun i hi => ?_⟩
  · rcases hk.row g e with e | e
    · exact (h.apart g hg).1 e
    · have := (own_lt h.own hg).2; omega
  · refine (h.tree i hi).of (fun k ⟨⟨h1, h2, h3⟩, h4⟩ => ⟨⟨h1, Nat.lt_of_lt_of_le h2 hk.size, fun e => ?_⟩, h4⟩) (fun k ⟨⟨h1, h2, h3⟩, h4⟩ _ => hk.block k h2 (by omega) h3) hk.size
    rcases hk.row k e with e | e
    · exact h3 e
    · omega
theorem KS.app {b lo x : Nat} {V V' : Value} {es : List Ex} {vs : List XV} {w w' : World} {v : XV} {e : Ex} (h : KS b lo x V es vs w) (hb : b < lo) (hbw : b < w.heap.size) (hx : x < w.heap.size) (hrow : ∀ k, rowOf w b = some k → k < w.heap.size) (hlo : lo ≤ w.heap.size) (ho : OwnX w' lo V' (vs ++ [v])) (hg : w.grownBy w' V.ownBlock) (hn : V'.ownBlock = V.ownBlock ∨ V'.ownBlock = some w.heap.size)
    (ht : TIn (fun k => Nw lo b w k ∧ V.ownBlock ≠ some k ∧ k ≠ x) w v e) : KS b lo x V' (es ++ [e]) (vs ++ [v]) w' := by
  have hne : V.ownBlock ≠ some b := fun e => by have := (own_lt h.own e).1; omega
  have er := rowOf_grown hg hbw hne
  have tr : ∀ {u : XV} {y : Ex}, TIn (fun k => Nw lo b w k ∧ V.ownBlock ≠ some k ∧ k ≠ x) w u y → TIn (fun k => Nw lo b w' k ∧ V'.ownBlock ≠ some k ∧ k ≠ x) w' u y := fun hu =>
    hu.of (fun k ⟨⟨h1, h2, h3⟩, h4, h5⟩ => ⟨⟨h1, Nat.lt_of_lt_of_le h2 hg.size, by rw [er]; exact h3⟩, fun e => by
      rcases hn with h | h
      · exact h4 (by rw [← h]; exact e)
      · rw [h] at e; injection e with e; omega, h5⟩) (fun k ⟨⟨h1, h2, h3⟩, h4, h5⟩ _ => hg.block k h2 (fun e => h4 e.symm)) hg.size
  refine ⟨ho, by simp [h.len], fun g hg' => ⟨fun e => ?_, fun e => ?_⟩, fun i hi => ?_⟩
  · rw [er] at e
    rcases hn with h1 | h1
    · exact (h.apart g (by rw [← h1]; exact hg')).1 e
    · rw [h1] at hg'
      injection hg' with hg'
      have := hrow g e
      omega
  · rcases hn with h1 | h1
    · exact (h.apart g (by rw [← h1]; exact hg')).2 e
    · rw [h1] at hg'
      injection hg' with hg'
      omega
  · rcases Nat.lt_or_ge i es.length with h1 | h1
    · have e1 : (vs ++ [v]).getD i default = vs.getD i default := by simp [List.getD_eq_getElem?_getD, List.getElem?_append_left (show i < vs.length by rw [h.len]; exact h1)]
      have e2 : (es ++ [e]).getD i default = es.getD i default := by simp [List.getD_eq_getElem?_getD, List.getElem?_append_left h1]
      rw [e1, e2]
      exact tr (h.tree i h1)
    · obtain rfl : i = es.length := by simp at hi; omega
      have e1 : (vs ++ [v]).getD es.length default = v := by simp [List.getD_eq_getElem?_getD, ← h.len]
      have e2 : (es ++ [e]).getD es.length default = e := by simp [List.getD_eq_getElem?_getD]
      rw [e1, e2]
      exact tr ht
/-- A store into the box x. -/
theorem KS.set {b lo x : Nat} {V : Value} {es : List Ex} {vs : List XV} {w : World} (h : KS b lo x V es vs w) (hxb : x ≠ b) (o : Nat) (u : Value) : KS b lo x V es vs (w.setCell ⟨x, o, none⟩ u) := by
  refine ⟨own_kept h.own (fun q hq => block_set _ _ _ (h.apart q hq).2), h.len, fun q hq => by rw [rowOf_box hxb]; exact h.apart q hq, fun i hi => ?_⟩
  exact (h.tree i hi).of (fun k ⟨⟨h1, h2, h3⟩, h4⟩ => ⟨⟨h1, by simpa [World.setCell] using h2, by rw [rowOf_box hxb]; exact h3⟩, h4⟩) (fun k ⟨h1, h4, h5⟩ _ => block_set _ _ _ h5) (by simp [World.setCell])
theorem KS.fin {b lo x : Nat} {es : List Ex} {vs : List XV} {w : World} {A : Option Addr} {n c : Nat} (h : KS b lo x (.slice A n c) es vs w) : n = es.length ∧ n ≤ c ∧ c ≤ maxLen ∧ KRd (Nw lo b w) w A es := by
  obtain ⟨A', c', hV, hfit, hm, hrd, hg⟩ := h.own.form
  obtain ⟨rfl, rfl, rfl⟩ : A = A' ∧ n = vs.length ∧ c = c' := by simpa using hV
  refine ⟨h.len, hfit, hm, ?_⟩
  cases hes : es with
  | nil => exact .nil _
  | cons e0 r0 =>
    have h0 : 0 < vs.length := by rw [h.len, hes]; simp
    obtain ⟨g, rfl, hlo, hlt⟩ := hg h0
    obtain ⟨b', o', hA, hlt', hz⟩ := hrd (by intro e; rw [e] at h0; simp at h0)
    obtain ⟨rfl, rfl⟩ : g = b' ∧ 0 = o' := by simpa using hA
    rw [← hes]
    exact .row g 0 es vs ⟨hlo, hlt, (h.apart g rfl).1⟩ hlt h.len (fun i hi => hz i (by rw [h.len]; exact hi)) (fun i hi => (h.tree i hi).1) (fun i hi => ((h.tree i hi).mono (fun k hk => hk.1)).2)
/-- The first of the kids: a row of one, and the box behind it. -/
theorem KS.first {b lo : Nat} {w : World} {v : XV} {e : Ex} (T : TypeId) (hT : T = 28) (Y : Obj) (hb : b < w.heap.size) (hlo : lo ≤ w.heap.size) (hrow : ∀ k, rowOf w b = some k → k < w.heap.size) (ht : TIn (Nw lo b w) w v e) :
    KS b lo (w.heap.size + 1) (.slice (some ⟨w.heap.size, 0, none⟩) 1 1) [e] [v] ((w.alloc (.cells #[.int .i64 v.k, .string v.s, .int .i64 v.m, .int .i64 v.u, .slice v.A v.n v.c] T)).alloc Y) := by
  subst hT
  have hu := newB w (.cells #[.int .i64 v.k, .string v.s, .int .i64 v.m, .int .i64 v.u, .slice v.A v.n v.c] 28)
  have hu2 := nxA hu Y
  have hY := newB (w.alloc (.cells #[.int .i64 v.k, .string v.s, .int .i64 v.m, .int .i64 v.u, .slice v.A v.n v.c] 28)) Y
  have er : rowOf ((w.alloc (.cells #[.int .i64 v.k, .string v.s, .int .i64 v.m, .int .i64 v.u, .slice v.A v.n v.c] 28)).alloc Y) b = rowOf w b := by
    unfold rowOf
    rw [cell_of_block (hu2.block b hb) 3]
  refine ⟨own_kept (World.ownsRow_lit (base := lo) (e := 28) (size := 5) w #[.int .i64 v.k, .string v.s, .int .i64 v.m, .int .i64 v.u, .slice v.A v.n v.c] 1 hlo (by simp [maxLen]) (by simp)) (fun g hg => hY.block g (by simp only [Value.ownBlock, Option.some.injEq] at hg; simp; omega)), rfl, fun g hg => ⟨fun e => ?_, ?_⟩, fun i hi => ?_⟩
  · simp only [Value.ownBlock, Option.some.injEq] at hg
    rw [er] at e
    have := hrow g e
    omega
  · simp only [Value.ownBlock, Option.some.injEq] at hg
    omega
  · obtain rfl : i = 0 := by simpa using hi
    refine ht.of (fun k ⟨h1, h2, h3⟩ => ⟨⟨h1, by simp; omega, by rw [er]; exact h3⟩, by simp [Value.ownBlock]; omega, by omega⟩) (fun k ⟨h1, h2, h3⟩ _ => hu2.block k h2) hu2.size
/-- A tree made since w is one made since an earlier a, and lies apart from a row that was there. -/
theorem TIn.since {b lo x : Nat} {V : Value} {w W : World} {v : XV} {e : Ex} (h : TIn (Nw w.heap.size b W) W v e) (hlo : lo ≤ w.heap.size) (hx : x < w.heap.size) (hV : ∀ g, V.ownBlock = some g → g < w.heap.size) : TIn (fun k => Nw lo b W k ∧ V.ownBlock ≠ some k ∧ k ≠ x) W v e :=
  h.mono (fun k ⟨h1, h2, h3⟩ => ⟨⟨Nat.le_trans hlo h1, h2, h3⟩, fun e => by have := hV k e; omega, by omega⟩)
theorem TIn.upK {b lo x : Nat} {V : Value} {w w' : World} {v : XV} {e : Ex} (h : TIn (fun k => Nw lo b w k ∧ V.ownBlock ≠ some k ∧ k ≠ x) w v e) (hb : Below w.heap.size w w') (hlt : b < w.heap.size) : TIn (fun k => Nw lo b w' k ∧ V.ownBlock ≠ some k ∧ k ≠ x) w' v e := by
  have e2 : rowOf w' b = rowOf w b := by unfold rowOf; rw [cell_of_block (hb.block b hlt) 3]
  exact h.of (fun k ⟨⟨h1, h2, h3⟩, h4⟩ => ⟨⟨h1, Nat.lt_of_lt_of_le h2 hb.size, by rw [e2]; exact h3⟩, h4⟩) (fun k ⟨⟨h1, h2, h3⟩, h4⟩ _ => hb.block k h2) hb.size
theorem KRd.box {lo b g : Nat} {w : World} {A : Option Addr} {l : List Ex} (h : KRd (Nw lo b w) w A l) (hg : g < lo) (hb : g ≠ b) (o : Nat) (v : Value) : KRd (Nw lo b (w.setCell ⟨g, o, none⟩ v)) (w.setCell ⟨g, o, none⟩ v) A l :=
  h.of (fun k ⟨h1, h2, h3⟩ => ⟨h1, by simpa [World.setCell] using h2, by rw [rowOf_box hb]; exact h3⟩) (fun k ⟨h1, h2, h3⟩ _ => block_set _ _ _ (by omega)) (by simp [World.setCell])
theorem grp_tin {lo lo' b : Nat} {w : World} {A : Option Addr} {ks : List Ex} {k : Int} {nn c : Nat} (h : KRd (Nw lo b w) w A ks) (hlo : lo' ≤ lo) (hn : nn = ks.length) (hc : nn ≤ c) (hm : c ≤ maxLen) : TIn (Nw lo' b w) w ⟨k, ⟨#[]⟩, 0, 0, A, nn, c⟩ (.nd k z3 ks) :=
  ⟨⟨by unfold XV.ks Ex.ks; rw [hn]; rfl, hc, hm⟩, h.of (Nw.mono hlo) (fun _ _ _ => rfl) (Nat.le_refl _)⟩
/-- Five stores into a box of the call's own. -/
theorem St3.five {b : Nat} {t : List T4} {n : Nat} {l : List A3} {a : World} {g : Nat} {w : World} (h : St3 b t n l a g w) (v0 v1 v2 v3 v4 : Value) : Go1 b t n l a (((((w.setCell ⟨g, 0, none⟩ v0).setCell ⟨g, 1, none⟩ v1).setCell ⟨g, 2, none⟩ v2).setCell ⟨g, 3, none⟩ v3).setCell ⟨g, 4, none⟩ v4) :=
  (((((h.set 0 _).set 1 _).set 2 _).set 3 _).set 4 _).go
theorem KRd.five {lo b g : Nat} {w : World} {A : Option Addr} {l : List Ex} (h : KRd (Nw lo b w) w A l) (hg : g < lo) (hb : g ≠ b) (v0 v1 v2 v3 v4 : Value) :
    KRd (Nw lo b (((((w.setCell ⟨g, 0, none⟩ v0).setCell ⟨g, 1, none⟩ v1).setCell ⟨g, 2, none⟩ v2).setCell ⟨g, 3, none⟩ v3).setCell ⟨g, 4, none⟩ v4)) (((((w.setCell ⟨g, 0, none⟩ v0).setCell ⟨g, 1, none⟩ v1).setCell ⟨g, 2, none⟩ v2).setCell ⟨g, 3, none⟩ v3).setCell ⟨g, 4, none⟩ v4) A l :=
  KRd.box (KRd.box (KRd.box (KRd.box (KRd.box h hg hb 0 _) hg hb 1 _) hg hb 2 _) hg hb 3 _) hg hb 4 _
theorem TIn.five {lo b g : Nat} {w : World} {v : XV} {e : Ex} (h : TIn (Nw lo b w) w v e) (hg : g < lo) (hb : g ≠ b) (v0 v1 v2 v3 v4 : Value) :
    TIn (Nw lo b (((((w.setCell ⟨g, 0, none⟩ v0).setCell ⟨g, 1, none⟩ v1).setCell ⟨g, 2, none⟩ v2).setCell ⟨g, 3, none⟩ v3).setCell ⟨g, 4, none⟩ v4)) (((((w.setCell ⟨g, 0, none⟩ v0).setCell ⟨g, 1, none⟩ v1).setCell ⟨g, 2, none⟩ v2).setCell ⟨g, 3, none⟩ v3).setCell ⟨g, 4, none⟩ v4) v e := ⟨h.1, KRd.five h.2 hg hb v0 v1 v2 v3 v4⟩
end Go.Proofs.YtlokcmbkkfjlkaaGreatDoor.Rdr
