/- Kids under way: a row of the call's own and the trees that it holds. -/
import Derived.Test.YtlokcmbkkfjlkaaGreatDoorRam
import Derived.Test.YtlokcmbkkfjlkaaGreatDoorRsv
namespace Go.Proofs.YtlokcmbkkfjlkaaGreatDoor
open Go.RowKit
set_option linter.unusedVariables false

theorem rowOf_grown {w w' : World} {b : Nat} {r : Option Nat} (h : w.grownBy w' r) (hb : b < w.heap.size) (hr : r ≠ some b) : rowOf w' b = rowOf w b := by
  unfold rowOf
  rw [cell_of_block (h.block b hb (fun e => hr e.symm)) 2]
/-- A row that is not the parser's grows. -/
theorem Go1.grown {b : Nat} {t : List T4} {n : Nat} {l : List A3} {a w w' : World} {r : Option Nat} (h : Go1 b t n l a w) (hg : w.grownBy w' r) (hr : ∀ g, r = some g → a.heap.size ≤ g ∧ b < g ∧ rowOf w b ≠ some g) : Go1 b t n l a w' := by
  obtain ⟨⟨V, tb, tq, c, hp⟩, hk⟩ := h
  have hb : r ≠ some b := fun e => by have := (hr b e).2.1; omega
  have eb : w'.heap[b]? = w.heap[b]? := hg.block b hp.lt (fun e => hb e.symm)
  have er := rowOf_grown hg hp.lt hb
  refine ⟨⟨V, tb, tq, c, Nat.lt_of_lt_of_le hp.lt hg.size, (cell_of_block eb _).trans hp.c0, (cell_of_block eb _).trans hp.c1, (cell_of_block eb _).trans hp.c2, fun o => (frozen_of_block eb o).trans (hp.fz o), hp.fit, hp.tlt,
    fun i hi => (hp.tok i hi).of_block (hg.block tb (Nat.lt_trans hp.tlt hp.lt) (fun e => by have := (hr tb e.symm).2.1; have := hp.tlt; omega)), own_kept hp.own (fun q hq => hg.block q (own_lt hp.own hq).2 (fun e => (hr q e.symm).2.2 (by rw [rowOf_eq hp.c2]; exact hq)))⟩,
    ⟨hg.os.trans hk.os, hg.tape.trans hk.tape, hg.output.trans hk.output, Nat.le_trans hk.size hg.size, fun k h1 h2 h3 => (hg.block k (Nat.lt_of_lt_of_le h1 hk.size) (fun e => by have := (hr k e.symm).1; omega)).trans (hk.block k h1 h2 h3), fun k h => hk.row k (by rw [← er]; exact h)⟩⟩
/-- Kids that a call is collecting, in a row of its own (blocks from lo on). -/
structure KS (b lo : Nat) (V : Value) (es : List Ex) (vs : List XV) (w : World) : Prop where
  own : OwnX w lo V vs
  len : vs.length = es.length
  apart : ∀ g, V.ownBlock = some g → rowOf w b ≠ some g
  tree : ∀ i, i < es.length → TIn (fun k => Nw lo b w k ∧ V.ownBlock ≠ some k) w (vs.getD i default) (es.getD i default)
theorem KS.kp {b lo : Nat} {V : Value} {es : List Ex} {vs : List XV} {w w' : World} (h : KS b lo V es vs w) (hk : Kp b w w') (hb : b < lo) : KS b lo V es vs w' := by
  refine ⟨own_kept h.own (fun g hg => hk.block g (own_lt h.own hg).2 (by have := (own_lt h.own hg).1; omega) (h.apart g hg)), h.len, fun g hg e => ?_, fun i hi => ?_⟩
  · rcases hk.row g e with e | e
    · exact h.apart g hg e
    · have := (own_lt h.own hg).2; omega
  · refine (h.tree i hi).of (fun k ⟨⟨h1, h2, h3⟩, h4⟩ => ⟨⟨h1, Nat.lt_of_lt_of_le h2 hk.size, fun e => ?_⟩, h4⟩) (fun k ⟨⟨h1, h2, h3⟩, h4⟩ _ => hk.block k h2 (by omega) h3) hk.size
    rcases hk.row k e with e | e
    · exact h3 e
    · omega
theorem KS.app {b lo : Nat} {V V' : Value} {es : List Ex} {vs : List XV} {w w' : World} {v : XV} {e : Ex} (h : KS b lo V es vs w) (hb : b < lo) (hbw : b < w.heap.size) (hrow : ∀ k, rowOf w b = some k → k < w.heap.size) (hlo : lo ≤ w.heap.size) (ho : OwnX w' lo V' (vs ++ [v])) (hg : w.grownBy w' V.ownBlock) (hn : V'.ownBlock = V.ownBlock ∨ V'.ownBlock = some w.heap.size)
    (ht : TIn (fun k => Nw lo b w k ∧ V.ownBlock ≠ some k) w v e) : KS b lo V' (es ++ [e]) (vs ++ [v]) w' := by
  have hne : V.ownBlock ≠ some b := fun e => by have := (own_lt h.own e).1; omega
  have er := rowOf_grown hg hbw hne
  have tr : ∀ {u : XV} {x : Ex}, TIn (fun k => Nw lo b w k ∧ V.ownBlock ≠ some k) w u x → TIn (fun k => Nw lo b w' k ∧ V'.ownBlock ≠ some k) w' u x := fun hu =>
    hu.of (fun k ⟨⟨h1, h2, h3⟩, h4⟩ => ⟨⟨h1, Nat.lt_of_lt_of_le h2 hg.size, by rw [er]; exact h3⟩, fun e => by
      rcases hn with h | h
      · exact h4 (by rw [← h]; exact e)
      · rw [h] at e; injection e with e; omega⟩) (fun k ⟨⟨h1, h2, h3⟩, h4⟩ _ => hg.block k h2 (fun e => h4 e.symm)) hg.size
  refine ⟨ho, by simp [h.len], fun g hg' e => ?_, fun i hi => ?_⟩
  · rw [er] at e
    rcases hn with h1 | h1
    · exact h.apart g (by rw [← h1]; exact hg') e
    · rw [h1] at hg'
      injection hg' with hg'
      have := hrow g e
      omega
  · rcases Nat.lt_or_ge i es.length with h1 | h1
    · have e1 : (vs ++ [v]).getD i default = vs.getD i default := by simp [List.getD_eq_getElem?_getD, List.getElem?_append_left (show i < vs.length by rw [h.len]; exact h1)]
      have e2 : (es ++ [e]).getD i default = es.getD i default := by simp [List.getD_eq_getElem?_getD, List.getElem?_append_left h1]
      rw [e1, e2]
      exact tr (h.tree i h1)
    · obtain rfl : i = es.length := by simp at hi; omega
      have e1 : (vs ++ [v]).getD es.length default = v := by simp [List.getD_eq_getElem?_getD, ← h.len]
      have e2 : (es ++ [e]).getD es.length default = e := by simp [List.getD_eq_getElem?_getD]
      rw [e1, e2]
      exact tr ht
theorem KS.nil (b lo : Nat) (w : World) : KS b lo (.slice none 0 0) [] [] w := ⟨OwnX.nil _ _, rfl, fun g h => by simp [Value.ownBlock] at h, fun i hi => by simp at hi⟩
theorem KS.fin {b lo : Nat} {es : List Ex} {vs : List XV} {w : World} {A : Option Addr} {n c : Nat} (h : KS b lo (.slice A n c) es vs w) : n = es.length ∧ n ≤ c ∧ c ≤ maxLen ∧ KRd (Nw lo b w) w A es := by
  obtain ⟨A', c', hV, hfit, hm, hrd, hg⟩ := h.own.form
  obtain ⟨rfl, rfl, rfl⟩ : A = A' ∧ n = vs.length ∧ c = c' := by simpa using hV
  refine ⟨h.len, hfit, hm, ?_⟩
  cases hes : es with
  | nil => exact .nil _
  | cons e0 r0 =>
    have h0 : 0 < vs.length := by rw [h.len, hes]; simp
    obtain ⟨g, rfl, hlo, hlt⟩ := hg h0
    obtain ⟨b', o', hA, hlt', hz⟩ := hrd (by intro e; rw [e] at h0; simp at h0)
    obtain ⟨rfl, rfl⟩ : g = b' ∧ 0 = o' := by simpa using hA
    rw [← hes]
    exact .row g 0 es vs ⟨hlo, hlt, h.apart g rfl⟩ hlt h.len (fun i hi => hz i (by rw [h.len]; exact hi)) (fun i hi => (h.tree i hi).1) (fun i hi => ((h.tree i hi).mono (fun k hk => hk.1)).2)
/-- The first of the kids: a row of one. -/
theorem KS.first {b lo : Nat} {w : World} {v : XV} {e : Ex} (T : TypeId) (hT : T = 28) (hb : b < w.heap.size) (hlo : lo ≤ w.heap.size) (hrow : ∀ k, rowOf w b = some k → k < w.heap.size) (ht : TIn (Nw lo b w) w v e) :
    KS b lo (.slice (some ⟨w.heap.size, 0, none⟩) 1 1) [e] [v] (w.alloc (.cells #[.int .i64 v.k, .string v.s, .int .i64 v.m, .int .i64 v.u, .slice v.A v.n v.c] T)) := by
  subst hT
  have hu := newB w (.cells #[.int .i64 v.k, .string v.s, .int .i64 v.m, .int .i64 v.u, .slice v.A v.n v.c] 28)
  have er : rowOf (w.alloc (.cells #[.int .i64 v.k, .string v.s, .int .i64 v.m, .int .i64 v.u, .slice v.A v.n v.c] 28)) b = rowOf w b := by
    unfold rowOf
    rw [cell_of_block (hu.block b hb) 2]
  refine ⟨?_, rfl, fun g hg e => ?_, fun i hi => ?_⟩
  · exact World.ownsRow_lit (base := lo) (e := 28) (size := 5) w #[.int .i64 v.k, .string v.s, .int .i64 v.m, .int .i64 v.u, .slice v.A v.n v.c] 1 hlo (by simp [maxLen]) (by simp)
  · simp only [Value.ownBlock, Option.some.injEq] at hg
    rw [er] at e
    have := hrow g e
    omega
  · obtain rfl : i = 0 := by simpa using hi
    refine ht.of (fun k ⟨h1, h2, h3⟩ => ⟨⟨h1, by simp; omega, by rw [er]; exact h3⟩, by simp [Value.ownBlock]; omega⟩) (fun k ⟨h1, h2, h3⟩ _ => hu.block k h2) hu.size
end Go.Proofs.YtlokcmbkkfjlkaaGreatDoor
