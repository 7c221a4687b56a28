/- Kids under way: a row of the call's own and the trees that it holds. Contract: the parser's list, if that of expr holds at smaller numbers. Contracts: the parser's counted and expr. Contract: the parser's expr. -/
import Derived.Test.YtlokcmbkkfjlkaaGreatDoorRpm
import Derived.Test.YtlokcmbkkfjlkaaGreatDoorRsv
import Derived.Test.YtlokcmbkkfjlkaaGreatDoorRat
namespace Go.Proofs.YtlokcmbkkfjlkaaGreatDoor
open Go.RowKit
set_option linter.unusedVariables false

theorem rowOf_grown {w w' : World} {b : Nat} {r : Option Nat} (h : w.grownBy w' r) (hb : b < w.heap.size) (hr : r ≠ some b) : rowOf w' b = rowOf w b := by
  unfold rowOf
  rw [cell_of_block (h.block b hb (fun e => hr e.symm)) 2]
/-- A row that is not the parser's grows. -/
theorem Go1.grown {b : Nat} {t : List T4} {n : Nat} {l : List A3} {a w w' : World} {r : Option Nat} (h : Go1 b t n l a w) (hg : w.grownBy w' r) (hr : ∀ g, r = some g → a.heap.size ≤ g ∧ b < g ∧ rowOf w b ≠ some g) : Go1 b t n l a w' := by
  obtain ⟨⟨V, tb, tq, c, hp⟩, hk⟩ := h
  have hb : r ≠ some b := fun e => by have := (hr b e).2.1; omega
  have eb : w'.heap[b]? = w.heap[b]? := hg.block b hp.lt (fun e => hb e.symm)
  have er := rowOf_grown hg hp.lt hb
  refine ⟨⟨V, tb, tq, c, Nat.lt_of_lt_of_le hp.lt hg.size, (cell_of_block eb _).trans hp.c0, (cell_of_block eb _).trans hp.c1, (cell_of_block eb _).trans hp.c2, fun o => (frozen_of_block eb o).trans (hp.fz o), hp.fit, hp.tlt,
    fun i hi => (hp.tok i hi).of_block (hg.block tb (Nat.lt_trans hp.tlt hp.lt) (fun e => by have := (hr tb e.symm).2.1; have := hp.tlt; omega)), own_kept hp.own (fun q hq => hg.block q (own_lt hp.own hq).2 (fun e => (hr q e.symm).2.2 (by rw [rowOf_eq hp.c2]; exact hq)))⟩,
    ⟨hg.os.trans hk.os, hg.tape.trans hk.tape, hg.output.trans hk.output, Nat.le_trans hk.size hg.size, fun k h1 h2 h3 => (hg.block k (Nat.lt_of_lt_of_le h1 hk.size) (fun e => by have := (hr k e.symm).1; omega)).trans (hk.block k h1 h2 h3), fun k h => hk.row k (by rw [← er]; exact h)⟩⟩
/-- Kids that a call is collecting, in a row of its own (blocks from lo on). -/
structure KS (b lo : Nat) (V : Value) (es : List Ex) (vs : List XV) (w : World) : Prop where
  own : OwnX w lo V vs
  len : vs.length = es.length
  apart : ∀ g, V.ownBlock = some g → rowOf w b ≠ some g
  tree : ∀ i, i < es.length → TIn (fun k => Nw lo b w k ∧ V.ownBlock ≠ some k) w (vs.getD i default) (es.getD i default)
theorem KS.kp {b lo : Nat} {V : Value} {es : List Ex} {vs : List XV} {w w' : World} (h : KS b lo V es vs w) (hk : Kp b w w') (hb : b < lo) : KS b lo V es vs w' := by
  refine ⟨own_kept h.own (fun g hg => hk.block g (own_lt h.own hg).2 (by have := (own_lt h.own hg).1; omega) (h.apart g hg)), h.len, fun g hg e => ?_, fun i hi => ?_⟩
  · rcases hk.row g e with e | e
    · exact h.apart g hg e
    · have := (own_lt h.own hg).2; omega
  · refine (h.tree i hi).of (fun k ⟨⟨h1, h2, h3⟩, h4⟩ => ⟨⟨h1, Nat.lt_of_lt_of_le h2 hk.size, fun e => ?_⟩, h4⟩) (fun k ⟨⟨h1, h2, h3⟩, h4⟩ _ => hk.block k h2 (by omega) h3) hk.size
    rcases hk.row k e with e | e
    · exact h3 e
    · omega
theorem KS.app {b lo : Nat} {V V' : Value} {es : List Ex} {vs : List XV} {w w' : World} {v : XV} {e : Ex} (h : KS b lo V es vs w) (hb : b < lo) (hbw : b < w.heap.size) (hrow : ∀ k, rowOf w b = some k → k < w.heap.size) (hlo : lo ≤ w.heap.size) (ho : OwnX w' lo V' (vs ++ [v])) (hg : w.grownBy w' V.ownBlock) (hn : V'.ownBlock = V.ownBlock ∨ V'.ownBlock = some w.heap.size)
    (ht : TIn (fun k => Nw lo b w k ∧ V.ownBlock ≠ some k) w v e) : KS b lo V' (es ++ [e]) (vs ++ [v]) w' := by
  have hne : V.ownBlock ≠ some b := fun e => by have := (own_lt h.own e).1; omega
  have er := rowOf_grown hg hbw hne
  have tr : ∀ {u : XV} {x : Ex}, TIn (fun k => Nw lo b w k ∧ V.ownBlock ≠ some k) w u x → TIn (fun k => Nw lo b w' k ∧ V'.ownBlock ≠ some k) w' u x := fun hu =>
    hu.of (fun k ⟨⟨h1, h2, h3⟩, h4⟩ => ⟨⟨h1, Nat.lt_of_lt_of_le h2 hg.size, by rw [er]; exact h3⟩, fun e => by
      rcases hn with h | h
      · exact h4 (by rw [← h]; exact e)
      · rw [h] at e; injection e with e; omega⟩) (fun k ⟨⟨h1, h2, h3⟩, h4⟩ _ => hg.block k h2 (fun e => h4 e.symm)) hg.size
  refine ⟨ho, by simp [h.len], fun g hg' e => ?_, fun i hi => ?_⟩
  · rw [er] at e
    rcases hn with h1 | h1
    · exact h.apart g (by rw [← h1]; exact hg') e
    · rw [h1] at hg'
      injection hg' with hg'
      have := hrow g e
      omega
  · rcases Nat.lt_or_ge i es.length with h1 | h1
    · have e1 : (vs ++ [v]).getD i default = vs.getD i default := by simp [List.getD_eq_getElem?_getD, List.getElem?_append_left (show i < vs.length by rw [h.len]; exact h1)]
      have e2 : (es ++ [e]).getD i default = es.getD i default := by simp [List.getD_eq_getElem?_getD, List.getElem?_append_left h1]
      rw [e1, e2]
      exact tr (h.tree i h1)
    · obtain rfl : i = es.length := by simp at hi; omega
      have e1 : (vs ++ [v]).getD es.length default = v := by simp [List.getD_eq_getElem?_getD, ← h.len]
      have e2 : (es ++ [e]).getD es.length default = e := by simp [List.getD_eq_getElem?_getD]
      rw [e1, e2]
      exact tr ht
theorem KS.nil (b lo : Nat) (w : World) : KS b lo (.slice none 0 0) [] [] w := ⟨OwnX.nil _ _, rfl, fun g h => by simp [Value.ownBlock] at h, fun i hi => by simp at hi⟩
theorem KS.fin {b lo : Nat} {es : List Ex} {vs : List XV} {w : World} {A : Option Addr} {n c : Nat} (h : KS b lo (.slice A n c) es vs w) : n = es.length ∧ n ≤ c ∧ c ≤ maxLen ∧ KRd (Nw lo b w) w A es := by
  obtain ⟨A', c', hV, hfit, hm, hrd, hg⟩ := h.own.form
  obtain ⟨rfl, rfl, rfl⟩ : A = A' ∧ n = vs.length ∧ c = c' := by simpa using hV
  refine ⟨h.len, hfit, hm, ?_⟩
  cases hes : es with
  | nil => exact .nil _
  | cons e0 r0 =>
    have h0 : 0 < vs.length := by rw [h.len, hes]; simp
    obtain ⟨g, rfl, hlo, hlt⟩ := hg h0
    obtain ⟨b', o', hA, hlt', hz⟩ := hrd (by intro e; rw [e] at h0; simp at h0)
    obtain ⟨rfl, rfl⟩ : g = b' ∧ 0 = o' := by simpa using hA
    rw [← hes]
    exact .row g 0 es vs ⟨hlo, hlt, h.apart g rfl⟩ hlt h.len (fun i hi => hz i (by rw [h.len]; exact hi)) (fun i hi => (h.tree i hi).1) (fun i hi => ((h.tree i hi).mono (fun k hk => hk.1)).2)
/-- The first of the kids: a row of one. -/
theorem KS.first {b lo : Nat} {w : World} {v : XV} {e : Ex} (T : TypeId) (hT : T = 28) (hb : b < w.heap.size) (hlo : lo ≤ w.heap.size) (hrow : ∀ k, rowOf w b = some k → k < w.heap.size) (ht : TIn (Nw lo b w) w v e) :
    KS b lo (.slice (some ⟨w.heap.size, 0, none⟩) 1 1) [e] [v] (w.alloc (.cells #[.int .i64 v.k, .string v.s, .int .i64 v.m, .int .i64 v.u, .slice v.A v.n v.c] T)) := by
  subst hT
  have hu := newB w (.cells #[.int .i64 v.k, .string v.s, .int .i64 v.m, .int .i64 v.u, .slice v.A v.n v.c] 28)
  have er : rowOf (w.alloc (.cells #[.int .i64 v.k, .string v.s, .int .i64 v.m, .int .i64 v.u, .slice v.A v.n v.c] 28)) b = rowOf w b := by
    unfold rowOf
    rw [cell_of_block (hu.block b hb) 2]
  refine ⟨?_, rfl, fun g hg e => ?_, fun i hi => ?_⟩
  · exact World.ownsRow_lit (base := lo) (e := 28) (size := 5) w #[.int .i64 v.k, .string v.s, .int .i64 v.m, .int .i64 v.u, .slice v.A v.n v.c] 1 hlo (by simp [maxLen]) (by simp)
  · simp only [Value.ownBlock, Option.some.injEq] at hg
    rw [er] at e
    have := hrow g e
    omega
  · obtain rfl : i = 0 := by simpa using hi
    refine ht.of (fun k ⟨h1, h2, h3⟩ => ⟨⟨h1, by simp; omega, by rw [er]; exact h3⟩, by simp [Value.ownBlock]; omega⟩) (fun k ⟨h1, h2, h3⟩ _ => hu.block k h2) hu.size
end Go.Proofs.YtlokcmbkkfjlkaaGreatDoor

namespace Go.Proofs.YtlokcmbkkfjlkaaGreatDoor
open Go.RowKit
set_option linter.unusedVariables false
set_option linter.unusedSimpArgs false

/-- What expr does, where so much is left to be read. -/
def EC (f : Nat) : Prop := ∀ (b : Nat) (t : List T4) (n : Nat) (l : List A3) (d : Nat) (D : Int) (w : World), Ps w b t n l → WT t → n ≤ 24 → l.length ≤ 8 → t.length < f → d ≤ 5 → Hid (D = (d : Int)) →
  Calls Tryz.prog 56 #[.pointer (some ⟨b, 0, none⟩), .int .i64 D] w (ExP b (pE f d t n l) w)
def LsP (b : Nat) (r : PR (List Ex)) (w : World) (e : Ending) (w' : World) : Prop :=
  match r with
  | .ok ks t' n' l' => (∃ A nn c, e = .returned (.slice A nn c) ∧ nn = ks.length ∧ nn ≤ c ∧ c ≤ maxLen ∧ KRd (Nw w.heap.size b w') w' A ks) ∧ Go1 b t' n' l' w w'
  | .no p x => e = Pan p x ∧ Below b w w'
/-- How many tokens the box has left. -/
def tkn (w : World) (b : Nat) : Nat := match w.cell? ⟨b, 0, none⟩ with | some (.slice _ n _) => n | _ => 0
theorem Ps.tkn {w : World} {b : Nat} {t : List T4} {n : Nat} {l : List A3} (h : Ps w b t n l) : tkn w b = t.length := by
  obtain ⟨V, tb, tq, c, h⟩ := h
  unfold Go.Proofs.YtlokcmbkkfjlkaaGreatDoor.tkn
  rw [h.c0]
theorem app_expr {w : World} {ops : Array Oper} {rest : List Oper} {o : Oper} {a : Act} {Q : Exit → Act → World → Prop} (hgd : Region.wanted o (yielded ops a.tmps) = true) (s y : Operand)
    (ho : o.op = .call { callee := .builtin .append, args := #[s, y], argTypes := #[26, 26] })
    (base : Nat) (V : Value) (xs : List XV) (A : Option Addr) (ys : List XV) (n c : Nat) (hn : Hid (ys.length = n)) (hv : a.eval s = V) (hx : a.eval y = .slice A n c)
    (hd : OwnX w base V xs) (hs : XRd w A ys) (hlen : Hid (xs.length + n ≤ 1000000)) (hbase : base ≤ w.heap.size)
    (h : ∀ V' w', OwnX w' base V' (xs ++ ys) → w.grownBy w' V.ownBlock → (V'.ownBlock = V.ownBlock ∨ V'.ownBlock = some w.heap.size) → wpList Tryz.prog ops Q rest (a.put o.dst V') w') :
    wpList Tryz.prog ops Q (o :: rest) a w := by
  have hn' := hn.out
  subst hn'
  obtain ⟨i0, hi, hz0, hz1, hz2⟩ := info_parts expr_info
  have hl := hlen.out
  refine wpList_app w hgd s y 26 26 ho base 28 i0 _ 5 64 Tryz.underlying26 hi hz0 hz1 hz2 rfl V xs.length (xvs xs) _ ys.length (xvs ys) hv hx (.inl hd)
    (Src.exprs Tryz.underlying26 c hs) (by simp only [maxLen]; omega) (fits_half (by omega)) hbase (fun V' w' h1 h2 h3 h4 => h V' w' ?_ (h3 hd) h4)
  unfold OwnX
  rw [List.length_append, xvs_append]
  exact h1
theorem vld_len : ∀ (x : List Ex) (l m : List A3), l.length ≤ 8 → vld x l = some m → m.length ≤ 8
  | [], l, m, h, hv => by simp only [vld, Option.some.injEq] at hv; subst hv; exact h
  | e :: x, l, m, h, hv => by
    rw [vld] at hv
    split at hv
    · exact vld_len x l m h hv
    · split at hv
      · split at hv
        · rename_i h0
          exact vld_len x _ m (incl_len h h0) hv
        · cases hv
      · cases hv
theorem WT.pos {t : List T4} (h : WT t) : 0 < t.length := by
  have := h.ne
  cases t with
  | nil => exact absurd rfl this
  | cons a r => simp
theorem Go1.trans {b : Nat} {t t' : List T4} {n n' : Nat} {l l' : List A3} {a w c : World} (h : Go1 b t n l a w) (k : Go1 b t' n' l' w c) : Go1 b t' n' l' a c := ⟨k.1, h.2.trans k.2⟩
theorem Go1.up {b : Nat} {t : List T4} {n : Nat} {l : List A3} {a w w' : World} (h : Go1 b t n l a w) (hb : Below w.heap.size w w') : Go1 b t n l a w' := ⟨h.1.up hb, h.2.trans (Kp.up hb h.1.lt)⟩
/-- A tree made since w is one made since an earlier a, and lies apart from a row that was there. -/
theorem TIn.since {b lo : Nat} {V : Value} {w W : World} {v : XV} {e : Ex} (h : TIn (Nw w.heap.size b W) W v e) (hlo : lo ≤ w.heap.size) (hV : ∀ g, V.ownBlock = some g → g < w.heap.size) : TIn (fun k => Nw lo b W k ∧ V.ownBlock ≠ some k) W v e :=
  h.mono (fun k ⟨h1, h2, h3⟩ => ⟨⟨Nat.le_trans hlo h1, h2, h3⟩, fun e => by have := hV k e; omega⟩)
theorem TIn.upK {b lo : Nat} {V : Value} {w w' : World} {v : XV} {e : Ex} (h : TIn (fun k => Nw lo b w k ∧ V.ownBlock ≠ some k) w v e) (hb : Below w.heap.size w w') (hlt : b < w.heap.size) : TIn (fun k => Nw lo b w' k ∧ V.ownBlock ≠ some k) w' v e := by
  have e2 : rowOf w' b = rowOf w b := by unfold rowOf; rw [cell_of_block (hb.block b hlt) 2]
  exact h.of (fun k ⟨⟨h1, h2, h3⟩, h4⟩ => ⟨⟨h1, Nat.lt_of_lt_of_le h2 hb.size, by rw [e2]; exact h3⟩, h4⟩) (fun k ⟨⟨h1, h2, h3⟩, h4⟩ _ => hb.block k h2) hb.size
set_option maxHeartbeats 8000000 in
set_option maxRecDepth 100000 in
theorem list_is (f : Nat) (ih : ∀ g, g < f → EC g) (b : Nat) (t : List T4) (n : Nat) (l : List A3) (d : Nat) (w : World) (hp : Ps w b t n l) (hw : WT t) (hn : n ≤ 24) (h8 : l.length ≤ 8) (hf : t.length < f) (hd4 : d ≤ 4) :
    Calls Tryz.prog 86 #[.pointer (some ⟨b, 0, none⟩), .int .i64 (d : Int)] w (LsP b (pK f d t n l) w) := by
  obtain ⟨g, rfl⟩ : ∃ g, f = g + 1 := ⟨f - 1, by omega⟩
  have HP := Lib.hid hp
  have hbg := Lib.hid hp.lt
  have h0 := Lib.hid hw.pos
  have IH : Hid (∀ g', g' < g + 1 → EC g') := ih
  have e6 : IntKind.i64.wrap ((d : Int) + 1) = (d : Int) + 1 := by rw [IntKind.wrap_i64]; omega
  have hD : Hid ((d : Int) + 1 = ((d + 1 : Nat) : Int)) := rfl
  obtain ⟨R, hR⟩ : ∃ R, Hid (pK (g + 1) d t n l = R) := ⟨_, rfl⟩
  rw [hR.out]
  clear hp ih
  by_cases ho : (hd t).2.1 = wOpen
  · obtain ⟨_, w2, w3, w4⟩ := hw.punc (by rw [ho]; exact wOpen_p)
    have ho1 := Lib.hid ho
    have H4 := Lib.hid w4
    have HW2 := Lib.hid w2
    have hg : t.tail.length < g := by omega
    have CE := fun W (hW : Ps W b t.tail n l) => IH.out g (Nat.lt_succ_self g) b t.tail n l (d + 1) _ W hW w2 hn h8 hg (by omega) hD
    have HCE := Lib.hid CE
    clear CE
    cases he : pE g (d + 1) t.tail n l with
    | no pe xe0 =>
      rw [he] at HCE
      have hend : Hid (R = .no pe xe0) := by show _ = _; rw [← hR.out, pK, if_pos ho, he]
      clear he ho w2 w3 w4 hR hw hn h8 hf hg
      go_enter Tryz.func86, Tryz.ntmps86
      go_wp2_with (first
        | (go_at_call 109; refine (must_yes b t n l wOpen _ HP.out H4.out ho1).mono ?_; rintro e W1 ⟨rfl, hs1, hk1⟩; have HS1 := Lib.hid hs1; have HK1 := Lib.hid hk1; clear hs1 hk1)
        | (go_at_call 56; refine (HCE.out _ HS1.out).mono ?_; rintro e W2 ⟨rfl, hb2⟩; have HB2 := Lib.hid ((HK1.out.below HP.out).trans hb2); clear hb2))
      have e9 := hend.out
      subst e9
      exact ⟨rfl, rfl, HB2.out⟩
    | ok x t1 n1 l1 =>
      rw [he] at HCE
      obtain ⟨p1, p2, p3, p4, p5, p6⟩ := pE_ok w2 he
      have hR2 : Hid (pM g d [x] t1 n1 l1 = R) := by show _ = _; rw [← hR.out, pK, if_pos ho, he]
      have HWT := Lib.hid p1
      have hl1 := Lib.hid (vld_len _ _ _ h8 p6)
      have hc1 := cnt_pos x
      have hlen1 : Hid (([x] : List Ex).length ≤ n1) := by show _ ≤ _; simp; omega
      have hg2 : t1.length < g := by omega
      clear he ho w2 w3 w4 hR hw hn h8 hf hg p1 p2 p3 p5 p6 hc1
      go_enter Tryz.func86, Tryz.ntmps86
      go_wp2_with (first
        | (go_at_call 109; refine (must_yes b t n l wOpen _ HP.out H4.out ho1).mono ?_; rintro e W1 ⟨rfl, hs1, hk1⟩; have HS1 := Lib.hid hs1; have HK1 := Lib.hid hk1; clear hs1 hk1)
        | (go_at_call 56; refine (HCE.out _ HS1.out).mono ?_; rintro e W2 ⟨⟨k2, s2, m2, u2, A2, nn2, c2, rfl, ht2⟩, hg2⟩; have HG2 : Hid (Go1 b t1 n1 l1 w W2) := ⟨hg2.1, HK1.out.trans hg2.2⟩; have HT2 : Hid (TIn (Nw w.heap.size b W2) W2 ⟨k2, s2, m2, u2, A2, nn2, c2⟩ x) := ht2.mono (Nw.mono HK1.out.size); clear hg2 ht2))
      have hfst := KS.first (b := b) (lo := w.heap.size) (w := W2) (v := ⟨k2, s2, m2, u2, A2, nn2, c2⟩) (e := x) 28 rfl HG2.out.1.lt HG2.out.2.size (fun k h => (rowOf_lt HG2.out.1 h).2) HT2.out
      have HK0 := Lib.hid hfst
      have HG3 := Lib.hid (HG2.out.up (newB W2 (.cells #[.int .i64 k2, .string s2, .int .i64 m2, .int .i64 u2, .slice A2 nn2 c2] 28)))
      clear hfst
      go_loopw [5] (fun a wr => ∃ (f' : Nat) (es : List Ex) (vs : List XV) (t1 : List T4) (n1 : Nat) (l1 : List A3) (A : Option Addr) (nn c : Nat), a = .slice A nn c ∧ Hid (pM f' d es t1 n1 l1 = R) ∧ Hid (Go1 b t1 n1 l1 w wr) ∧ Hid (KS b w.heap.size (.slice A nn c) es vs wr) ∧ Hid (WT t1) ∧ t1.length < f' ∧ f' ≤ g ∧ n1 ≤ 24 ∧ Hid (l1.length ≤ 8) ∧ Hid (es.length ≤ n1)) (fun _ wr => tkn wr b)
      case atStart => exact ⟨g, [x], [⟨k2, s2, m2, u2, A2, nn2, c2⟩], t1, n1, l1, _, 1, 1, rfl, hR2, HG3.out, HK0.out, HWT.out, hg2, Nat.le_refl _, by omega, hl1.out, hlen1.out⟩
      case round =>
        obtain ⟨f', es, vs, t1, n1, l1, A, nn, c, rfl, hM, hG, hK, hW, hf', hfg, hn24, hl8, hesn⟩ := hrel
        obtain ⟨f2, rfl⟩ : ∃ f2, f' = f2 + 1 := ⟨f' - 1, by omega⟩
        have hwt := hW.out
        have hpos := Lib.hid hwt.pos
        by_cases hc : (hd t1).2.1 = wCom
        · obtain ⟨_, w2, w3, w4⟩ := hwt.punc (by rw [hc]; exact wCom_p)
          have hc1 := Lib.hid hc
          have H5 := Lib.hid w4
          have CE2 := fun W (hW : Ps W b t1.tail n1 l1) => IH.out f2 (by omega) b t1.tail n1 l1 (d + 1) _ W hW w2 hn24 hl8.out (by omega) (by omega) hD
          have HCE2 := Lib.hid CE2
          clear CE2
          cases he : pE f2 (d + 1) t1.tail n1 l1 with
          | no pe xe0 =>
            rw [he] at HCE2
            have hend : Hid (R = .no pe xe0) := by show _ = _; rw [← hM.out, pM, if_pos hc, he]
            clear he hc w2 w3 w4 hwt hM
            go_wp2_with (first
              | (go_at_call 85; refine (skip_yes b t1 n1 l1 wCom _ hG.out.1 H5.out hc1).mono ?_; rintro e W3 ⟨rfl, hs3, hk3⟩; have HS3 := Lib.hid hs3; have HK3 := Lib.hid (hG.out.2.trans hk3); clear hs3 hk3)
              | (go_at_call 56; refine (HCE2.out _ HS3.out).mono ?_; rintro e W4 ⟨rfl, hb4⟩; have HB4 := Lib.hid ((HK3.out.below HP.out).trans hb4); clear hb4))
            have e9 := hend.out
            subst e9
            exact ⟨rfl, rfl, HB4.out⟩
          | ok x2 t2 n2 l2 =>
            rw [he] at HCE2
            obtain ⟨p1, p2, p3, p4, p5, p6⟩ := pE_ok w2 he
            have hM2 : Hid (pM f2 d (es ++ [x2]) t2 n2 l2 = R) := by show _ = _; rw [← hM.out, pM, if_pos hc, he]
            have HWT2 := Lib.hid p1
            have hl2 := Lib.hid (vld_len _ _ _ hl8.out p6)
            have hcp := cnt_pos x2
            have hlen2 : Hid ((es ++ [x2]).length ≤ n2) := by have := hesn.out; show _ ≤ _; simp; omega
            have hf2 : Hid (t2.length < f2) := by show _ < _; omega
            have hts : Hid (t2.length < t1.length) := by show _ < _; omega
            have hvs : Hid (vs.length + 1 ≤ 1000000) := by have := hesn.out; have := hK.out.len; show _ ≤ _; omega
            have hn2 : n2 ≤ 24 := p4
            have h1l : Hid (∀ y : XV, [y].length = 1) := fun y => rfl
            clear he hc w2 w3 w4 hwt hM p1 p2 p3 p4 p5 p6 hcp
            go_wp2_with (first
              | (go_at_call 85; refine (skip_yes b t1 n1 l1 wCom _ hG.out.1 H5.out hc1).mono ?_; rintro e W3 ⟨rfl, hs3, hk3⟩; have HS3 := Lib.hid hs3; have HKS3 := Lib.hid (hK.out.kp hk3 hbg.out); have HK3 := Lib.hid (hG.out.2.trans hk3); clear hs3 hk3)
              | (go_at_call 56; refine (HCE2.out _ HS3.out).mono ?_; rintro e W4 ⟨⟨k4, s4, m4, u4, A4, nn4, c4, rfl, ht4⟩, hg4⟩; have HT4 := Lib.hid (TIn.since ht4 HK3.out.size (fun q hq => (own_lt HKS3.out.own hq).2)); have HKS4 := Lib.hid (HKS3.out.kp hg4.2 hbg.out); have HG4 : Hid (Go1 b t2 n2 l2 w W4) := ⟨hg4.1, HK3.out.trans hg4.2⟩; clear ht4 hg4)
              | (at_builtin; (refine app_expr rfl (.tmp 15) (.tmp 20) rfl w.heap.size (.slice A nn c) vs _ [⟨k4, s4, m4, u4, A4, nn4, c4⟩] 1 1 rfl rfl rfl (HKS4.out.kp (Kp.up (newB W4 _) HG4.out.1.lt) hbg.out).own (XRd.one_at _ _ ⟨k4, s4, m4, u4, A4, nn4, c4⟩ rfl) hvs (Nat.le_trans HG4.out.2.size (newB W4 _).size) ?_); intro V5 w5 ho5 hg5 hn5; obtain ⟨A5, c5, hV5, -, -, -, -⟩ := ho5.form; obtain ⟨k5, hk5⟩ : ∃ k5, Hid ((vs ++ [(⟨k4, s4, m4, u4, A4, nn4, c4⟩ : XV)]).length = k5) := ⟨_, rfl⟩; rw [hk5.out] at hV5; subst hV5; have HKS5 := Lib.hid (KS.app (HKS4.out.kp (Kp.up (newB W4 _) HG4.out.1.lt) hbg.out) hbg.out (Nat.lt_of_lt_of_le HG4.out.1.lt (newB W4 _).size) (fun q hq => (rowOf_lt (HG4.out.1.up (newB W4 _)) hq).2) (Nat.le_trans HG4.out.2.size (newB W4 _).size) ho5 hg5 hn5 (HT4.out.upK (newB W4 _) HG4.out.1.lt)); have HG5 := Lib.hid ((HG4.out.up (newB W4 _)).grown hg5 (fun q hq => ⟨(own_lt HKS4.out.own hq).1, Nat.lt_of_lt_of_le hbg.out (own_lt HKS4.out.own hq).1, (HKS4.out.kp (Kp.up (newB W4 _) HG4.out.1.lt) hbg.out).apart q hq⟩)); clear ho5 hg5 hn5))
            go_roundw
            case rel => exact ⟨f2, es ++ [x2], vs ++ [⟨k4, s4, m4, u4, A4, nn4, c4⟩], t2, n2, l2, A5, k5, c5, rfl, hM2, HG5, HKS5, HWT2, hf2.out, by omega, hn2, hl2, hlen2⟩
            case measure => rw [HG5.out.1.tkn, hG.out.1.tkn]; exact hts.out
        · have hc1 := Lib.hid hc
          by_cases hcl : (hd t1).2.1 = wCls
          · obtain ⟨_, w2, w3, w4⟩ := hwt.punc (by rw [hcl]; exact wCls_p)
            have hcl1 := Lib.hid hcl
            have H5 := Lib.hid w4
            have hend : Hid (R = .ok es t1.tail n1 l1) := by show _ = _; rw [← hM.out, pM, if_neg hc, if_pos hcl]
            clear hc hcl w2 w3 w4 hwt hM
            go_wp2_with (first
              | (go_at_call 85; refine (skip_no b t1 n1 l1 wCom _ hG.out.1 hpos.out hc1).mono ?_; rintro e W3 ⟨rfl, rfl⟩)
              | (go_at_call 109; refine (must_yes b t1 n1 l1 wCls _ hG.out.1 H5.out hcl1).mono ?_; rintro e W4 ⟨rfl, hs4, hk4⟩; have HKS4 := Lib.hid (hK.out.kp hk4 hbg.out); have HG4 : Hid (Go1 b t1.tail n1 l1 w W4) := ⟨hs4, hG.out.2.trans hk4⟩; clear hs4 hk4))
            go_ret
            have e9 := hend.out
            subst e9
            obtain ⟨q1, q2, q3, q4⟩ := HKS4.out.fin
            exact ⟨⟨A, nn, c, rfl, q1, q2, q3, q4⟩, HG4.out⟩
          · have hcl1 := Lib.hid hcl
            obtain ⟨p, hpp⟩ : ∃ p, Hid ((hd t1).2.2.2 = p) := ⟨_, rfl⟩
            have hend : Hid (R = .no p 8) := by show _ = _; rw [← hM.out, pM, if_neg hc, if_neg hcl, hpp.out]
            clear hc hcl hwt hM
            go_wp2_with (first
              | (go_at_call 85; refine (skip_no b t1 n1 l1 wCom _ hG.out.1 hpos.out hc1).mono ?_; rintro e W3 ⟨rfl, rfl⟩)
              | (go_at_call 109; refine (must_no b t1 n1 l1 wCls _ hG.out.1 hpos.out hcl1 hpp).mono ?_; rintro e W4 ⟨rfl, hb4⟩; have HB4 := Lib.hid ((hG.out.2.below HP.out).trans hb4); clear hb4))
            have e9 := hend.out
            subst e9
            exact ⟨rfl, rfl, HB4.out⟩
  · have ho1 := Lib.hid ho
    obtain ⟨p, hpp⟩ : ∃ p, Hid ((hd t).2.2.2 = p) := ⟨_, rfl⟩
    have hend : Hid (R = .no p 8) := by show _ = _; rw [← hR.out, pK, if_neg ho, hpp.out]
    clear ho hR hw hn h8 hf
    go_enter Tryz.func86, Tryz.ntmps86
    go_wp2_with (first
      | (go_at_call 109; refine (must_no b t n l wOpen _ HP.out h0.out ho1 hpp).mono ?_; rintro e W1 ⟨rfl, hb1⟩; have HB1 := Lib.hid hb1; clear hb1))
    have e9 := hend.out
    subst e9
    exact ⟨rfl, rfl, HB1.out⟩
end Go.Proofs.YtlokcmbkkfjlkaaGreatDoor

namespace Go.Proofs.YtlokcmbkkfjlkaaGreatDoor
open Go.RowKit
set_option linter.unusedVariables false
set_option linter.unusedSimpArgs false

theorem KRd.box {lo b g : Nat} {w : World} {A : Option Addr} {l : List Ex} (h : KRd (Nw lo b w) w A l) (hg : g < lo) (hb : g ≠ b) (o : Nat) (v : Value) : KRd (Nw lo b (w.setCell ⟨g, o, none⟩ v)) (w.setCell ⟨g, o, none⟩ v) A l :=
  h.of (fun k ⟨h1, h2, h3⟩ => ⟨h1, by simpa [World.setCell] using h2, by rw [rowOf_box hb]; exact h3⟩) (fun k ⟨h1, h2, h3⟩ _ => block_set _ _ _ (by omega)) (by simp [World.setCell])
theorem grp_tin {lo lo' b : Nat} {w : World} {A : Option Addr} {ks : List Ex} {k : Int} {nn c : Nat} (h : KRd (Nw lo b w) w A ks) (hlo : lo' ≤ lo) (hn : nn = ks.length) (hc : nn ≤ c) (hm : c ≤ maxLen) : TIn (Nw lo' b w) w ⟨k, ⟨#[]⟩, 0, 0, A, nn, c⟩ (.nd k z3 ks) :=
  ⟨⟨by unfold XV.ks Ex.ks; rw [hn]; rfl, hc, hm⟩, h.of (Nw.mono hlo) (fun _ _ _ => rfl) (Nat.le_refl _)⟩
/-- Five stores into a box of the call's own. -/
theorem St3.five {b : Nat} {t : List T4} {n : Nat} {l : List A3} {a : World} {g : Nat} {w : World} (h : St3 b t n l a g w) (v0 v1 v2 v3 v4 : Value) : Go1 b t n l a (((((w.setCell ⟨g, 0, none⟩ v0).setCell ⟨g, 1, none⟩ v1).setCell ⟨g, 2, none⟩ v2).setCell ⟨g, 3, none⟩ v3).setCell ⟨g, 4, none⟩ v4) :=
  (((((h.set 0 _).set 1 _).set 2 _).set 3 _).set 4 _).go
theorem KRd.five {lo b g : Nat} {w : World} {A : Option Addr} {l : List Ex} (h : KRd (Nw lo b w) w A l) (hg : g < lo) (hb : g ≠ b) (v0 v1 v2 v3 v4 : Value) :
    KRd (Nw lo b (((((w.setCell ⟨g, 0, none⟩ v0).setCell ⟨g, 1, none⟩ v1).setCell ⟨g, 2, none⟩ v2).setCell ⟨g, 3, none⟩ v3).setCell ⟨g, 4, none⟩ v4)) (((((w.setCell ⟨g, 0, none⟩ v0).setCell ⟨g, 1, none⟩ v1).setCell ⟨g, 2, none⟩ v2).setCell ⟨g, 3, none⟩ v3).setCell ⟨g, 4, none⟩ v4) A l :=
  ((((h.box hg hb 0 _).box hg hb 1 _).box hg hb 2 _).box hg hb 3 _).box hg hb 4 _
abbrev zx5 : List Value := [.int .i64 0, .string ⟨#[]⟩, .int .i64 0, .int .i64 0, .slice none 0 0]
/-- What counted answers. -/
def pC (f d : Nat) (t : List T4) (n : Nat) (l : List A3) : PR Ex := if (hd t.tail).2.1 = wOf then (pK f d t.tail.tail n l).num (hd t).2.2.1 (hd t).2.2.2 else .no (hd t.tail).2.2.2 8
set_option maxHeartbeats 8000000 in
set_option maxRecDepth 100000 in
theorem counted_is (f : Nat) (ih : ∀ g, g < f → EC g) (b : Nat) (t : List T4) (n : Nat) (l : List A3) (d : Nat) (w : World) (hp : Ps w b t n l) (hw : WT t) (h3 : (hd t).1 = 3) (hn : n ≤ 24) (h8 : l.length ≤ 8) (hf : t.length ≤ f) (hd4 : d ≤ 4) :
    Calls Tryz.prog 87 #[.pointer (some ⟨b, 0, none⟩), .int .i64 (d : Int)] w (ExP b (pC f d t n l) w) := by
  obtain ⟨_, w2, w3, w4⟩ := hw.next (by omega)
  have HP := Lib.hid hp
  have hbg := Lib.hid hp.lt
  have HX : Hid (Bx (w.alloc (.cells #[.int .i64 0, .string ⟨#[]⟩, .int .i64 0, .int .i64 0, .slice none 0 0] 28)) b w.heap.size zx5) := Bx.new hp zx5 _
  have HN : Hid (∀ X : Obj, Ps (w.alloc X) b t n l ∧ Kp b w (w.alloc X)) := fun X => ⟨HP.out.up (newB w X), Kp.up (newB w X) HP.out.lt⟩
  have he1 := Lib.hid h3
  have H4 := Lib.hid w4
  have HP2 := Lib.hid w2.pos
  obtain ⟨s0, hs0⟩ : ∃ s0, Hid ((hd t).2.1 = s0) := ⟨_, rfl⟩
  obtain ⟨n0, hn0⟩ : ∃ n0, Hid ((hd t).2.2.1 = n0) := ⟨_, rfl⟩
  obtain ⟨p, hpp⟩ : ∃ p, Hid ((hd t).2.2.2 = p) := ⟨_, rfl⟩
  unfold pC
  rw [hn0.out, hpp.out]
  by_cases ho : (hd t.tail).2.1 = wOf
  · rw [if_pos ho]
    obtain ⟨_, w5, w6, w7⟩ := w2.word (by rw [ho]; exact wOf_l)
    have ho1 := Lib.hid ho
    have H7 := Lib.hid w7
    have CL : Hid (∀ W, Ps W b t.tail.tail n l → Calls Tryz.prog 86 #[.pointer (some ⟨b, 0, none⟩), .int .i64 (d : Int)] W (LsP b (pK f d t.tail.tail n l) W)) := fun W hW => list_is f ih b t.tail.tail n l d W hW w5 hn h8 (by omega) hd4
    cases hk : pK f d t.tail.tail n l with
    | no pe xe0 =>
      rw [hk] at CL
      show Calls _ _ _ _ (ExP b (.no pe xe0) w)
      clear hk ho w2 w3 w4 w5 w6 w7 hw h3 hn h8 hf hp ih
      go_enter Tryz.func87, Tryz.ntmps87
      go_wp2_with (first
        | (go_at_call 58; refine (take_yes b t n l 3 _ (HN.out _).1 H4.out he1 hs0 hn0 hpp).mono ?_; rintro e W1 ⟨rfl, hs1, hk1⟩; have HG1 := Lib.hid (Go1.up (w' := W1.alloc (.cells #[.int .i64 3, .string s0, .int .i64 n0, .int .i64 p] 53)) ⟨hs1, (HN.out _).2.trans hk1⟩ (newB W1 _)); clear hs1 hk1)
        | (go_at_call 109; refine (must_yes b t.tail n l wOf _ HG1.out.1 H7.out ho1).mono ?_; rintro e W2 ⟨rfl, hg2⟩; have HG2 := Lib.hid (HG1.out.trans hg2); clear hg2)
        | (go_at_call 86; refine (CL.out _ HG2.out.1).mono ?_; rintro e W3 ⟨rfl, hb3⟩; have HB3 := Lib.hid ((HG2.out.2.below HP.out).trans hb3); clear hb3))
      exact ⟨rfl, rfl, HB3.out⟩
    | ok ks t' n' l' =>
      rw [hk] at CL
      obtain ⟨q1, q2, q3, q4, q5, q6, q7⟩ := pK_ok w5 hd4 hk
      have hbd : Hid (ks.length ≤ 24) := by have := cntL_len ks; show _ ≤ _; omega
      show Calls _ _ _ _ (ExP b (if 1 ≤ n0 ∧ n0 ≤ (ks.length : Int) then .ok (.nd n0 z3 ks) t' n' l' else .no p 1) w)
      obtain ⟨kl, hkl⟩ : ∃ kl, Hid (ks.length = kl) := ⟨_, rfl⟩
      rw [hkl.out]
      by_cases hv : 1 ≤ n0 ∧ n0 ≤ (kl : Int)
      · rw [if_pos hv]
        have hbt : Hid (btw n0 1 (kl : Int) = true) := decide_eq_true hv
        clear hk ho w2 w3 w4 w5 w6 w7 hw h3 hn h8 hf hp ih q1 q2 q3 q4 q5 q6 q7 hv
        go_enter Tryz.func87, Tryz.ntmps87
        go_wp2_with (first
          | (go_at_call 58; refine (take_yes b t n l 3 _ (HN.out _).1 H4.out he1 hs0 hn0 hpp).mono ?_; rintro e W1 ⟨rfl, hs1, hk1⟩; have HX1 := Lib.hid ((HX.out.kp hk1).kp (Kp.up (newB W1 (.cells #[.int .i64 3, .string s0, .int .i64 n0, .int .i64 p] 53)) hs1.lt)); have HG1 := Lib.hid (Go1.up (w' := W1.alloc (.cells #[.int .i64 3, .string s0, .int .i64 n0, .int .i64 p] 53)) ⟨hs1, (HN.out _).2.trans hk1⟩ (newB W1 _)); have HT1 := Lib.hid (Bx.new hs1 [.int .i64 3, .string s0, .int .i64 n0, .int .i64 p] 53); clear hs1 hk1)
          | (go_at_call 109; refine (must_yes b t.tail n l wOf _ HG1.out.1 H7.out ho1).mono ?_; rintro e W2 ⟨rfl, hg2⟩; have HX2 := Lib.hid (HX1.out.kp hg2.2); have HT2 := Lib.hid (HT1.out.kp hg2.2); have HG2 := Lib.hid (HG1.out.trans hg2); clear hg2)
          | (go_at_call 86; refine (CL.out _ HG2.out.1).mono ?_; rintro e W3 ⟨⟨A, nn, c, rfl, hnn, hfit, hmx, hkr⟩, hg3⟩; rw [hkl.out] at hnn; subst hnn; have hx3 := HX2.out.kp hg3.2; have ht3 := HT2.out.kp hg3.2; have x0 := hx3.1.cell 0 rfl; have x1 := hx3.1.cell 1 rfl; have x2 := hx3.1.cell 2 rfl; have x3 := hx3.1.cell 3 rfl; have x4 := hx3.1.cell 4 rfl; have xf := hx3.1.fz; have y2 := ht3.1.cell 2 rfl; have HX3 := Lib.hid hx3; have HG3 := Lib.hid (HG2.out.trans hg3); have HKR := Lib.hid hkr; have HMX := Lib.hid hmx; clear hg3 hx3 ht3 hkr hmx)
          | (go_at_call 32; refine (within_is _ _ _ _ hbt).mono ?_; rintro e W9 ⟨rfl, rfl⟩))
        have hst : St3 b t' n' l' w w.heap.size W3 := ⟨HG3.out.1, HG3.out.2, hbg.out, Nat.le_refl _, HX3.out.2.2⟩
        have hsz : w.heap.size < W2.heap.size := HX2.out.1.lt
        exact bodyPost_ret (v := xe n0 ⟨#[]⟩ 0 0 A nn c) (by simp [results, Tryz.results87, go_sem, x0, x1, x2, x3, x4, xf]) rfl ⟨⟨_, _, _, _, _, _, _, rfl, grp_tin (HKR.out.five hsz HX3.out.2.1 _ _ _ _ _) (Nat.le_of_lt hsz) hkl.out.symm hfit HMX.out⟩, hst.five _ _ _ _ _⟩
      · rw [if_neg hv]
        have hbt : Hid (btw n0 1 (kl : Int) = false) := decide_eq_false hv
        clear hk ho w2 w3 w4 w5 w6 w7 hw h3 hn h8 hf hp ih q1 q2 q3 q4 q5 q6 q7 hv
        go_enter Tryz.func87, Tryz.ntmps87
        go_wp2_with (first
          | (go_at_call 58; refine (take_yes b t n l 3 _ (HN.out _).1 H4.out he1 hs0 hn0 hpp).mono ?_; rintro e W1 ⟨rfl, hs1, hk1⟩; have HG1 := Lib.hid (Go1.up (w' := W1.alloc (.cells #[.int .i64 3, .string s0, .int .i64 n0, .int .i64 p] 53)) ⟨hs1, (HN.out _).2.trans hk1⟩ (newB W1 _)); have HT1 := Lib.hid (Bx.new hs1 [.int .i64 3, .string s0, .int .i64 n0, .int .i64 p] 53); clear hs1 hk1)
          | (go_at_call 109; refine (must_yes b t.tail n l wOf _ HG1.out.1 H7.out ho1).mono ?_; rintro e W2 ⟨rfl, hg2⟩; have HT2 := Lib.hid (HT1.out.kp hg2.2); have HG2 := Lib.hid (HG1.out.trans hg2); clear hg2)
          | (go_at_call 86; refine (CL.out _ HG2.out.1).mono ?_; rintro e W3 ⟨⟨A, nn, c, rfl, hnn, hfit, hmx, hkr⟩, hg3⟩; rw [hkl.out] at hnn; subst hnn; have ht3 := HT2.out.kp hg3.2; have y0 := ht3.1.cell 0 rfl; have y1 := ht3.1.cell 1 rfl; have y2 := ht3.1.cell 2 rfl; have y3 := ht3.1.cell 3 rfl; have HG3 := Lib.hid (HG2.out.trans hg3); clear hg3 ht3 hkr hmx)
          | (go_at_call 32; refine (within_is _ _ _ _ hbt).mono ?_; rintro e W9 ⟨rfl, rfl⟩)
          | (go_at_call 89; refine (fail_is _ _ _ _ _ _).mono ?_; rintro e W4 ⟨rfl, hb4⟩; have HB4 := Lib.hid hb4; clear hb4))
        exact ⟨rfl, rfl, (HG3.out.2.below HP.out).trans (HB4.out.mono (Nat.le_of_lt HG3.out.1.lt))⟩
  · rw [if_neg ho]
    have ho1 := Lib.hid ho
    obtain ⟨p2, hp2⟩ : ∃ p, Hid ((hd t.tail).2.2.2 = p) := ⟨_, rfl⟩
    rw [hp2.out]
    clear ho w2 w3 w4 hw h3 hn h8 hf hp ih
    go_enter Tryz.func87, Tryz.ntmps87
    go_wp2_with (first
      | (go_at_call 58; refine (take_yes b t n l 3 _ (HN.out _).1 H4.out he1 hs0 hn0 hpp).mono ?_; rintro e W1 ⟨rfl, hs1, hk1⟩; have HG1 := Lib.hid (Go1.up (w' := W1.alloc (.cells #[.int .i64 3, .string s0, .int .i64 n0, .int .i64 p] 53)) ⟨hs1, (HN.out _).2.trans hk1⟩ (newB W1 _)); clear hs1 hk1)
      | (go_at_call 109; refine (must_no b t.tail n l wOf _ HG1.out.1 HP2.out ho1 hp2).mono ?_; rintro e W2 ⟨rfl, hb2⟩; have HB2 := Lib.hid ((HG1.out.2.below HP.out).trans hb2); clear hb2))
    exact ⟨rfl, rfl, HB2.out⟩
end Go.Proofs.YtlokcmbkkfjlkaaGreatDoor

namespace Go.Proofs.YtlokcmbkkfjlkaaGreatDoor
open Go.RowKit
set_option linter.unusedVariables false
set_option linter.unusedSimpArgs false

theorem TIn.five {lo lo' b g : Nat} {w : World} {v : XV} {x : Ex} (h : TIn (Nw lo b w) w v x) (hlo : lo' ≤ lo) (hg : g < lo) (hb : g ≠ b) (v0 v1 v2 v3 v4 : Value) :
    TIn (Nw lo' b (((((w.setCell ⟨g, 0, none⟩ v0).setCell ⟨g, 1, none⟩ v1).setCell ⟨g, 2, none⟩ v2).setCell ⟨g, 3, none⟩ v3).setCell ⟨g, 4, none⟩ v4)) (((((w.setCell ⟨g, 0, none⟩ v0).setCell ⟨g, 1, none⟩ v1).setCell ⟨g, 2, none⟩ v2).setCell ⟨g, 3, none⟩ v3).setCell ⟨g, 4, none⟩ v4) v x :=
  TIn.mono ⟨h.1, h.2.five hg hb v0 v1 v2 v3 v4⟩ (Nw.mono hlo)
set_option maxHeartbeats 16000000 in
set_option maxRecDepth 100000 in
theorem expr_step (f : Nat) (ih : ∀ g, g < f + 1 → EC g) (b : Nat) (t : List T4) (n : Nat) (l : List A3) (d : Nat) (w : World) (hp : Ps w b t n l) (hw : WT t) (hn : n ≤ 24) (h8 : l.length ≤ 8) (hf : t.length < f + 1) (hd5 : d ≤ 5) :
    Calls Tryz.prog 56 #[.pointer (some ⟨b, 0, none⟩), .int .i64 (d : Int)] w (ExP b (pE (f + 1) d t n l) w) := by
  have HP := Lib.hid hp
  have hbg := Lib.hid hp.lt
  have H0 := Lib.hid hw.pos
  have HX : Hid (Bx (w.alloc (.cells #[.int .i64 0, .string ⟨#[]⟩, .int .i64 0, .int .i64 0, .slice none 0 0] 28)) b w.heap.size zx5) := Bx.new hp zx5 _
  have HN : Hid (∀ X : Obj, Ps (w.alloc X) b t n l ∧ Kp b w (w.alloc X)) := fun X => ⟨HP.out.up (newB w X), Kp.up (newB w X) HP.out.lt⟩
  have hdr : (d : Int) ≤ 5 := by omega
  obtain ⟨R, hR⟩ : ∃ R, Hid (pE (f + 1) d t n l = R) := ⟨_, rfl⟩
  rw [hR.out]
  obtain ⟨p, hpp⟩ : ∃ p, Hid ((hd t).2.2.2 = p) := ⟨_, rfl⟩
  cases hm : mayB (hd t) with
  | false =>
    have HM := Lib.hid hm
    have hend : Hid (R = .no p 8) := by show _ = _; rw [← hR.out, pE, if_pos hm, hpp.out]
    clear hp hw hn h8 hf ih hR hm
    go_enter Tryz.func56, Tryz.ntmps56
    go_wp2_with (first
      | (go_at_call 84; refine (begin_syn b t n l d _ (HN.out _).1 H0.out HM hpp).mono ?_; rintro e W1 ⟨rfl, hb1⟩; have HB1 := Lib.hid (((HN.out _).2.below HP.out).trans hb1); clear hb1))
    have e9 := hend.out
    subst e9
    exact ⟨rfl, rfl, HB1.out⟩
  | true =>
    have HM := Lib.hid hm
    by_cases hlim : 4 < d ∨ 24 < n + 1
    · have hend : Hid (R = .no p 4) := by show _ = _; rw [← hR.out, pE, if_neg (by rw [hm]; decide), if_pos hlim, hpp.out]
      have HL := Lib.hid hlim
      have HN24 := Lib.hid hn
      clear hp hw hn h8 hf ih hR hm hlim
      go_enter Tryz.func56, Tryz.ntmps56
      go_wp2_with (first
        | (go_at_call 84; refine (begin_many b t n l d _ (HN.out _).1 H0.out HM HN24.out HL.out hpp).mono ?_; rintro e W1 ⟨rfl, hb1⟩; have HB1 := Lib.hid (((HN.out _).2.below HP.out).trans hb1); clear hb1))
      have e9 := hend.out
      subst e9
      exact ⟨rfl, rfl, HB1.out⟩
    · have h4 : d ≤ 4 := by omega
      have h24 : n + 1 ≤ 24 := by omega
      have CB : Hid (∀ X : Obj, Calls Tryz.prog 84 #[.pointer (some ⟨b, 0, none⟩), .int .i64 (d : Int)] (w.alloc X) fun e w' => e = .returned (.tuple #[]) ∧ Go1 b t (n + 1) l (w.alloc X) w') := fun X => begin_yes b t n l d _ (HN.out X).1 H0.out HM h4 h24
      by_cases ha : (hd t).2.1 = wAll
      · obtain ⟨_, w2, w3, w4⟩ := hw.word (by rw [ha]; exact wAll_l)
        have H4 := Lib.hid w4
        have ha1 := Lib.hid ha
        have CL : Hid (∀ W, Ps W b t.tail (n + 1) l → Calls Tryz.prog 86 #[.pointer (some ⟨b, 0, none⟩), .int .i64 (d : Int)] W (LsP b (pK f d t.tail (n + 1) l) W)) := fun W hW => list_is f (fun g hg => ih g (by omega)) b t.tail (n + 1) l d W hW w2 h24 h8 (by omega) h4
        have hK : Hid ((pK f d t.tail (n + 1) l).grp (fun ks => ks.length) = R) := by show _ = _; rw [← hR.out, pE, if_neg (by rw [hm]; decide), if_neg hlim, if_pos ha]
        cases hk : pK f d t.tail (n + 1) l with
        | no pe xe0 =>
          rw [hk] at CL hK
          have hend : Hid (R = .no pe xe0) := hK.out.symm
          clear hk hp hw hn h8 hf ih hR hm hlim ha w2 w3 w4 h4 h24 hK
          go_enter Tryz.func56, Tryz.ntmps56
          go_wp2_with (first
            | (go_at_call 84; refine (CB.out _).mono ?_; rintro e W1 ⟨rfl, hs1, hk1⟩; have HG1 : Hid (Go1 b t (n + 1) l w W1) := ⟨hs1, (HN.out _).2.trans hk1⟩; clear hs1 hk1)
            | (go_at_call 85; refine (skip_yes b t (n + 1) l wAll _ HG1.out.1 H4.out ha1).mono ?_; rintro e W2 ⟨rfl, hg2⟩; have HG2 := Lib.hid (HG1.out.trans hg2); clear hg2)
            | (go_at_call 86; refine (CL.out _ HG2.out.1).mono ?_; rintro e W3 ⟨rfl, hb3⟩; have HB3 := Lib.hid ((HG2.out.2.below HP.out).trans hb3); clear hb3))
          have e9 := hend.out
          subst e9
          exact ⟨rfl, rfl, HB3.out⟩
        | ok ks t' n' l' =>
          rw [hk] at CL hK
          obtain ⟨q1, q2, q3, q4, q5, q6, q7⟩ := pK_ok w2 h4 hk
          obtain ⟨kl, hkl⟩ : ∃ kl, Hid (ks.length = kl) := ⟨_, rfl⟩
          have hend : Hid (R = .ok (.nd (kl : Int) z3 ks) t' n' l') := by show _ = _; rw [← hK.out, ← hkl.out]; rfl
          clear hk hp hw hn h8 hf ih hR hm hlim ha w2 w3 w4 h4 h24 hK q1 q2 q3 q4 q5 q6 q7
          go_enter Tryz.func56, Tryz.ntmps56
          go_wp2_with (first
            | (go_at_call 84; refine (CB.out _).mono ?_; rintro e W1 ⟨rfl, hs1, hk1⟩; have HX1 := Lib.hid (HX.out.kp hk1); have HG1 : Hid (Go1 b t (n + 1) l w W1) := ⟨hs1, (HN.out _).2.trans hk1⟩; clear hs1 hk1)
            | (go_at_call 85; refine (skip_yes b t (n + 1) l wAll _ HG1.out.1 H4.out ha1).mono ?_; rintro e W2 ⟨rfl, hg2⟩; have HX2 := Lib.hid (HX1.out.kp hg2.2); have HG2 := Lib.hid (HG1.out.trans hg2); clear hg2)
            | (go_at_call 86; refine (CL.out _ HG2.out.1).mono ?_; rintro e W3 ⟨⟨A, nn, c, rfl, hnn, hfit, hmx, hkr⟩, hg3⟩; rw [hkl.out] at hnn; subst hnn; have hx3 := HX2.out.kp hg3.2; have x0 := hx3.1.cell 0 rfl; have x1 := hx3.1.cell 1 rfl; have x2 := hx3.1.cell 2 rfl; have x3 := hx3.1.cell 3 rfl; have x4 := hx3.1.cell 4 rfl; have xf := hx3.1.fz; have HX3 := Lib.hid hx3; have HG3 := Lib.hid (HG2.out.trans hg3); have HKR := Lib.hid hkr; have HMX := Lib.hid hmx; clear hg3 hx3 hkr hmx))
          have hst : St3 b t' n' l' w w.heap.size W3 := ⟨HG3.out.1, HG3.out.2, hbg.out, Nat.le_refl _, HX3.out.2.2⟩
          have hsz : w.heap.size < W2.heap.size := HX2.out.1.lt
          have e9 := hend.out
          subst e9
          exact bodyPost_ret (v := xe (nn : Int) ⟨#[]⟩ 0 0 A nn c) (by simp [results, Tryz.results56, go_sem, x0, x1, x2, x3, x4, xf]) rfl ⟨⟨_, _, _, _, _, _, _, rfl, grp_tin (HKR.out.five hsz HX3.out.2.1 _ _ _ _ _) (Nat.le_of_lt hsz) hkl.out.symm hfit HMX.out⟩, hst.five _ _ _ _ _⟩
      · have ha1 := Lib.hid ha
        have MK := Lib.hid trivial
        by_cases hy : (hd t).2.1 = wAny
        · obtain ⟨_, w2, w3, w4⟩ := hw.word (by rw [hy]; exact wAny_l)
          have H4 := Lib.hid w4
          have hy1 := Lib.hid hy
          have CL : Hid (∀ W, Ps W b t.tail (n + 1) l → Calls Tryz.prog 86 #[.pointer (some ⟨b, 0, none⟩), .int .i64 (d : Int)] W (LsP b (pK f d t.tail (n + 1) l) W)) := fun W hW => list_is f (fun g hg => ih g (by omega)) b t.tail (n + 1) l d W hW w2 h24 h8 (by omega) h4
          have hK : Hid ((pK f d t.tail (n + 1) l).grp (fun _ => 1) = R) := by show _ = _; rw [← hR.out, pE, if_neg (by rw [hm]; decide), if_neg hlim, if_neg ha, if_pos hy]
          cases hk : pK f d t.tail (n + 1) l with
          | no pe xe0 =>
            rw [hk] at CL hK
            have hend : Hid (R = .no pe xe0) := hK.out.symm
            clear hk hp hw hn h8 hf ih hR hm hlim ha hy w2 w3 w4 h4 h24 hK
            go_enter Tryz.func56, Tryz.ntmps56
            go_wp2_with (first
              | (go_at_call 84; refine (CB.out _).mono ?_; rintro e W1 ⟨rfl, hs1, hk1⟩; have HG1 : Hid (Go1 b t (n + 1) l w W1) := ⟨hs1, (HN.out _).2.trans hk1⟩; clear hs1 hk1)
              | (go_at_call 85; clear MK; refine (skip_no b t (n + 1) l wAll _ HG1.out.1 H0.out ha1).mono ?_; rintro e W2 ⟨rfl, rfl⟩)
              | (go_at_call 85; refine (skip_yes b t (n + 1) l wAny _ HG1.out.1 H4.out hy1).mono ?_; rintro e W2 ⟨rfl, hg2⟩; have HG2 := Lib.hid (HG1.out.trans hg2); clear hg2)
              | (go_at_call 86; refine (CL.out _ HG2.out.1).mono ?_; rintro e W3 ⟨rfl, hb3⟩; have HB3 := Lib.hid ((HG2.out.2.below HP.out).trans hb3); clear hb3))
            have e9 := hend.out
            subst e9
            exact ⟨rfl, rfl, HB3.out⟩
          | ok ks t' n' l' =>
            rw [hk] at CL hK
            obtain ⟨kl, hkl⟩ : ∃ kl, Hid (ks.length = kl) := ⟨_, rfl⟩
            have hend : Hid (R = .ok (.nd 1 z3 ks) t' n' l') := hK.out.symm
            clear hk hp hw hn h8 hf ih hR hm hlim ha hy w2 w3 w4 h4 h24 hK
            go_enter Tryz.func56, Tryz.ntmps56
            go_wp2_with (first
              | (go_at_call 84; refine (CB.out _).mono ?_; rintro e W1 ⟨rfl, hs1, hk1⟩; have HX1 := Lib.hid (HX.out.kp hk1); have HG1 : Hid (Go1 b t (n + 1) l w W1) := ⟨hs1, (HN.out _).2.trans hk1⟩; clear hs1 hk1)
              | (go_at_call 85; clear MK; refine (skip_no b t (n + 1) l wAll _ HG1.out.1 H0.out ha1).mono ?_; rintro e W2 ⟨rfl, rfl⟩)
              | (go_at_call 85; refine (skip_yes b t (n + 1) l wAny _ HG1.out.1 H4.out hy1).mono ?_; rintro e W2 ⟨rfl, hg2⟩; have HX2 := Lib.hid (HX1.out.kp hg2.2); have HG2 := Lib.hid (HG1.out.trans hg2); clear hg2)
              | (go_at_call 86; refine (CL.out _ HG2.out.1).mono ?_; rintro e W3 ⟨⟨A, nn, c, rfl, hnn, hfit, hmx, hkr⟩, hg3⟩; rw [hkl.out] at hnn; subst hnn; have hx3 := HX2.out.kp hg3.2; have x0 := hx3.1.cell 0 rfl; have x1 := hx3.1.cell 1 rfl; have x2 := hx3.1.cell 2 rfl; have x3 := hx3.1.cell 3 rfl; have x4 := hx3.1.cell 4 rfl; have xf := hx3.1.fz; have HX3 := Lib.hid hx3; have HG3 := Lib.hid (HG2.out.trans hg3); have HKR := Lib.hid hkr; have HMX := Lib.hid hmx; clear hg3 hx3 hkr hmx))
            have hst : St3 b t' n' l' w w.heap.size W3 := ⟨HG3.out.1, HG3.out.2, hbg.out, Nat.le_refl _, HX3.out.2.2⟩
            have hsz : w.heap.size < W2.heap.size := HX2.out.1.lt
            have e9 := hend.out
            subst e9
            exact bodyPost_ret (v := xe 1 ⟨#[]⟩ 0 0 A nn c) (by simp [results, Tryz.results56, go_sem, x0, x1, x2, x3, x4, xf]) rfl ⟨⟨_, _, _, _, _, _, _, rfl, grp_tin (HKR.out.five hsz HX3.out.2.1 _ _ _ _ _) (Nat.le_of_lt hsz) hkl.out.symm hfit HMX.out⟩, hst.five _ _ _ _ _⟩
        · have hy1 := Lib.hid hy
          obtain ⟨k0, hk0⟩ : ∃ k0, Hid ((hd t).1 = k0) := ⟨_, rfl⟩
          by_cases h3 : k0 = 3
          · have h3' : (hd t).1 = 3 := by rw [hk0.out]; exact h3
            have CC : Hid (∀ W, Ps W b t (n + 1) l → Calls Tryz.prog 87 #[.pointer (some ⟨b, 0, none⟩), .int .i64 (d : Int)] W (ExP b R W)) := fun W hW => by
              have := counted_is f (fun g hg => ih g (by omega)) b t (n + 1) l d W hW hw h3' h24 h8 (by omega) h4
              have e : pC f d t (n + 1) l = R := by rw [← hR.out, pE, if_neg (by rw [hm]; decide), if_neg hlim, if_neg ha, if_neg hy, if_pos h3']; rfl
              rw [e] at this
              exact this
            have hb3 : (k0 == 3) = true := by rw [beq_iff_eq]; exact h3
            clear hp hw hn h8 hf ih hR hm hlim ha hy h4 h24 h3 h3'
            cases R with
            | no pe xe0 =>
              go_enter Tryz.func56, Tryz.ntmps56
              go_wp2_with (first
                | (go_at_call 84; refine (CB.out _).mono ?_; rintro e W1 ⟨rfl, hs1, hk1⟩; have HG1 : Hid (Go1 b t (n + 1) l w W1) := ⟨hs1, (HN.out _).2.trans hk1⟩; clear hk1; obtain ⟨V, tb, tq, c0, tl, -, htl, g0, hfit0, hlt0, c0', c1', c2', fz, htb, z0, z1, z2, z3⟩ := hs1.open_ H0.out; rw [hk0.out] at z0; clear hs1)
                | (go_at_call 85; clear MK; refine (skip_no b t (n + 1) l wAll _ HG1.out.1 H0.out ha1).mono ?_; rintro e W2 ⟨rfl, rfl⟩)
                | (go_at_call 85; refine (skip_no b t (n + 1) l wAny _ HG1.out.1 H0.out hy1).mono ?_; rintro e W2 ⟨rfl, rfl⟩)
                | (go_at_call 87; refine (CC.out _ HG1.out.1).mono ?_; rintro e W3 ⟨rfl, hb3'⟩; have HB3 := Lib.hid ((HG1.out.2.below HP.out).trans hb3'); clear hb3'))
              exact ⟨rfl, rfl, HB3.out⟩
            | ok x t' n' l' =>
              go_enter Tryz.func56, Tryz.ntmps56
              go_wp2_with (first
                | (go_at_call 84; refine (CB.out _).mono ?_; rintro e W1 ⟨rfl, hs1, hk1⟩; have HX1 := Lib.hid (HX.out.kp hk1); have HG1 : Hid (Go1 b t (n + 1) l w W1) := ⟨hs1, (HN.out _).2.trans hk1⟩; clear hk1; obtain ⟨V, tb, tq, c0, tl, -, htl, g0, hfit0, hlt0, c0', c1', c2', fz, htb, z0, z1, z2, z3⟩ := hs1.open_ H0.out; rw [hk0.out] at z0; clear hs1)
                | (go_at_call 85; clear MK; refine (skip_no b t (n + 1) l wAll _ HG1.out.1 H0.out ha1).mono ?_; rintro e W2 ⟨rfl, rfl⟩)
                | (go_at_call 85; refine (skip_no b t (n + 1) l wAny _ HG1.out.1 H0.out hy1).mono ?_; rintro e W2 ⟨rfl, rfl⟩)
                | (go_at_call 87; refine (CC.out _ HG1.out.1).mono ?_; rintro e W3 ⟨⟨k3, s3, m3, u3, A3', n3, c3, rfl, ht3⟩, hg3⟩; have hx3 := HX1.out.kp hg3.2; have x0 := hx3.1.cell 0 rfl; have x1 := hx3.1.cell 1 rfl; have x2 := hx3.1.cell 2 rfl; have x3 := hx3.1.cell 3 rfl; have x4 := hx3.1.cell 4 rfl; have xf := hx3.1.fz; have HX3 := Lib.hid hx3; have HG3 := Lib.hid (HG1.out.trans hg3); have HT3 := Lib.hid ht3; clear hg3 hx3 ht3))
              have hst : St3 b t' n' l' w w.heap.size W3 := ⟨HG3.out.1, HG3.out.2, hbg.out, Nat.le_refl _, HX3.out.2.2⟩
              have hsz : w.heap.size < W1.heap.size := HX1.out.1.lt
              exact bodyPost_ret (v := xe k3 s3 m3 u3 A3' n3 c3) (by simp [results, Tryz.results56, go_sem, x0, x1, x2, x3, x4, xf]) rfl ⟨⟨_, _, _, _, _, _, _, rfl, HT3.out.five (Nat.le_of_lt hsz) hsz HX3.out.2.1 _ _ _ _ _⟩, hst.five _ _ _ _ _⟩
          · have h1' : (hd t).1 = 1 := by
              rcases mayB_is (by rw [hm]; decide) with h | ⟨h, _⟩
              · exact absurd (by rw [← hk0.out]; exact h) h3
              · exact h
            have CC : Hid (∀ W, Ps W b t (n + 1) l → Calls Tryz.prog 88 #[.pointer (some ⟨b, 0, none⟩)] W (ExP b R W)) := fun W hW => by
              have := atom_is b t (n + 1) l W hW hw h1' h8
              have e : pA t (n + 1) l = R := by rw [← hR.out, pE, if_neg (by rw [hm]; decide), if_neg hlim, if_neg ha, if_neg hy, if_neg (by rw [h1']; decide)]
              rw [e] at this
              exact this
            have hb3 : (k0 == 3) = false := by rw [beq_eq_false_iff_ne]; exact h3
            clear hp hw hn h8 hf ih hR hm hlim ha hy h4 h24 h3 h1'
            cases R with
            | no pe xe0 =>
              go_enter Tryz.func56, Tryz.ntmps56
              go_wp2_with (first
                | (go_at_call 84; refine (CB.out _).mono ?_; rintro e W1 ⟨rfl, hs1, hk1⟩; have HG1 : Hid (Go1 b t (n + 1) l w W1) := ⟨hs1, (HN.out _).2.trans hk1⟩; clear hk1; obtain ⟨V, tb, tq, c0, tl, -, htl, g0, hfit0, hlt0, c0', c1', c2', fz, htb, z0, z1, z2, z3⟩ := hs1.open_ H0.out; rw [hk0.out] at z0; clear hs1)
                | (go_at_call 85; clear MK; refine (skip_no b t (n + 1) l wAll _ HG1.out.1 H0.out ha1).mono ?_; rintro e W2 ⟨rfl, rfl⟩)
                | (go_at_call 85; refine (skip_no b t (n + 1) l wAny _ HG1.out.1 H0.out hy1).mono ?_; rintro e W2 ⟨rfl, rfl⟩)
                | (go_at_call 88; refine (CC.out _ HG1.out.1).mono ?_; rintro e W3 ⟨rfl, hb3'⟩; have HB3 := Lib.hid ((HG1.out.2.below HP.out).trans hb3'); clear hb3'))
              exact ⟨rfl, rfl, HB3.out⟩
            | ok x t' n' l' =>
              go_enter Tryz.func56, Tryz.ntmps56
              go_wp2_with (first
                | (go_at_call 84; refine (CB.out _).mono ?_; rintro e W1 ⟨rfl, hs1, hk1⟩; have HX1 := Lib.hid (HX.out.kp hk1); have HG1 : Hid (Go1 b t (n + 1) l w W1) := ⟨hs1, (HN.out _).2.trans hk1⟩; clear hk1; obtain ⟨V, tb, tq, c0, tl, -, htl, g0, hfit0, hlt0, c0', c1', c2', fz, htb, z0, z1, z2, z3⟩ := hs1.open_ H0.out; rw [hk0.out] at z0; clear hs1)
                | (go_at_call 85; clear MK; refine (skip_no b t (n + 1) l wAll _ HG1.out.1 H0.out ha1).mono ?_; rintro e W2 ⟨rfl, rfl⟩)
                | (go_at_call 85; refine (skip_no b t (n + 1) l wAny _ HG1.out.1 H0.out hy1).mono ?_; rintro e W2 ⟨rfl, rfl⟩)
                | (go_at_call 88; refine (CC.out _ HG1.out.1).mono ?_; rintro e W3 ⟨⟨k3, s3, m3, u3, A3', n3, c3, rfl, ht3⟩, hg3⟩; have hx3 := HX1.out.kp hg3.2; have x0 := hx3.1.cell 0 rfl; have x1 := hx3.1.cell 1 rfl; have x2 := hx3.1.cell 2 rfl; have x3 := hx3.1.cell 3 rfl; have x4 := hx3.1.cell 4 rfl; have xf := hx3.1.fz; have HX3 := Lib.hid hx3; have HG3 := Lib.hid (HG1.out.trans hg3); have HT3 := Lib.hid ht3; clear hg3 hx3 ht3))
              have hst : St3 b t' n' l' w w.heap.size W3 := ⟨HG3.out.1, HG3.out.2, hbg.out, Nat.le_refl _, HX3.out.2.2⟩
              have hsz : w.heap.size < W1.heap.size := HX1.out.1.lt
              exact bodyPost_ret (v := xe k3 s3 m3 u3 A3' n3 c3) (by simp [results, Tryz.results56, go_sem, x0, x1, x2, x3, x4, xf]) rfl ⟨⟨_, _, _, _, _, _, _, rfl, HT3.out.five (Nat.le_of_lt hsz) hsz HX3.out.2.1 _ _ _ _ _⟩, hst.five _ _ _ _ _⟩
theorem expr_all (f : Nat) : EC f := by
  induction f using Nat.strongRecOn with
  | _ f ih =>
    intro b t n l d D w hp hw hn h8 hf hd5 hD
    obtain ⟨g, rfl⟩ : ∃ g, f = g + 1 := ⟨f - 1, by omega⟩
    have e := hD.out
    subst e
    exact expr_step g ih b t n l d w hp hw hn h8 hf hd5
end Go.Proofs.YtlokcmbkkfjlkaaGreatDoor
