/- Requests that are made of numbers, in plain words. Nothing here speaks of a program. Contracts of the mill: group. Contracts of the reference: dual, Dual, Blocking. -/
import Derived.Test.YtohjllnfnkajjaaGreatRpp
import Derived.Test.YtohjllnfnkajjaaGreatQ2
import Derived.Deep.RegionWith
import Derived.Test.YtohjllnfnkajjaaGreatQ4
namespace Go.Proofs.YtohjllnfnkajjaaGreat
open Go.RowKit
set_option linter.unusedVariables false

/-- What the mill makes of a list of atoms, so many levels deep at most. -/
inductive Mk (L : List A3) : Nat → Ex → Prop
  | atom (d : Nat) (a : A3) (h : a ∈ L) : Mk L d (.nd 0 a [])
  | group (d : Nat) (k : Int) (l : List Ex) (h1 : 1 ≤ k) (hk : k ≤ (l.length : Int)) (h3 : l.length ≤ 3) (h : ∀ e ∈ l, Mk L d e) : Mk L (d + 1) (.nd k z3 l)
def cntM : Nat → Nat
  | 0 => 1
  | d + 1 => 1 + 3 * cntM d
theorem cntM_pos : ∀ d, 1 ≤ cntM d
  | 0 => Nat.le_refl _
  | d + 1 => by rw [cntM]; omega
theorem dpL_max : ∀ {l : List Ex} {m : Nat}, (∀ e ∈ l, e.dp ≤ m) → dpL l ≤ m
  | [], m, _ => by rw [dpL]; omega
  | e :: r, m, h => by
    rw [dpL]
    have h1 := h e (by simp)
    have h2 := dpL_max (l := r) (m := m) (fun f hf => h f (by simp [hf]))
    omega
theorem cntL_max : ∀ {l : List Ex} {m : Nat}, (∀ e ∈ l, e.cnt ≤ m) → cntL l ≤ l.length * m
  | [], m, _ => by rw [cntL]; omega
  | e :: r, m, h => by
    rw [cntL, List.length_cons, Nat.succ_mul]
    have h1 := h e (by simp)
    have h2 := cntL_max (l := r) (m := m) (fun f hf => h f (by simp [hf]))
    omega
theorem Mk.bnd {L : List A3} {d : Nat} {e : Ex} (h : Mk L d e) : e.dp ≤ d + 1 ∧ e.cnt ≤ cntM d := by
  induction h with
  | atom d a h =>
    have := cntM_pos d
    rw [Ex.dp, Ex.cnt, dpL, cntL]
    omega
  | group d k l h1 hk h3 h ih =>
    have a1 := dpL_max (l := l) (m := d + 1) (fun e he => (ih e he).1)
    have a2 := cntL_max (l := l) (m := cntM d) (fun e he => (ih e he).2)
    have a3 : l.length * cntM d ≤ 3 * cntM d := Nat.mul_le_mul_right _ h3
    rw [Ex.dp, Ex.cnt, cntM]
    omega
theorem dist_len : ∀ {l L : List A3}, Dist l → (∀ a ∈ l, a ∈ L) → l.length ≤ L.length
  | [], L, _, _ => Nat.zero_le _
  | a :: l, L, hd, h => by
    have h' := List.pairwise_cons.1 hd
    have h1 := h a (by simp)
    obtain ⟨x, y, rfl⟩ := List.append_of_mem h1
    have h2 := dist_len (l := l) (L := x ++ y) h'.2 (fun b hb => by
      have hn := h'.1 b hb
      have hm := h b (by simp [hb])
      simp only [List.mem_append, List.mem_cons] at hm ⊢
      rcases hm with hm | hm | hm
      · exact .inl hm
      · rw [hm] at hn; exact absurd rfl hn
      · exact .inr hm)
    rw [List.length_append] at h2
    rw [List.length_append, List.length_cons, List.length_cons]
    omega
/-- Atoms that can be asked for together. -/
structure AtL (L : List A3) : Prop where
  dist : Dist L
  use : ∀ a ∈ L, Nam a.1 ∧ usb a.2.1 a.2.2 = true
  len : L.length < 8
def GoV (L : List A3) (x : List Ex) : Prop := ∀ l, (∀ a ∈ l, a ∈ L) → Dist l → ∃ l', vld x l = some l' ∧ (∀ a ∈ l', a ∈ L) ∧ Dist l'
theorem GoV.list {L : List A3} : ∀ {l : List Ex}, (∀ e ∈ l, GoV L e.pre) → GoV L (preL l)
  | [], _ => fun l h1 h2 => ⟨l, by rw [preL]; rfl, h1, h2⟩
  | e :: r, h => fun l h1 h2 => by
    obtain ⟨l1, g1, g2, g3⟩ := h e (by simp) l h1 h2
    obtain ⟨l2, k1, k2, k3⟩ := GoV.list (l := r) (fun f hf => h f (by simp [hf])) l1 g2 g3
    exact ⟨l2, by rw [preL, vld_append, g1]; exact k1, k2, k3⟩
theorem Mk.go {L : List A3} (hL : AtL L) {d : Nat} {e : Ex} (h : Mk L d e) : GoV L e.pre := by
  induction h with
  | atom d a h =>
    intro l h1 h2
    obtain ⟨hn, hu⟩ := hL.use a h
    have hlen := dist_len h2 h1
    have h8 := hL.len
    rcases scan_cases l a with ⟨g1, g2⟩ | ⟨g1, b, g2, g3, g4⟩ | ⟨g1, g2⟩
    · have hi : incl l a = (l, 0) := by unfold incl; rw [g1]
      refine ⟨l, ?_, h1, h2⟩
      rw [vld_atom hn hu (by rw [hi]), hi]
    · exact absurd (hL.dist.mem (h1 b g2) h g3) g4
    · have h9 : ¬ l.length = 8 := by omega
      have hi : incl l a = (l ++ [a], 0) := by unfold incl; rw [g1]; simp [h9]
      refine ⟨l ++ [a], by rw [vld_atom hn hu (by rw [hi]), hi], fun b hb => ?_, ?_⟩
      · rcases List.mem_append.1 hb with hb | hb
        · exact h1 b hb
        · rw [List.mem_singleton] at hb; rw [hb]; exact h
      · unfold Dist
        rw [List.pairwise_append]
        exact ⟨h2, by simp, fun c c1 b c2 => by rw [List.mem_singleton] at c2; subst c2; exact g2 c c1⟩
  | group d k l h1 hk h3 h ih =>
    intro m g1 g2
    obtain ⟨m', k1, k2, k3⟩ := GoV.list ih m g1 g2
    exact ⟨m', vld_grp h1 hk k1, k2, k3⟩
theorem Mk.vex {L : List A3} (hL : AtL L) {e : Ex} (h : Mk L 2 e) : Vex e := by
  obtain ⟨h1, h2⟩ := h.bnd
  obtain ⟨l, g1, _, _⟩ := h.go hL [] (fun a ha => by cases ha) List.Pairwise.nil
  exact ⟨by omega, Nat.le_trans h2 (by decide), l, g1⟩
end Go.Proofs.YtohjllnfnkajjaaGreat

namespace Go.Proofs.YtohjllnfnkajjaaGreat
open Go.RowKit
set_option linter.unusedVariables false
set_option linter.unusedSimpArgs false

/-- Blocks made since. -/
def Snc (lo : Nat) (w : World) : Nat → Prop := fun k => lo ≤ k ∧ k < w.heap.size
/-- What group leaves. -/
def GrQ (L : List A3) (b d : Nat) (w : World) : Ending → World → Prop := fun x w' =>
  (∃ k s m u A n c e, x = .returned (xe k s m u A n c) ∧ TIn (Snc w.heap.size w') w' ⟨k, s, m, u, A, n, c⟩ e ∧ Mk L d e) ∧ Tp w' b ∧ Frm b w w'
def GrC (d : Nat) : Prop := ∀ (L : List A3) (b : Nat) (A : Option Addr) (n c : Nat) (D : Int) (w : World), Tp w b → 0 < n → n ≤ 8 → Hid (L.length = n) → QRd w A L → (∀ g o, A = some ⟨g, o, none⟩ → g ≠ b) → Hid (D = (d : Int)) → d ≤ 2 →
  Calls Tryz.prog 62 #[.pointer (some ⟨b, 0, none⟩), .slice A n c, .int .i64 D] w (GrQ L b d w)
theorem QRd.frm {w w' : World} {b : Nat} {A : Option Addr} {l : List A3} (h : QRd w A l) (hf : Frm b w w') (hA : ∀ g o, A = some ⟨g, o, none⟩ → g ≠ b) : QRd w' A l := fun hx => by
  obtain ⟨g, o, rfl, hlt, hc⟩ := h hx
  exact ⟨g, o, rfl, Nat.lt_of_lt_of_le hlt hf.size, fun i hi => (hc i hi).of (hf.block g hlt (fun e => hA g o rfl (by injection e)))⟩
/-- An atom as an expression. -/
theorem atom_tin {D : Nat → Prop} (w : World) (s : ByteArray) (m u : Int) : TIn D w ⟨0, s, m, u, none, 0, 0⟩ (.nd 0 (s, m, u) []) := ⟨⟨rfl, Nat.le_refl _, by show (0 : Nat) ≤ maxLen; simp [maxLen]⟩, .nil _⟩
/-- Kids that a call is collecting in a row of its own (blocks from lo on), apart from box x. -/
structure KT (lo x : Nat) (V : Value) (es : List Ex) (vs : List XV) (w : World) : Prop where
  own : OwnX w lo V vs
  len : vs.length = es.length
  apart : ∀ g, V.ownBlock = some g → g ≠ x
  tree : ∀ i, i < es.length → TIn (fun k => Snc lo w k ∧ V.ownBlock ≠ some k ∧ k ≠ x) w (vs.getD i default) (es.getD i default)
theorem KT.frm {lo x b : Nat} {V : Value} {es : List Ex} {vs : List XV} {w w' : World} (h : KT lo x V es vs w) (hf : Frm b w w') (hb : b < lo) : KT lo x V es vs w' :=
  ⟨own_frm h.own hf hb, h.len, h.apart, fun i hi => (h.tree i hi).of (fun k ⟨⟨h1, h2⟩, h3⟩ => ⟨⟨h1, Nat.lt_of_lt_of_le h2 hf.size⟩, h3⟩) (fun k ⟨⟨h1, h2⟩, h3⟩ _ => hf.block k h2 (fun e => by injection e with e; omega)) hf.size⟩
theorem KT.app {lo x : Nat} {V V' : Value} {es : List Ex} {vs : List XV} {w w' : World} {v : XV} {e : Ex} (h : KT lo x V es vs w) (hx : x < w.heap.size) (ho : OwnX w' lo V' (vs ++ [v])) (hg : w.grownBy w' V.ownBlock) (hn : V'.ownBlock = V.ownBlock ∨ V'.ownBlock = some w.heap.size)
    (ht : TIn (fun k => Snc lo w k ∧ V.ownBlock ≠ some k ∧ k ≠ x) w v e) : KT lo x V' (es ++ [e]) (vs ++ [v]) w' := by
  have tr : ∀ {u : XV} {y : Ex}, TIn (fun k => Snc lo w k ∧ V.ownBlock ≠ some k ∧ k ≠ x) w u y → TIn (fun k => Snc lo w' k ∧ V'.ownBlock ≠ some k ∧ k ≠ x) w' u y := fun hu =>
    hu.of (fun k ⟨⟨h1, h2⟩, h4, h5⟩ => ⟨⟨h1, Nat.lt_of_lt_of_le h2 hg.size⟩, fun e => by
      rcases hn with h | h
      · exact h4 (by rw [← h]; exact e)
      · rw [h] at e; injection e with e; omega, h5⟩) (fun k ⟨⟨h1, h2⟩, h4, h5⟩ _ => hg.block k h2 (fun e => h4 e.symm)) hg.size
  refine ⟨ho, by simp [h.len], fun g hg' => ?_, fun i hi => ?_⟩
  · rcases hn with h1 | h1
    · exact h.apart g (by rw [← h1]; exact hg')
    · rw [h1] at hg'
      injection hg' with hg'
      omega
  · rcases Nat.lt_or_ge i es.length with h1 | h1
    · have e1 : (vs ++ [v]).getD i default = vs.getD i default := by simp [List.getD_eq_getElem?_getD, List.getElem?_append_left (show i < vs.length by rw [h.len]; exact h1)]
      have e2 : (es ++ [e]).getD i default = es.getD i default := by simp [List.getD_eq_getElem?_getD, List.getElem?_append_left h1]
      rw [e1, e2]
      exact tr (h.tree i h1)
    · obtain rfl : i = es.length := by simp at hi; omega
      have e1 : (vs ++ [v]).getD es.length default = v := by simp [List.getD_eq_getElem?_getD, ← h.len]
      have e2 : (es ++ [e]).getD es.length default = e := by simp [List.getD_eq_getElem?_getD]
      rw [e1, e2]
      exact tr ht
/-- A store into the box x. -/
theorem KT.set {lo x : Nat} {V : Value} {es : List Ex} {vs : List XV} {w : World} (h : KT lo x V es vs w) (o : Nat) (u : Value) : KT lo x V es vs (w.setCell ⟨x, o, none⟩ u) :=
  ⟨own_kept h.own (fun q hq => block_set _ _ _ (h.apart q hq)), h.len, h.apart, fun i hi =>
    (h.tree i hi).of (fun k ⟨⟨h1, h2⟩, h4⟩ => ⟨⟨h1, by simpa [World.setCell] using h2⟩, h4⟩) (fun k ⟨h1, h4, h5⟩ _ => block_set _ _ _ h5) (by simp [World.setCell])⟩
/-- A tree made since W lies apart from a row and a box that were there. -/
theorem TIn.apart {lo x : Nat} {V : Value} {W w : World} {v : XV} {e : Ex} (h : TIn (Snc W.heap.size w) w v e) (hlo : lo ≤ W.heap.size) (hx : x < W.heap.size) (hV : ∀ g, V.ownBlock = some g → g < W.heap.size) : TIn (fun k => Snc lo w k ∧ V.ownBlock ≠ some k ∧ k ≠ x) w v e :=
  h.mono (fun k ⟨h1, h2⟩ => ⟨⟨Nat.le_trans hlo h1, h2⟩, fun e => by have := hV k e; omega, by omega⟩)
theorem KT.fin {lo x : Nat} {es : List Ex} {vs : List XV} {w : World} {A : Option Addr} {n c : Nat} (h : KT lo x (.slice A n c) es vs w) : n = es.length ∧ n ≤ c ∧ c ≤ maxLen ∧ KRd (fun k => Snc lo w k ∧ k ≠ x) w A es := by
  obtain ⟨A', c', hV, hfit, hm, hrd, hg⟩ := h.own.form
  obtain ⟨rfl, rfl, rfl⟩ : A = A' ∧ n = vs.length ∧ c = c' := by simpa using hV
  refine ⟨h.len, hfit, hm, ?_⟩
  cases hes : es with
  | nil => exact .nil _
  | cons e0 r0 =>
    have h0 : 0 < vs.length := by rw [h.len, hes]; simp
    obtain ⟨g, rfl, hlo, hlt⟩ := hg h0
    obtain ⟨b', o', hA, hlt', hz⟩ := hrd (by intro e; rw [e] at h0; simp at h0)
    obtain ⟨rfl, rfl⟩ : g = b' ∧ 0 = o' := by simpa using hA
    rw [← hes]
    exact .row g 0 es vs ⟨⟨hlo, hlt⟩, h.apart g rfl⟩ hlt h.len (fun i hi => hz i (by rw [h.len]; exact hi)) (fun i hi => (h.tree i hi).1) (fun i hi => ((h.tree i hi).mono (fun k hk => ⟨hk.1, hk.2.2⟩)).2)
theorem KT.nil (lo x : Nat) (w : World) : KT lo x (.slice none 0 0) [] [] w := ⟨World.ownsRow_nil w lo _ 5, rfl, fun g hg => by simp [Value.ownBlock] at hg, fun i hi => by simp at hi⟩
theorem five_below (w : World) (g : Nat) (v0 v1 v2 v3 v4 : Value) : Below g w (((((w.setCell ⟨g, 0, none⟩ v0).setCell ⟨g, 1, none⟩ v1).setCell ⟨g, 2, none⟩ v2).setCell ⟨g, 3, none⟩ v3).setCell ⟨g, 4, none⟩ v4) :=
  (((((Below.refl g w).setCell (p := ⟨g, 0, none⟩) (Nat.le_refl _) _).setCell (p := ⟨g, 1, none⟩) (Nat.le_refl _) _).setCell (p := ⟨g, 2, none⟩) (Nat.le_refl _) _).setCell (p := ⟨g, 3, none⟩) (Nat.le_refl _) _).setCell (p := ⟨g, 4, none⟩) (Nat.le_refl _) _
theorem TIn.fiveT {lo g : Nat} {w : World} {v : XV} {e : Ex} {D : Nat → Prop} (h : TIn D w v e) (hD : ∀ k, D k → lo ≤ k ∧ k < w.heap.size ∧ k ≠ g) (v0 v1 v2 v3 v4 : Value) :
    TIn (Snc lo (((((w.setCell ⟨g, 0, none⟩ v0).setCell ⟨g, 1, none⟩ v1).setCell ⟨g, 2, none⟩ v2).setCell ⟨g, 3, none⟩ v3).setCell ⟨g, 4, none⟩ v4)) (((((w.setCell ⟨g, 0, none⟩ v0).setCell ⟨g, 1, none⟩ v1).setCell ⟨g, 2, none⟩ v2).setCell ⟨g, 3, none⟩ v3).setCell ⟨g, 4, none⟩ v4) v e :=
  h.of (fun k hk => ⟨(hD k hk).1, by have := (hD k hk).2.1; simpa [World.setCell] using this⟩) (fun k hk _ => by
    have hg := (hD k hk).2.2
    rw [block_set _ _ _ hg, block_set _ _ _ hg, block_set _ _ _ hg, block_set _ _ _ hg, block_set _ _ _ hg]) (by simp [World.setCell])
set_option maxHeartbeats 8000000 in
set_option maxRecDepth 100000 in
theorem group_all : ∀ d, GrC d := by
  intro d
  induction d using Nat.strongRecOn with
  | _ d ih =>
    intro L b A n c D w hT hn0 hn8 hL hQ hA hD hd
    obtain rfl : D = (d : Int) := hD.out
    clear hD
    have hlt := hT.lt
    have HT := Lib.hid hT
    have HQ := Lib.hid hQ
    have HA := Lib.hid hA
    have IH := Lib.hid ih
    have HR0 := Lib.hid (Blk.new w [.int .i64 0, .string ⟨#[]⟩, .int .i64 0, .int .i64 0, .slice none 0 0] 28 rfl)
    clear hT hQ hA ih
    go_enter Tryz.func62, Tryz.ntmps62
    go_upto_region 1 with fail
    go_cut [16] from 10 to 15 (fun y wx => ∃ B, y = .bool B ∧ Hid (B = false → 0 < d) ∧ Tp wx b ∧ Frm b w wx ∧ Blk wx w.heap.size [.int .i64 0, .string ⟨#[]⟩, .int .i64 0, .int .i64 0, .slice none 0 0])
    case first =>
      by_cases hd0 : d = 0
      · have b0 : ((d : Int) == 0) = true := by rw [beq_iff_eq]; omega
        go_wp2_with fail
        go_meet
        exact ⟨true, rfl, Lib.hid (fun h => by cases h), HT.out.up (newB _ _), Frm.up (newB _ _), HR0.out⟩
      · have b0 : ((d : Int) == 0) = false := by rw [beq_eq_false_iff_ne]; omega
        have hdp : 0 < d := by omega
        have HDP := Lib.hid hdp
        clear hd0
        go_wp2_with (go_at_call 60; refine (next_is b 4 _ (HT.out.up (newB _ _)) (by omega) (by omega)).mono ?_; rintro e W1 ⟨⟨v1, hv1, rfl⟩, ht, hf⟩; have HT1 := Lib.hid ht; have HF1 := Lib.hid ((Frm.up (newB _ _)).trans hf); have HR1 := Lib.hid (HR0.out.frm hf (by omega)); clear ht hf)
        go_meet
        exact ⟨_, rfl, Lib.hid (fun _ => HDP.out), HT1.out, HF1.out, HR1.out⟩
    case rest =>
      obtain ⟨B, rfl, hB, hT1, hF1, hR1⟩ := hcut
      have HT1 := Lib.hid hT1
      have HF1 := Lib.hid hF1
      have HR1 := Lib.hid hR1
      clear hT1 hF1 hR1 HT HR0
      cases B with
      | true =>
        go_wp2_with (first | (go_at_call 60; refine (next_is b (n : Int) _ HT1.out (by omega) (by omega)).mono ?_; rintro e W2 ⟨⟨v2, hv2, rfl⟩, ht, hf⟩; have hf2 := HF1.out.trans hf; have HT2 := Lib.hid ht; have HF2 := Lib.hid hf2; have hr2 := HR1.out.frm hf (by omega); have r0 := hr2.cell 0 rfl; have r1 := hr2.cell 1 rfl; have r2 := hr2.cell 2 rfl; have r3 := hr2.cell 3 rfl; have r4 := hr2.cell 4 rfl; have rf := hr2.fz; have rl := hr2.lt; obtain ⟨g, o, s, m, u, hAg, hg, hnm, x0, x1, x2⟩ := (HQ.out.frm hf2 HA.out).at_ (i := v2) (by have := hL.out; omega); have hv3 : v2 < n := (by omega); subst hAg; clear ht hf hf2 hr2 hv2))
        refine bodyPost_ret (v := xe 0 s m u none 0 0) (by simp [results, Tryz.results62, go_sem, r0, r1, r2, r3, r4, rf]) rfl ⟨⟨_, _, _, _, _, _, _, _, rfl, atom_tin _ s m u, .atom d _ ?_⟩, HT2.out.behind (five_below W2 w.heap.size _ _ _ _ _) hlt, HF2.out.behind (five_below W2 w.heap.size _ _ _ _ _) (Nat.le_refl _)⟩
        rw [← hnm.out]
        have := hL.out
        exact (by rw [List.getD_eq_getElem?_getD, List.getElem?_eq_getElem (by omega)]; exact List.getElem_mem _)
      | false =>
        have hdp := hB.out rfl
        obtain ⟨d', rfl⟩ : ∃ d', d = d' + 1 := ⟨d - 1, by omega⟩
        have IHd := Lib.hid (IH.out d' (Nat.lt_succ_self _))
        have M1 := Lib.hid trivial
        have e1 : IntKind.i64.wrap (d' : Int) = (d' : Int) := by rw [IntKind.wrap_i64]; omega
        clear hdp hB IH
        go_wp2_with (first
          | (go_at_call 60; clear M1; refine (next_is b 3 _ HT1.out (by omega) (by omega)).mono ?_; rintro e W2 ⟨⟨v2, hv2, rfl⟩, ht, hf⟩; have HT2 := Lib.hid ht; have HF2 := Lib.hid (HF1.out.trans hf); have HR2 := Lib.hid (HR1.out.frm hf (by omega)); have e2 : IntKind.i64.wrap (1 + (v2 : Int)) = 1 + (v2 : Int) := (by rw [IntKind.wrap_i64]; omega); clear ht hf)
          | (go_at_call 60; refine (next_is b (1 + (v2 : Int)) _ HT2.out (by omega) (by omega)).mono ?_; rintro e W3 ⟨⟨v3, hv3, rfl⟩, ht, hf⟩; have HT3 := Lib.hid ht; have HF3 := Lib.hid (HF2.out.trans hf); have HR3 := Lib.hid (HR2.out.frm hf (by omega)); have e3 : IntKind.i64.wrap (1 + (v3 : Int)) = 1 + (v3 : Int) := (by rw [IntKind.wrap_i64]; omega); clear ht hf))
        have hk3 := Blk.new W3 [.int .i64 (1 + (v3 : Int)), .string ⟨#[]⟩, .int .i64 0, .int .i64 0, .slice none 0 0] 28 rfl
        have hn3 := newB W3 (.cells #[.int .i64 (1 + (v3 : Int)), .string ⟨#[]⟩, .int .i64 0, .int .i64 0, .slice none 0 0] 28)
        have H4 : Hid (Tp (W3.alloc (.cells #[.int .i64 (1 + (v3 : Int)), .string ⟨#[]⟩, .int .i64 0, .int .i64 0, .slice none 0 0] 28)) b ∧ Frm b w (W3.alloc (.cells #[.int .i64 (1 + (v3 : Int)), .string ⟨#[]⟩, .int .i64 0, .int .i64 0, .slice none 0 0] 28)) ∧ Blk (W3.alloc (.cells #[.int .i64 (1 + (v3 : Int)), .string ⟨#[]⟩, .int .i64 0, .int .i64 0, .slice none 0 0] 28)) w.heap.size [.int .i64 0, .string ⟨#[]⟩, .int .i64 0, .int .i64 0, .slice none 0 0] ∧ Blk (W3.alloc (.cells #[.int .i64 (1 + (v3 : Int)), .string ⟨#[]⟩, .int .i64 0, .int .i64 0, .slice none 0 0] 28)) W3.heap.size [.int .i64 (1 + (v3 : Int)), .string ⟨#[]⟩, .int .i64 0, .int .i64 0, .slice none 0 0]) := ⟨HT3.out.up hn3, HF3.out.trans (Frm.up hn3), HR3.out.up hn3 HR3.out.lt, hk3⟩
        obtain ⟨x, hx⟩ : ∃ x, W3.heap.size = x := ⟨_, rfl⟩
        have hgx : w.heap.size < x := by rw [← hx]; exact HR3.out.lt
        have HGX := Lib.hid hgx
        rw [hx] at H4 ⊢
        clear hk3 hn3 hx HT3 HF3 HR3 HT2 HF2 HR2 HT1 HF1 HR1
        generalize W3.alloc (.cells #[.int .i64 (1 + (v3 : Int)), .string ⟨#[]⟩, .int .i64 0, .int .i64 0, .slice none 0 0] 28) = W4 at H4 ⊢
        go_loopw [9] (fun i wr => ∃ (j : Nat) (es : List Ex) (vs : List XV) (A2 : Option Addr) (nn2 c2 : Nat), j ≤ 1 + v2 ∧ i = .int .i64 j ∧ Hid (es.length = j) ∧ Hid (∀ e ∈ es, Mk L d' e) ∧ Hid (KT (w.heap.size + 1) x (.slice A2 nn2 c2) es vs wr) ∧ Hid (Tp wr b) ∧ Hid (Frm b w wr) ∧ Hid (Blk wr w.heap.size [.int .i64 0, .string ⟨#[]⟩, .int .i64 0, .int .i64 0, .slice none 0 0]) ∧ Hid (Blk wr x [.int .i64 (1 + (v3 : Int)), .string ⟨#[]⟩, .int .i64 0, .int .i64 0, .slice A2 nn2 c2])) (fun i _ => 1 + v2 - (intOf i).toNat)
        case atStart => exact ⟨0, [], [], none, 0, 0, by omega, rfl, rfl, Lib.hid (fun e h => by cases h), KT.nil _ _ _, H4.out.1, H4.out.2.1, H4.out.2.2.1, H4.out.2.2.2⟩
        case round =>
          obtain ⟨j, es, vs, A2, nn2, c2, hj, rfl, hes, hM, hK, hP, hF, hR, hX⟩ := hrel
          by_cases hjl : (j : Int) < 1 + (v2 : Int)
          · have e5 : IntKind.i64.wrap ((j : Int) + 1) = (j : Int) + 1 := by rw [IntKind.wrap_i64]; omega
            have hvs : Hid (vs.length + 1 ≤ 1000000) := by have h1 := hK.out.len; have h2 := hes.out; show _ ≤ _; omega
            have xc := hX.out.cell 4 rfl
            have xf := hX.out.fz
            have xl := hX.out.lt
            go_upto_region 8 with fail
            go_region_law (first
              | (refine step_app_expr rfl (.tmp 39) (.tmp 45) rfl (w.heap.size + 1) (.slice A2 nn2 c2) vs _ [⟨k', s', m', u', A', n', c'⟩] 1 1 rfl (by simp [Act.eval, Act.put]) (by simp [Act.eval, Act.put]) (own_kept HK8.out.own (fun g hg => (newB W8 _).block g (own_lt HK8.out.own hg).2)) (XRd.one_at _ _ ⟨k', s', m', u', A', n', c'⟩ rfl) hvs (Nat.le_trans HR8.out.lt (newB W8 _).size) ?_; intro V5 w5 ho5 hg5 hn5; obtain ⟨A5, c5, hV5, -, -, -, -⟩ := ho5.form; obtain ⟨k5, hk5⟩ : ∃ k5, Hid ((vs ++ [(⟨k', s', m', u', A', n', c'⟩ : XV)]).length = k5) := ⟨_, rfl⟩; rw [hk5.out] at hV5; subst hV5; have hrow : ∀ g, (Value.slice A2 nn2 c2).ownBlock = some g → w.heap.size + 1 ≤ g := (fun g hg => (own_lt HK8.out.own hg).1); have HK9 : Hid (KT (w.heap.size + 1) x (.slice A2 nn2 c2) es vs (W8.alloc (.cells #[.int .i64 k', .string s', .int .i64 m', .int .i64 u', .slice A' n' c'] 28))) := HK8.out.frm (b := b) (Frm.up (newB W8 (.cells #[.int .i64 k', .string s', .int .i64 m', .int .i64 u', .slice A' n' c'] 28))) (by omega); have HT9 : Hid (TIn (fun k => Snc (w.heap.size + 1) (W8.alloc (.cells #[.int .i64 k', .string s', .int .i64 m', .int .i64 u', .slice A' n' c'] 28)) k ∧ (Value.slice A2 nn2 c2).ownBlock ≠ some k ∧ k ≠ x) (W8.alloc (.cells #[.int .i64 k', .string s', .int .i64 m', .int .i64 u', .slice A' n' c'] 28)) ⟨k', s', m', u', A', n', c'⟩ y) := HY8.out.of (fun k hk => ⟨⟨hk.1.1, Nat.lt_of_lt_of_le hk.1.2 (newB W8 (.cells #[.int .i64 k', .string s', .int .i64 m', .int .i64 u', .slice A' n' c'] 28)).size⟩, hk.2⟩) (fun k hk _ => (newB W8 (.cells #[.int .i64 k', .string s', .int .i64 m', .int .i64 u', .slice A' n' c'] 28)).block k hk.1.2) (newB W8 (.cells #[.int .i64 k', .string s', .int .i64 m', .int .i64 u', .slice A' n' c'] 28)).size; have HK5 := Lib.hid (KT.app HK9.out (Nat.lt_of_lt_of_le HX8.out.lt (newB W8 (.cells #[.int .i64 k', .string s', .int .i64 m', .int .i64 u', .slice A' n' c'] 28)).size) ho5 hg5 hn5 HT9.out); have HP5 := Lib.hid ((HP8.out.up (newB W8 (.cells #[.int .i64 k', .string s', .int .i64 m', .int .i64 u', .slice A' n' c'] 28))).grown hg5 (fun g hg => by have := hrow g hg; omega)); have HF5 := Lib.hid ((HF8.out.trans (Frm.up (newB W8 (.cells #[.int .i64 k', .string s', .int .i64 m', .int .i64 u', .slice A' n' c'] 28)))).grown hg5 (fun g hg => by have := hrow g hg; omega)); have HR5 := Lib.hid ((HR8.out.up (newB W8 (.cells #[.int .i64 k', .string s', .int .i64 m', .int .i64 u', .slice A' n' c'] 28)) HR8.out.lt).of (hg5.block _ (Nat.lt_of_lt_of_le HR8.out.lt (newB W8 (.cells #[.int .i64 k', .string s', .int .i64 m', .int .i64 u', .slice A' n' c'] 28)).size) (fun e => by have := hrow _ e.symm; omega))); have HX5 := Lib.hid ((HX8.out.up (newB W8 (.cells #[.int .i64 k', .string s', .int .i64 m', .int .i64 u', .slice A' n' c'] 28)) HX8.out.lt).of (hg5.block _ (Nat.lt_of_lt_of_le HX8.out.lt (newB W8 (.cells #[.int .i64 k', .string s', .int .i64 m', .int .i64 u', .slice A' n' c'] 28)).size) (fun e => HK9.out.apart _ e.symm rfl))); clear xc xf xl; have xc := HX5.out.cell 4 rfl; have xf := HX5.out.fz; have xl := HX5.out.lt; clear ho5 hg5 hn5)
              | (go_simp; go_at_call 62; refine (IHd.out L b A n c (d' : Int) _ (hP.out.up (bdD (Below.refl _ _))) hn0 hn8 hL (HQ.out.frm (hF.out.trans (Frm.up (bdD (Below.refl _ _)))) HA.out) HA.out (Lib.hid rfl) (by omega)).mono ?_; rintro e W8 ⟨⟨k', s', m', u', A', n', c', y, rfl, ht, hmk⟩, hp8, hf8⟩; have hf9 : Frm b wr W8 := (Frm.up (bdD (Below.refl _ _))).trans hf8; have HP8 := Lib.hid hp8; have HF8 := Lib.hid (hF.out.trans hf9); have HR8 := Lib.hid (hR.out.frm hf9 (by omega)); have HX8 := Lib.hid (hX.out.frm hf9 (by omega)); have HK8 := Lib.hid (hK.out.frm hf9 (by omega)); have HY8 := Lib.hid (TIn.apart (lo := w.heap.size + 1) (x := x) (V := .slice A2 nn2 c2) ht (Nat.le_trans hR.out.lt (Nat.le_refl _)) hX.out.lt (fun g hg => (own_lt hK.out.own hg).2)); have HMK := Lib.hid hmk; clear xc xf xl; have xc := HX8.out.cell 4 rfl; have xf := HX8.out.fz; have xl := HX8.out.lt; clear hp8 hf8 hf9 ht hmk))
            all_goals (
              go_wp2
              have hgx := HGX.out
              have hsx : Below x w5 (w5.setCell ⟨x, 4, none⟩ (.slice A5 k5 c5)) := (Below.refl x w5).setCell (p := ⟨x, 4, none⟩) (Nat.le_refl _) _
              refine ⟨⟨j + 1, es ++ [y], vs ++ [(⟨k', s', m', u', A', n', c'⟩ : XV)], A5, k5, c5, by omega, by go_num, ?_, ?_, HK5.out.set 4 _, HP5.out.behind hsx (by omega), HF5.out.behind hsx (by omega), HR5.out.up hsx hgx, HX5.out.set 4 _⟩, by simp [intOf]; omega⟩
              · have := hes.out; show _ = _; simp; omega
              · exact Lib.hid (fun e he => by
                  rcases List.mem_append.1 he with h | h
                  · exact hM.out e h
                  · rw [List.mem_singleton] at h; rw [h]; exact HMK.out))
          · have hjn : j = 1 + v2 := by omega
            subst hjn
            obtain ⟨f1, f2, f3, f4⟩ := hK.out.fin
            have hF4 := Lib.hid f4
            have hnn : Hid (nn2 = 1 + v2) := by have := hes.out; show _ = _; omega
            have HCC := Lib.hid (And.intro f2 f3)
            have x0 := hX.out.cell 0 rfl
            have x1 := hX.out.cell 1 rfl
            have x2 := hX.out.cell 2 rfl
            have x3 := hX.out.cell 3 rfl
            have x4 := hX.out.cell 4 rfl
            have r0 := hR.out.cell 0 rfl
            have r1 := hR.out.cell 1 rfl
            have r2 := hR.out.cell 2 rfl
            have r3 := hR.out.cell 3 rfl
            have r4 := hR.out.cell 4 rfl
            have rf := hR.out.fz
            have rl := hR.out.lt
            clear f1 f2 f3 f4
            go_wp2
            refine bodyPost_ret (v := xe (1 + (v3 : Int)) ⟨#[]⟩ 0 0 A2 nn2 c2) (by simp [results, Tryz.results62, go_sem, r0, r1, r2, r3, r4, rf]) rfl ⟨⟨_, _, _, _, _, _, _, .nd (1 + (v3 : Int)) z3 es, rfl, TIn.fiveT (D := fun k => Snc (w.heap.size + 1) wr k ∧ k ≠ x) ⟨⟨?_, HCC.out.1, HCC.out.2⟩, hF4.out⟩ (fun k hk => ⟨Nat.le_of_succ_le hk.1.1, hk.1.2, fun e => by have := hk.1.1; omega⟩) _ _ _ _ _, .group d' _ _ (by omega) ?_ ?_ hM.out⟩, hP.out.behind (five_below wr w.heap.size _ _ _ _ _) hlt, hF.out.behind (five_below wr w.heap.size _ _ _ _ _) (Nat.le_refl _)⟩
            · have h1 := hes.out
              have h2 := hnn.out
              unfold XV.ks Ex.ks
              show (_, _, nn2) = (_, _, es.length)
              rw [h2, h1]
              rfl
            · have h1 := hes.out; omega
            · have h1 := hes.out; omega
end Go.Proofs.YtohjllnfnkajjaaGreat

namespace Go.Proofs.YtohjllnfnkajjaaGreat
open Go.RowKit
set_option linter.unusedVariables false
set_option linter.unusedSimpArgs false

/-- What dual leaves: a tree in new blocks. -/
def DuQ (y : Ex) (w : World) (x : Ending) (w' : World) : Prop := (∃ k s m u A n c, x = .returned (xe k s m u A n c) ∧ TIn (Snc w.heap.size w') w' ⟨k, s, m, u, A, n, c⟩ y) ∧ Below w.heap.size w w'
def DuOk (e : Ex) : Prop := Tr e → ∀ (k : Int) (s : ByteArray) (m u : Int) (A : Option Addr) (n c : Nat) (w : World), Hid (TIn (Lo w.heap.size) w ⟨k, s, m, u, A, n, c⟩ e) → Hid (e.cnt ≤ 1000) →
  Calls Tryz.prog 34 #[xe k s m u A n c] w (DuQ (dual e) w)
theorem KT.up {lo x : Nat} {V : Value} {es : List Ex} {vs : List XV} {w w' : World} (h : KT lo x V es vs w) (hb : Below w.heap.size w w') (h0 : 0 < lo) : KT lo x V es vs w' := h.frm (b := 0) (Frm.up hb) h0
set_option maxHeartbeats 16000000 in
set_option maxRecDepth 100000 in
theorem dual_all : ∀ e : Ex, DuOk e := by
  refine Ex.ind fun ek ea l ih => ?_
  intro htr k s m u A n c w HT hcnt
  obtain ⟨es_, em, eu⟩ := ea
  obtain ⟨a1, a2, a3, a4, b5, b6, b7⟩ := ks_at HT.out.1
  obtain rfl : k = ek := a1
  obtain rfl : s = es_ := a2
  obtain rfl : m = em := a3
  obtain rfl : u = eu := a4
  have hn : Hid (l.length = n) := b5.symm
  have HCC := Lib.hid (And.intro b6 b7)
  have HTR := Lib.hid htr
  clear b5 b6 b7 htr
  have HLN : Hid (n ≤ 1000) := Lib.hid (by have h1 := hcnt.out; rw [Ex.cnt] at h1; have h2 := cntL_len l; have h3 := hn.out; omega)
  by_cases hk : k = 0
  · have hl0 : l = [] := by
      have h := HTR.out
      cases h with
      | atom a => rfl
      | group k l h1 h2 h => omega
    subst hl0
    obtain rfl : n = 0 := hn.out.symm
    subst hk
    clear ih HTR hn HLN
    go_enter Tryz.func34, Tryz.ntmps34
    go_wp2
    refine bodyPost_ret (v := xe 0 s m u A 0 c) (by simp [results, Tryz.results34, go_sem]) rfl ⟨⟨_, _, _, _, _, _, _, rfl, ?_⟩, ?_⟩
    · rw [dual, if_pos rfl]
      exact ⟨⟨rfl, HCC.out.1, HCC.out.2⟩, .nil _⟩
    · first | exact newB _ _ | exact new2 _ _ _ | exact (((((new2 w _ _).setCell (p := ⟨w.heap.size + 1, 0, none⟩) (by simp) _).setCell (p := ⟨w.heap.size + 1, 1, none⟩) (by simp) _).setCell (p := ⟨w.heap.size + 1, 2, none⟩) (by simp) _).setCell (p := ⟨w.heap.size + 1, 3, none⟩) (by simp) _).setCell (p := ⟨w.heap.size + 1, 4, none⟩) (by simp) _
  · have hg : z3 = (s, m, u) ∧ 1 ≤ k ∧ k ≤ (n : Int) := by
      have h := HTR.out
      have h2 := hn.out
      cases h with
      | atom a => exact absurd rfl hk
      | group k l h1 h2 h => exact ⟨rfl, h1, by omega⟩
    obtain ⟨hz, hk1, hkn⟩ := hg
    simp only [Prod.mk.injEq] at hz
    obtain ⟨rfl, rfl, rfl⟩ := hz
    have hkk0 : ∀ f ∈ l, Tr f := fun f hf => HTR.out.kids hf
    have HKT := Lib.hid hkk0
    have hkb : (k == 0) = false := by rw [beq_eq_false_iff_ne]; exact hk
    have hln := HLN.out
    have q1 : IntKind.i64.wrap ((n : Int) - k) = (n : Int) - k := by rw [IntKind.wrap_i64]; omega
    have q2 : IntKind.i64.wrap ((n : Int) - k + 1) = (n : Int) - k + 1 := by rw [IntKind.wrap_i64]; omega
    obtain ⟨kk, hkk⟩ : ∃ kk, Hid ((n : Int) - k + 1 = kk) := ⟨_, Lib.hid rfl⟩
    have HKR : Hid (KRd (Lo w.heap.size) w A l) := HT.out.2
    have HE0 := Lib.hid ((((Blk.new w [.int .i64 k, .string ⟨#[]⟩, .int .i64 0, .int .i64 0, .slice A n c] 28 rfl).grow (.cells #[.int .i64 0, .string ⟨#[]⟩, .int .i64 0, .int .i64 0, .slice none 0 0] 28)).grow (.cells #[.int .i64 kk, .string ⟨#[]⟩, .int .i64 0, .int .i64 0, .slice none 0 0] 28)))
    have HR0 := Lib.hid ((Blk.new (w.alloc (.cells #[.int .i64 k, .string ⟨#[]⟩, .int .i64 0, .int .i64 0, .slice A n c] 28)) [.int .i64 0, .string ⟨#[]⟩, .int .i64 0, .int .i64 0, .slice none 0 0] 28 (g := w.heap.size + 1) (by simp)).grow (.cells #[.int .i64 kk, .string ⟨#[]⟩, .int .i64 0, .int .i64 0, .slice none 0 0] 28))
    have HX0 := Lib.hid (Blk.new ((w.alloc (.cells #[.int .i64 k, .string ⟨#[]⟩, .int .i64 0, .int .i64 0, .slice A n c] 28)).alloc (.cells #[.int .i64 0, .string ⟨#[]⟩, .int .i64 0, .int .i64 0, .slice none 0 0] 28)) [.int .i64 kk, .string ⟨#[]⟩, .int .i64 0, .int .i64 0, .slice none 0 0] 28 (g := w.heap.size + 1 + 1) (by simp))
    have HB0 := Lib.hid (new3 w (.cells #[.int .i64 k, .string ⟨#[]⟩, .int .i64 0, .int .i64 0, .slice A n c] 28) (.cells #[.int .i64 0, .string ⟨#[]⟩, .int .i64 0, .int .i64 0, .slice none 0 0] 28) (.cells #[.int .i64 kk, .string ⟨#[]⟩, .int .i64 0, .int .i64 0, .slice none 0 0] 28))
    clear HT hk hkk0
    go_enter Tryz.func34, Tryz.ntmps34
    go_upto_block 0 with fail
    rw [hkk.out]
    obtain ⟨x, hx⟩ : ∃ x, w.heap.size + 1 + 1 = x := ⟨_, rfl⟩
    rw [hx] at HX0 ⊢
    generalize (((w.alloc (.cells #[.int .i64 k, .string ⟨#[]⟩, .int .i64 0, .int .i64 0, .slice A n c] 28)).alloc (.cells #[.int .i64 0, .string ⟨#[]⟩, .int .i64 0, .int .i64 0, .slice none 0 0] 28)).alloc (.cells #[.int .i64 kk, .string ⟨#[]⟩, .int .i64 0, .int .i64 0, .slice none 0 0] 28)) = W4 at HE0 HR0 HX0 HB0 ⊢
    have HXX : Hid (w.heap.size + 1 + 1 = x) := Lib.hid hx
    clear hx q1 q2
    go_wp2
    go_loopw [4] (fun i wr => ∃ (j : Nat) (es : List Ex) (vs : List XV) (A2 : Option Addr) (nn2 c2 : Nat), j ≤ n ∧ i = .int .i64 j ∧ Hid (es = (l.take j).map dual) ∧ Hid (KT (w.heap.size + 2) x (.slice A2 nn2 c2) es vs wr) ∧ Hid (Blk wr w.heap.size [.int .i64 k, .string ⟨#[]⟩, .int .i64 0, .int .i64 0, .slice A n c]) ∧ Hid (Blk wr (w.heap.size + 1) [.int .i64 0, .string ⟨#[]⟩, .int .i64 0, .int .i64 0, .slice none 0 0]) ∧ Hid (Blk wr x [.int .i64 kk, .string ⟨#[]⟩, .int .i64 0, .int .i64 0, .slice A2 nn2 c2]) ∧ Hid (Below w.heap.size w wr)) (fun i _ => n - (intOf i).toNat)
    case atStart => exact ⟨0, [], [], none, 0, 0, by omega, rfl, Lib.hid (by simp), KT.nil _ _ _, HE0.out, HR0.out, HX0.out, HB0.out⟩
    case round =>
      obtain ⟨j, es, vs, A2, nn2, c2, hj, rfl, hes, hK, hE, hR, hX, hB⟩ := hrel
      obtain ⟨WR, hWR⟩ : ∃ W, W = wr := ⟨_, rfl⟩
      subst hWR
      have ec := hE.out.cell 4 rfl
      by_cases hjl : (j : Int) < (n : Int)
      · have hjl2 : j < l.length := by have := hn.out; omega
        have e5 : IntKind.i64.wrap ((j : Int) + 1) = (j : Int) + 1 := by rw [IntKind.wrap_i64]; omega
        have hlen : es.length = j := by rw [hes.out, List.length_map, List.length_take]; omega
        have hvs : Hid (vs.length + 1 ≤ 1000000) := Lib.hid (by rw [hK.out.len, hlen]; omega)
        have xc := hX.out.cell 4 rfl
        have xf := hX.out.fz
        have xl := hX.out.lt
        obtain ⟨g, o, ⟨k1, s1, m1, u1, A1, n1, c1⟩, rfl, hgb, hgs, ⟨z0, z1, z2, z3, z4⟩, hT1⟩ := (HKR.out.lo hB.out).at_ hjl2
        have HT1 := Lib.hid (hT1.mono (D' := Lo WR.heap.size) (fun b h => Nat.lt_of_lt_of_le h hB.out.size))
        have IH := Lib.hid (ih _ (getD_memX hjl2) (HKT.out _ (getD_memX hjl2)))
        have HCJ : Hid ((l.getD j default).cnt ≤ 1000) := Lib.hid (by have h1 := hcnt.out; rw [Ex.cnt] at h1; have h2 := cntL_le (getD_memX hjl2); omega)
        obtain ⟨y, hy⟩ : ∃ y, Hid (dual (l.getD j default) = y) := ⟨_, Lib.hid rfl⟩
        have hest : Hid (es ++ [y] = (l.take (j + 1)).map dual) := Lib.hid (by rw [take_snocX hjl2, List.map_append, ← hes.out, ← hy.out]; rfl)
        rw [hy.out] at IH
        have HLX : Hid (w.heap.size + 1 < x) := Lib.hid (by have := HXX.out; omega)
        have HLW : Hid (w.heap.size + 2 ≤ WR.heap.size) := Lib.hid (by have h1 := HXX.out; have h2 := hX.out.lt; omega)
        clear hT1 hlen
        go_upto_region 7 with fail
        go_region_law (first
          | (refine step_app_expr rfl (.tmp 25) (.tmp 32) rfl (w.heap.size + 2) (.slice A2 nn2 c2) vs _ [⟨k', s', m', u', A', n', c'⟩] 1 1 rfl (by simp [Act.eval, Act.put]) (by simp [Act.eval, Act.put]) (own_kept HK8.out.own (fun g hg => (newB W8 _).block g (own_lt HK8.out.own hg).2)) (XRd.one_at _ _ ⟨k', s', m', u', A', n', c'⟩ rfl) hvs (Nat.le_trans HLO8.out (newB W8 _).size) ?_; intro V5 w5 ho5 hg5 hn5; obtain ⟨A5, c5, hV5, -, -, -, -⟩ := ho5.form; obtain ⟨k5, hk5⟩ : ∃ k5, Hid ((vs ++ [(⟨k', s', m', u', A', n', c'⟩ : XV)]).length = k5) := ⟨_, rfl⟩; rw [hk5.out] at hV5; subst hV5; have hrow : ∀ g, (Value.slice A2 nn2 c2).ownBlock = some g → (w.heap.size + 2) ≤ g := (fun g hg => (own_lt HK8.out.own hg).1); have HK9 : Hid (KT (w.heap.size + 2) x (.slice A2 nn2 c2) es vs (W8.alloc (.cells #[.int .i64 k', .string s', .int .i64 m', .int .i64 u', .slice A' n' c'] 28))) := HK8.out.frm (b := w.heap.size) (Frm.up (newB W8 (.cells #[.int .i64 k', .string s', .int .i64 m', .int .i64 u', .slice A' n' c'] 28))) (by omega); have HT9 : Hid (TIn (fun k => Snc (w.heap.size + 2) (W8.alloc (.cells #[.int .i64 k', .string s', .int .i64 m', .int .i64 u', .slice A' n' c'] 28)) k ∧ (Value.slice A2 nn2 c2).ownBlock ≠ some k ∧ k ≠ x) (W8.alloc (.cells #[.int .i64 k', .string s', .int .i64 m', .int .i64 u', .slice A' n' c'] 28)) ⟨k', s', m', u', A', n', c'⟩ y) := HY8.out.of (fun k hk => ⟨⟨hk.1.1, Nat.lt_of_lt_of_le hk.1.2 (newB W8 (.cells #[.int .i64 k', .string s', .int .i64 m', .int .i64 u', .slice A' n' c'] 28)).size⟩, hk.2⟩) (fun k hk _ => (newB W8 (.cells #[.int .i64 k', .string s', .int .i64 m', .int .i64 u', .slice A' n' c'] 28)).block k hk.1.2) (newB W8 (.cells #[.int .i64 k', .string s', .int .i64 m', .int .i64 u', .slice A' n' c'] 28)).size; have HK5 := Lib.hid (KT.app HK9.out (Nat.lt_of_lt_of_le HX8.out.lt (newB W8 (.cells #[.int .i64 k', .string s', .int .i64 m', .int .i64 u', .slice A' n' c'] 28)).size) ho5 hg5 hn5 HT9.out); have HW5 := Lib.hid (gB_trans (gB_below (newB W8 (.cells #[.int .i64 k', .string s', .int .i64 m', .int .i64 u', .slice A' n' c'] 28)) (Nat.le_refl _)) hg5); have HX5 := Lib.hid ((HX8.out.up (newB W8 (.cells #[.int .i64 k', .string s', .int .i64 m', .int .i64 u', .slice A' n' c'] 28)) HX8.out.lt).of (hg5.block _ (Nat.lt_of_lt_of_le HX8.out.lt (newB W8 (.cells #[.int .i64 k', .string s', .int .i64 m', .int .i64 u', .slice A' n' c'] 28)).size) (fun e => HK9.out.apart _ e.symm rfl))); have HE5 := Lib.hid ((hE.out.up HB8.out hE.out.lt).up (newB W8 (.cells #[.int .i64 k', .string s', .int .i64 m', .int .i64 u', .slice A' n' c'] 28)) (Nat.lt_of_lt_of_le hE.out.lt HB8.out.size) |>.of (hg5.block _ (Nat.lt_of_lt_of_le (Nat.lt_of_lt_of_le hE.out.lt HB8.out.size) (newB W8 (.cells #[.int .i64 k', .string s', .int .i64 m', .int .i64 u', .slice A' n' c'] 28)).size) (fun e => by have := hrow _ e.symm; omega))); have HR5 := Lib.hid ((hR.out.up HB8.out hR.out.lt).up (newB W8 (.cells #[.int .i64 k', .string s', .int .i64 m', .int .i64 u', .slice A' n' c'] 28)) (Nat.lt_of_lt_of_le hR.out.lt HB8.out.size) |>.of (hg5.block _ (Nat.lt_of_lt_of_le (Nat.lt_of_lt_of_le hR.out.lt HB8.out.size) (newB W8 (.cells #[.int .i64 k', .string s', .int .i64 m', .int .i64 u', .slice A' n' c'] 28)).size) (fun e => by have := hrow _ e.symm; omega))); have HB5 := Lib.hid ((nx hB.out HB8.out).trans (gB_own HW5.out (fun g hg => Nat.le_trans (by omega) (hrow g hg)) (Nat.le_trans hB.out.size HB8.out.size))); clear xc xf xl; have xc := HX5.out.cell 4 rfl; have xf := HX5.out.fz; have xl := HX5.out.lt; clear ho5 hg5 hn5)
          | (go_simp; go_at_call 34; refine (IH.out k1 s1 m1 u1 A1 n1 c1 _ (HT1.out.up (bdD (Below.refl _ _))) HCJ).mono ?_; rintro e W8 ⟨⟨k', s', m', u', A', n', c', rfl, ht⟩, hb8⟩; have hb9 : Below WR.heap.size WR W8 := nx (bdD (Below.refl _ _)) hb8; have HB8 := Lib.hid hb9; have HX8 := Lib.hid (hX.out.up hb9 hX.out.lt); have HK8 := Lib.hid (hK.out.up hb9 (by omega)); have HLO8 : Hid ((w.heap.size + 2) ≤ W8.heap.size) := Lib.hid (Nat.le_trans HLX.out (Nat.le_of_lt HX8.out.lt)); have HY8 := Lib.hid (TIn.apart (lo := w.heap.size + 2) (x := x) (V := .slice A2 nn2 c2) ht HLW.out hX.out.lt (fun g hg => (own_lt hK.out.own hg).2)); clear xc xf xl; have xc := HX8.out.cell 4 rfl; have xf := HX8.out.fz; have xl := HX8.out.lt; clear hb8 hb9 ht))
        all_goals (
          go_wp2
          have hx1 := HXX.out
          exact ⟨⟨j + 1, es ++ [y], vs ++ [(⟨k', s', m', u', A', n', c'⟩ : XV)], A5, k5, c5, by omega, by go_num, hest, HK5.out.set 4 _, HE5.out.of (block_set _ _ _ (by omega)), HR5.out.of (block_set _ _ _ (by omega)), HX5.out.set 4 _, HB5.out.setCell (p := ⟨x, 4, none⟩) (show w.heap.size ≤ x by omega) _⟩, by simp [intOf]; omega⟩)
      · have hjn : j = n := by omega
        subst hjn
        obtain ⟨f1, f2, f3, f4⟩ := hK.out.fin
        have HF := Lib.hid (And.intro f1 (And.intro f2 (And.intro f3 f4)))
        have hes2 : Hid (es = l.map dual) := Lib.hid (by have h := hes.out; rw [List.take_of_length_le (by rw [hn.out]; exact Nat.le_refl _)] at h; exact h)
        have x0 := hX.out.cell 0 rfl
        have x1 := hX.out.cell 1 rfl
        have x2 := hX.out.cell 2 rfl
        have x3 := hX.out.cell 3 rfl
        have x4 := hX.out.cell 4 rfl
        have r0 := hR.out.cell 0 rfl
        have r1 := hR.out.cell 1 rfl
        have r2 := hR.out.cell 2 rfl
        have r3 := hR.out.cell 3 rfl
        have r4 := hR.out.cell 4 rfl
        have rf := hR.out.fz
        have rl := hR.out.lt
        clear f1 f2 f3 f4
        go_wp2
        refine bodyPost_ret (v := xe kk ⟨#[]⟩ 0 0 A2 nn2 c2) (by simp [results, Tryz.results34, go_sem, r0, r1, r2, r3, r4, rf]) rfl ⟨⟨_, _, _, _, _, _, _, rfl, ?_⟩, hB.out.trans ((five_below WR (w.heap.size + 1) _ _ _ _ _).mono (Nat.le_succ _))⟩
        have hd : dual (.nd k z3 l) = .nd kk z3 es := by rw [dual, if_neg (by omega), dualL_map, ← hes2.out, hn.out, hkk.out]
        rw [show (dual (.nd k (⟨#[]⟩, 0, 0) l)) = .nd kk z3 es from hd]
        refine TIn.fiveT (D := fun q => Snc (w.heap.size + 2) WR q ∧ q ≠ x) ⟨⟨?_, HF.out.2.1, HF.out.2.2.1⟩, HF.out.2.2.2⟩ (fun q hq => ⟨Nat.le_trans (by omega) hq.1.1, hq.1.2, fun e => by have := hq.1.1; omega⟩) _ _ _ _ _
        unfold XV.ks Ex.ks
        show (_, _, nn2) = (_, _, es.length)
        rw [HF.out.1]
        rfl
end Go.Proofs.YtohjllnfnkajjaaGreat
