/- Contracts of the mill: Expr. Contracts of the mill: Request, Light. Minimal sets as lists that are compared; the law's own helpers common, within, made, atom. Dual, Simplify of whatever expression; the statements' own example (chapter 9) in plain words. -/
import Derived.Test.YtohjllnfnkajjaaGreatQ5
import Derived.Test.YtohjllnfnkajjaaGreatRvx
import Derived.Test.YtohjllnfnkajjaaGreatQ6
import Derived.Test.YtohjllnfnkajjaaGreatQ2
namespace Go.Proofs.YtohjllnfnkajjaaGreat
open Go.RowKit
set_option linter.unusedVariables false
set_option linter.unusedSimpArgs false

/-- append of atoms at a step of a region that draws. -/
theorem step_app_atomT {w : World} {ops : Array Oper} {o : Oper} {a : Act} {K : Act → World → Prop} {Q : Exit → Act → World → Prop} {E : Prop} (hgd : o.guard = none) (s y : Operand)
    (ho : o.op = .call { callee := .builtin .append, args := #[s, y], argTypes := #[37, 37] })
    (base : Nat) (V : Value) (xs : List A3) (A : Option Addr) (ys : List A3) (n c : Nat) (hn : Hid (ys.length = n)) (hv : a.eval s = V) (hx : a.eval y = .slice A n c)
    (hd : OwnQ w base V xs) (hs : QRd w A ys) (hlen : Hid (xs.length + n ≤ 1000000)) (hbase : base ≤ w.heap.size)
    (h : ∀ V' w', OwnQ w' base V' (xs ++ ys) → w.grownBy w' V.ownBlock → K (a.put o.dst V') w') :
    if Region.wanted o (yielded ops a.tmps) = true then Oper.wp Tryz.prog o a w K Q else E := by
  have hw : Region.wanted o (yielded ops a.tmps) = true := by simp [Region.wanted, hgd]
  rw [if_pos hw]
  have hn' := hn.out
  subst hn'
  obtain ⟨i0, hi, hz0, hz1, hz2⟩ := info_parts atom_info
  have hl := hlen.out
  obtain ⟨v', w', hr, h2, h3, h4, h5⟩ := run_app (P := Tryz.prog) w base 37 37 o.type 25 i0 _ 3 32 Tryz.underlying37 hi hz0 hz1 hz2 rfl V xs.length (avs xs) _ ys.length (avs ys) (.inl hd)
    (Src.atoms Tryz.underlying37 c hs) (by simp only [maxLen]; omega) (fits_half (by omega)) hbase
  unfold Oper.wp execOp
  simp only [ho, resolve, invoke, builtin, Sem.run_bind, Sem.run_pure, Result.andThen_ok, List.map_toArray, List.map_cons, List.map_nil, hv, hx, hr]
  refine h v' w' ?_ (h4 hd)
  unfold OwnQ
  rw [List.length_append, avs_append]
  exact h2
theorem fit_usb {k u m n : Int} (h : fit k u m n = true) : usb m n = true := by
  have h1 := of_decide_eq_true h
  exact decide_eq_true (by omega)
/-- The mill's atoms. -/
def AtP (c : List P4) (l : List A3) : Prop := ∀ i, i < l.length → (l.getD i default).1 = nm6 i ∧ fit (c.getD i default).2.1 (c.getD i default).2.2.1 (l.getD i default).2.1 (l.getD i default).2.2 = true
theorem AtP.nil (c : List P4) : AtP c [] := fun i h => by simp at h
theorem AtP.snoc {c : List P4} {l : List A3} (h : AtP c l) {r : A3} (h1 : r.1 = nm6 l.length) (h2 : fit (c.getD l.length default).2.1 (c.getD l.length default).2.2.1 r.2.1 r.2.2 = true) : AtP c (l ++ [r]) := fun i hi => by
  rw [List.length_append, List.length_singleton] at hi
  rcases Nat.lt_or_ge i l.length with h3 | h3
  · rw [show (l ++ [r]).getD i default = l.getD i default by simp [List.getD_eq_getElem?_getD, List.getElem?_append_left h3]]
    exact h i h3
  · obtain rfl : i = l.length := by omega
    rw [show (l ++ [r]).getD l.length default = r by simp [List.getD_eq_getElem?_getD]]
    exact ⟨h1, h2⟩
theorem nm6_nam {i : Nat} (hi : i < 6) : Nam (nm6 i) := by
  have hc : i = 0 ∨ i = 1 ∨ i = 2 ∨ i = 3 ∨ i = 4 ∨ i = 5 := by omega
  rcases hc with rfl | rfl | rfl | rfl | rfl | rfl <;> exact ⟨by decide, by decide, by decide, fun i hi => by (obtain rfl : i = 0 := Nat.lt_one_iff.1 hi); decide, by kernel_rfl⟩
theorem nm6_inj {i j : Nat} (hj : j < 6) (h : i < j) : nm6 i ≠ nm6 j := by
  have := List.all_eq_true.1 (List.all_eq_true.1 (show ((List.range 6).all fun j => (List.range j).all fun i => !decide (nm6 i = nm6 j)) = true by kernel_rfl) j (List.mem_range.2 hj)) i (List.mem_range.2 h)
  exact of_decide_eq_false (by simpa using this)
theorem AtP.atl {c : List P4} {l : List A3} (h : AtP c l) (h6 : l.length = 6) : AtL l := by
  refine ⟨?_, fun a ha => ?_, by omega⟩
  · unfold Dist
    rw [List.pairwise_iff_getElem]
    intro i j hi hj hij e
    have h1 := (h i hi).1
    have h2 := (h j hj).1
    rw [List.getD_eq_getElem?_getD, List.getElem?_eq_getElem hi] at h1
    rw [List.getD_eq_getElem?_getD, List.getElem?_eq_getElem hj] at h2
    exact nm6_inj (by omega) hij (h1.symm.trans (e.trans h2))
  · obtain ⟨i, hi, rfl⟩ := List.getElem_of_mem ha
    have h1 := h i hi
    rw [List.getD_eq_getElem?_getD, List.getElem?_eq_getElem hi] at h1
    exact ⟨by have := h1.1; simp only [Option.getD_some] at this; rw [this]; exact nm6_nam (by omega), fit_usb h1.2⟩
theorem RRd.frm {w w' : World} {b : Nat} {A : Option Addr} {l : List P4} (h : RRd w A l) (hf : Frm b w w') (hA : ∀ g o, A = some ⟨g, o, none⟩ → g ≠ b) : RRd w' A l := fun hx => by
  obtain ⟨g, o, rfl, hlt, hc⟩ := h hx
  have hb := hf.block g hlt (fun e => hA g o rfl (by injection e))
  exact ⟨g, o, rfl, Nat.lt_of_lt_of_le hlt hf.size, fun i hi => by
    obtain ⟨h1, h2, h3, h4⟩ := hc i hi
    exact ⟨(cell_of_block hb _).trans h1, (cell_of_block hb _).trans h2, (cell_of_block hb _).trans h3, (cell_of_block hb _).trans h4⟩⟩
theorem div_wf {v : Nat} (h : (v : Int) < 1048576) (k : Nat) : (Lit.int .i64 ((v : Int) / 2 ^ k)).wf = true := by
  have h0 : (0 : Int) ≤ (v : Int) / 2 ^ k := Int.ediv_nonneg (Int.natCast_nonneg v) (Int.le_of_lt (Int.pow_pos (by decide)))
  have h1 : (v : Int) / 2 ^ k ≤ (v : Int) := Int.ediv_le_self _ (Int.natCast_nonneg v)
  exact Bool.and_eq_true_iff.2 ⟨decide_eq_true (show (-9223372036854775808 : Int) ≤ (v : Int) / 2 ^ k by omega), decide_eq_true (show (v : Int) / 2 ^ k ≤ (9223372036854775807 : Int) by omega)⟩
/-- What Expr leaves. -/
def ExM (l : List P4) (b : Nat) (w : World) : Ending → World → Prop := fun x w' =>
  (∃ k s m u A n c e, x = .returned (xe k s m u A n c) ∧ TIn (Snc w.heap.size w') w' ⟨k, s, m, u, A, n, c⟩ e ∧ Vex e ∧ ∃ q, q.length = 6 ∧ AtP l q ∧ Mk q 2 e) ∧ Tp w' b ∧ Frm b w w'
set_option maxHeartbeats 8000000 in
set_option maxRecDepth 100000 in
theorem mexpr_any (l : List P4) (b : Nat) (A : Option Addr) (c : Nat) (w : World) (hT : Tp w b) (h6 : Hid (l.length = 6)) (hC : Hid (CtP l)) (hR : RRd w A l) (hA : ∀ g o, A = some ⟨g, o, none⟩ → g ≠ b) :
    Calls Tryz.prog 35 #[.pointer (some ⟨b, 0, none⟩), .slice A 6 c] w (ExM l b w) := by
  have hlt := hT.lt
  have HT := Lib.hid (hT.up (newB w (.cells #[.int .i64 0, .string ⟨#[]⟩, .int .i64 0, .int .i64 0, .slice none 0 0] 28)))
  have HF := Lib.hid (Frm.up (b := b) (newB w (.cells #[.int .i64 0, .string ⟨#[]⟩, .int .i64 0, .int .i64 0, .slice none 0 0] 28)))
  have HR0 := Lib.hid (Blk.new w [.int .i64 0, .string ⟨#[]⟩, .int .i64 0, .int .i64 0, .slice none 0 0] 28 rfl)
  have HQ := Lib.hid hR
  have HA := Lib.hid hA
  clear hT hR hA
  go_enter Tryz.func35, Tryz.ntmps35
  go_wp2_with (go_at_call 60; refine (next_is b 1048576 _ HT.out (by omega) (by omega)).mono ?_; rintro e W1 ⟨⟨v1, hv1, rfl⟩, ht, hf⟩; have HT1 := Lib.hid ht; have HF1 := Lib.hid (HF.out.trans hf); have HR1 := Lib.hid (HR0.out.frm hf (by omega)); clear ht hf)
  go_loopw [6, 7] (fun V i wr => ∃ (j : Nat) (q : List A3) (A2 : Option Addr) (c2 : Nat), j ≤ 6 ∧ i = .int .i64 j ∧ V = .slice A2 j c2 ∧ Hid (q.length = j) ∧ Hid (AtP l q) ∧ Hid (OwnQ wr (w.heap.size + 1) (.slice A2 j c2) q) ∧ Hid (Tp wr b) ∧ Hid (Frm b w wr) ∧ Hid (Blk wr w.heap.size [.int .i64 0, .string ⟨#[]⟩, .int .i64 0, .int .i64 0, .slice none 0 0])) (fun _ i _ => 6 - (intOf i).toNat)
  case atStart => exact ⟨0, [], none, 0, by omega, rfl, rfl, rfl, AtP.nil _, OwnQ.nil _ _, HT1.out, HF1.out, HR1.out⟩
  case round =>
    obtain ⟨j, q, A2, c2, hj, rfl, rfl, hq, hP, hO, hT, hF, hR⟩ := hrel
    by_cases hj6 : (j : Int) < 6
    · have e5 : IntKind.i64.wrap ((j : Int) + 1) = (j : Int) + 1 := by rw [IntKind.wrap_i64]; omega
      have e3 : IntKind.i64.wrap (3 * (j : Int)) = 3 * (j : Int) := by rw [IntKind.wrap_i64]; omega
      have hvs : Hid (q.length + 1 ≤ 1000000) := by have := hq.out; show _ ≤ _; omega
      obtain ⟨g, o, s, k, u, hm, rfl, hg, hres, x0, x1, x2, x3⟩ := (HQ.out.frm hF.out HA.out).at_ (i := j) (by have := h6.out; omega)
      have hcr := hC.out j (by have := h6.out; omega)
      rw [hres.out] at hcr
      have HS : Hid (s = nm6 j) := hcr.1
      have HCR := Lib.hid hcr.2
      have hwf : Hid (∀ k : Nat, (Lit.int .i64 ((v1 : Int) / 2 ^ k)).wf = true) := Lib.hid (fun k => div_wf hv1 k)
      have HRES := hres
      clear hcr hres
      go_upto_region 6 with fail
      go_region_law (first
        | (refine step_app_atomT rfl (.tmp 16) (.tmp 33) rfl (w.heap.size + 1) (.slice A2 j c2) q _ [(s, m', v')] 1 1 rfl (by simp [Act.eval, Act.put]) (by simp [Act.eval, Act.put]) (own_kept HO8.out (fun g hg => (newB W8 _).block g (own_lt HO8.out hg).2)) (QRd.one_at _ _ s m' v' rfl) hvs (Nat.le_trans HR8.out.lt (newB W8 _).size) ?_; intro V5 w5 ho5 hg5; obtain ⟨A5, c5, hV5, -, -⟩ := ho5.form; obtain ⟨k5, hk5⟩ : ∃ k5, Hid ((q ++ [((s, m', v') : A3)]).length = k5) := ⟨_, rfl⟩; rw [hk5.out] at hV5; subst hV5; have HO5 := Lib.hid ho5; have hrow : ∀ g, (Value.slice A2 j c2).ownBlock = some g → w.heap.size + 1 ≤ g := (fun g hg => (own_lt HO8.out hg).1); have HP5 := Lib.hid ((HP8.out.up (newB W8 (.cells #[.string s, .int .i64 m', .int .i64 v'] 25))).grown hg5 (fun g hg => by have := hrow g hg; omega)); have HF5 := Lib.hid ((HF8.out.trans (Frm.up (newB W8 (.cells #[.string s, .int .i64 m', .int .i64 v'] 25)))).grown hg5 (fun g hg => by have := hrow g hg; omega)); have HR5 := Lib.hid ((HR8.out.up (newB W8 (.cells #[.string s, .int .i64 m', .int .i64 v'] 25)) HR8.out.lt).of (hg5.block _ (Nat.lt_of_lt_of_le HR8.out.lt (newB W8 (.cells #[.string s, .int .i64 m', .int .i64 v'] 25)).size) (fun e => by have := hrow _ e.symm; omega))); clear ho5 hg5)
        | (go_simp; go_at_call 61; refine (amount_any s k u hm _ _ (hwf.out _) HCR.out.1).mono ?_; rintro e W8 ⟨⟨m', v', hus, rfl⟩, hb8⟩; have hb9 : Below wr.heap.size wr W8 := (bdD (Below.refl _ _)).trans hb8; have HP8 := Lib.hid (hT.out.up hb9); have HF8 := Lib.hid (hF.out.trans (Frm.up hb9)); have HR8 := Lib.hid (hR.out.up hb9 hR.out.lt); have HO8 := Lib.hid (own_frm hO.out (Frm.up (b := b) hb9) (by omega)); have HUS := Lib.hid hus; have y0 := (hb9.cell (p := ⟨g, o + j * 4, none⟩) hg).trans x0; clear x0 x1 x2 x3 hb8 hb9 hus))
      all_goals (
        go_wp2
        have hq5 := hq.out
        have hk : k5 = j + 1 := by have h := hk5.out; rw [List.length_append, List.length_singleton] at h; omega
        subst hk
        refine ⟨⟨j + 1, q ++ [((s, m', v') : A3)], A5, c5, by omega, by go_num, rfl, ?_, ?_, HO5, HP5, HF5, HR5⟩, by simp [intOf]; omega⟩
        · show _ = _; simp; omega
        · refine hP.out.snoc ?_ ?_
          · show s = nm6 q.length
            rw [hq5]
            exact HS.out
          · rw [hq5, HRES.out]
            exact HUS.out)
    · have hj6' : j = 6 := by omega
      subst hj6'
      have HO6 := hO.out.form
      obtain ⟨A3', c3', hV3, hfit3, hQ3⟩ := HO6
      injection hV3 with e1 e2 e3
      subst e1 e3
      have hA3 : Hid (∀ g o, A2 = some ⟨g, o, none⟩ → g ≠ b) := Lib.hid (fun g o h => by
        have := (own_lt hO.out (g := g) (by rw [h]; rfl)).1
        omega)
      have HQ3 := Lib.hid hQ3
      have hvex : Hid (∀ e, Mk q 2 e → Vex e) := Lib.hid (fun e h => h.vex (hP.out.atl hq.out))
      have CG := group_all 2 q b A2 6 c2 2 wr hT.out (by omega) (by omega) hq HQ3.out hA3.out (Lib.hid (by rfl)) (by omega)
      have HCG := Lib.hid CG
      clear CG hQ3 hfit3 e2
      go_wp2_with (go_at_call 62; refine HCG.out.mono ?_; rintro e W5 ⟨⟨k', s', m', u', A', n', c', y, rfl, ht, hmk⟩, hp5, hf5⟩; have HP5 := Lib.hid hp5; have HF5 := Lib.hid (hF.out.trans hf5); have hr5 := hR.out.frm hf5 (by omega); have r0 := hr5.cell 0 rfl; have r1 := hr5.cell 1 rfl; have r2 := hr5.cell 2 rfl; have r3 := hr5.cell 3 rfl; have r4 := hr5.cell 4 rfl; have rf := hr5.fz; have rl := hr5.lt; have HTI := Lib.hid ht; have HMK := Lib.hid hmk; clear hp5 hf5 hr5 ht hmk)
      have hrl := hR.out.lt
      exact bodyPost_ret (v := xe k' s' m' u' A' n' c') (by simp [results, Tryz.results35, go_sem, r0, r1, r2, r3, r4, rf]) rfl ⟨⟨_, _, _, _, _, _, _, y, rfl, TIn.fiveT HTI.out (fun k hk => ⟨Nat.le_trans (Nat.le_of_lt hrl) hk.1, hk.2, fun e => by have := hk.1; omega⟩) _ _ _ _ _, hvex.out _ HMK.out, q, hq.out, hP.out, HMK.out⟩, HP5.out.behind (five_below W5 w.heap.size _ _ _ _ _) hlt, HF5.out.behind (five_below W5 w.heap.size _ _ _ _ _) (Nat.le_refl _)⟩
end Go.Proofs.YtohjllnfnkajjaaGreat

namespace Go.Proofs.YtohjllnfnkajjaaGreat
open Go.RowKit
set_option linter.unusedVariables false
set_option linter.unusedSimpArgs false

theorem light_is (A : Option Addr) (n c : Nat) (w : World) : Calls Tryz.prog 11 #[.slice A n c] w fun e w' => e = .returned (.bool (decide ((n : Int) ≤ 300))) ∧ w = w' := by
  go_enter Tryz.func11, Tryz.ntmps11
  go_wp2
  go_ret
  exact ⟨by simp, rfl⟩
/-- What Request leaves. -/
def ReM (b : Nat) (w : World) : Ending → World → Prop := fun x w' =>
  (∃ k s m u A n c p t e, x = .returned (rq k s m u A n c p t) ∧ TIn (Snc w.heap.size w') w' ⟨k, s, m, u, A, n, c⟩ e ∧ Vrq (e, p, t)) ∧ Tp w' b ∧ Frm b w w'
end Go.Proofs.YtohjllnfnkajjaaGreat

namespace Go.Proofs.YtohjllnfnkajjaaGreat
open Go.RowKit
set_option linter.unusedVariables false
set_option linter.unusedSimpArgs false

/-! ### Lists of sets: one, and few -/
theorem nodup_sub_len : ∀ (l m : List (List Nat)), l.Nodup → (∀ x ∈ l, x ∈ m) → l.length ≤ m.length
  | [], m, _, _ => by simp
  | x :: l, m, hl, hs => by
    have h1 := List.nodup_cons.1 hl
    have h2 := nodup_sub_len l (m.erase x) h1.2 (fun y hy => (List.mem_erase_of_ne (fun e => h1.1 (by rw [← e]; exact hy))).2 (hs y (by simp [hy])))
    have h3 := List.length_erase_of_mem (hs x (by simp))
    have h4 := List.length_pos_of_mem (hs x (by simp))
    rw [List.length_cons]
    omega
theorem MinOf.few {f : List Bool → Bool} {n : Nat} {X : List (List Nat)} (h : MinOf f n X) : X.length ≤ 2 ^ n := by
  have h1 := nodup_sub_len X ((List.range (2 ^ n)).map (bitL n)) (h.1.imp (fun {a b} hab e => by rw [e, lessB_irr] at hab; cases hab)) (fun x hx => by
    obtain ⟨b, hb, _, rfl⟩ := (h.2 x).1 hx
    exact List.mem_map.2 ⟨b, List.mem_range.2 hb, rfl⟩)
  rw [List.length_map, List.length_range] at h1
  exact h1
theorem MinOf.each {f : List Bool → Bool} {n : Nat} {X : List (List Nat)} (h : MinOf f n X) {s : List Nat} (hs : s ∈ X) : s.length ≤ n := by
  obtain ⟨b, _, _, rfl⟩ := (h.2 s).1 hs
  exact bitL_len n b
/-- What Minimal, or Blocking, answers. -/
def MnR (F : Ex → List A3 → List Bool → Bool) (e : Ex) (X : List (List Nat)) : Prop := (∃ L, VL e L ∧ MinOf (F e L) L.length X) ∨ (¬ Vex e ∧ X = [])
theorem MnR.uniq {F : Ex → List A3 → List Bool → Bool} {e : Ex} {X Y : List (List Nat)} (h : MnR F e X) (k : MnR F e Y) : X = Y := by
  rcases h with ⟨L, hL, hX⟩ | ⟨hv, rfl⟩
  · rcases k with ⟨M, hM, hY⟩ | ⟨hv, rfl⟩
    · obtain rfl : L = M := by
        have h1 := hL.2
        have h2 := hM.2
        rw [h1] at h2
        exact Option.some.inj h2
      exact hX.uniq hY
    · exact absurd hL.1 hv
  · rcases k with ⟨M, hM, hY⟩ | ⟨_, rfl⟩
    · exact absurd hM.1 hv
    · rfl
theorem MnR.few {F : Ex → List A3 → List Bool → Bool} {e : Ex} {X : List (List Nat)} (h : MnR F e X) : X.length ≤ 1000 ∧ ∀ s ∈ X, s.length ≤ 1000 := by
  rcases h with ⟨L, hL, hX⟩ | ⟨hv, rfl⟩
  · have h8 := hL.n8
    have h1 := hX.few
    have h2 := Nat.pow_le_pow_right (n := 2) (by omega) h8
    exact ⟨by omega, fun s hs => by have := hX.each hs; omega⟩
  · exact ⟨by simp, fun s hs => by cases hs⟩
theorem ofN_few {X : List (List Nat)} (h : ∀ s ∈ X, s.length ≤ 1000) : ∀ s ∈ ofN X, s.length ≤ 1000 := fun s hs => by
  obtain ⟨t, ht, rfl⟩ := List.mem_map.1 hs
  rw [List.length_map]
  exact h t ht
/-- A list of sets, and which. -/
def SetsQ (P : List (List Nat) → Prop) (w : World) (x : Ending) (w' : World) : Prop := (∃ X A c, x = .returned (.slice A X.length c) ∧ P X ∧ SRd w' A (ofN X) ∧ X.length ≤ c) ∧ Below w.heap.size w w'
abbrev holdF (e : Ex) (L : List A3) : List Bool → Bool := e.hld L
theorem VL.ex9 {e : Ex} (h : Vex e) : ∃ L, VL e L := VL.ex h
/-- The reference's Minimal of whatever expression. -/
theorem rmin_is {e : Ex} (k : Int) (s : ByteArray) (m u : Int) (A : Option Addr) (n c : Nat) (w : World) (hT : TIn (Lo w.heap.size) w ⟨k, s, m, u, A, n, c⟩ e) :
    Calls Tryz.prog 28 #[xe k s m u A n c] w (SetsQ (MnR holdF e) w) := by
  by_cases hv : Vex e
  · obtain ⟨L, hL⟩ := VL.ex9 hv
    exact (rmin_yes k s m u A n c w hT (Lib.hid hL)).mono fun x w' h => by
      obtain ⟨⟨X, A', c', h1, h2, h3, h4⟩, h5⟩ := h
      exact ⟨⟨X, A', c', h1, .inl ⟨L, hL, h2⟩, h3, h4⟩, h5⟩
  · exact (rmin_no k s m u A n c w hT (Lib.hid hv)).mono fun x w' h => ⟨⟨[], none, 0, h.1, .inr ⟨hv, rfl⟩, fun hx => absurd rfl hx, Nat.le_refl _⟩, h.2⟩
theorem rblk_is {e : Ex} (k : Int) (s : ByteArray) (m u : Int) (A : Option Addr) (n c : Nat) (w : World) (hT : TIn (Lo w.heap.size) w ⟨k, s, m, u, A, n, c⟩ e) :
    Calls Tryz.prog 10 #[xe k s m u A n c] w (SetsQ (MnR blkF e) w) := by
  by_cases hv : Vex e
  · obtain ⟨L, hL⟩ := VL.ex9 hv
    exact (rBlk_yes k s m u A n c w hT (Lib.hid hL)).mono fun x w' h => by
      obtain ⟨⟨X, A', c', h1, h2, h3, h4⟩, h5⟩ := h
      exact ⟨⟨X, A', c', h1, .inl ⟨L, hL, h2⟩, h3, h4⟩, h5⟩
  · exact (rBlk_no k s m u A n c w hT (Lib.hid hv)).mono fun x w' h => ⟨⟨[], none, 0, h.1, .inr ⟨hv, rfl⟩, fun hx => absurd rfl hx, Nat.le_refl _⟩, h.2⟩
/-! ### common, within -/
theorem decB_false {p : Prop} [Decidable p] {r : Bool} (h : decide p = r) (hn : ¬ p) : r = false := by rw [← h]; exact decide_eq_false hn
theorem atom9_is (s : ByteArray) (w : World) : Calls Tryz.prog 29 #[.string s] w fun x w' => x = .returned (xe 0 s 3 0 none 0 0) ∧ Below w.heap.size w w' := by
  go_enter Tryz.func29, Tryz.ntmps29
  go_wp2
  exact bodyPost_ret (v := xe 0 s 3 0 none 0 0) (by simp [results, Tryz.results29, go_sem]) rfl ⟨rfl, newB _ _⟩
/-! ### made -/
theorem tape_new9 {W : World} {A : Option Addr} {n c : Nat} {xs : List Int} (h : InI W A n c xs) (hn : n ≤ 300) : Tp (W.alloc (.cells #[.slice A n c, .int .i64 0] 55)) W.heap.size := by
  have hk := Blk.new W [.slice A n c, .int .i64 0] 55 rfl
  refine ⟨A, n, c, xs, 0, hk.lt, hk.cell 0 rfl, hk.cell 1 rfl, hk.fz, h.len, fun h0 => ?_, h.wf, hn, Nat.zero_le _, h.fit⟩
  obtain ⟨g, o, hA, hg, hc⟩ := h.rd (by rintro rfl; have := h.len; simp at this; omega)
  exact ⟨g, o, hA, hg, fun j hj => (cell_of_block ((newB W _).block g hg) _).trans (hc j (by rw [h.len]; exact hj))⟩
/-- An expression of numbers. -/
def MdQ (w : World) (x : Ending) (w' : World) : Prop := (∃ k s m u A n c e L, x = .returned (xe k s m u A n c) ∧ TIn (Lo w'.heap.size) w' ⟨k, s, m, u, A, n, c⟩ e ∧ VL e L) ∧ Below w.heap.size w w'
theorem InI.below9 {w w' : World} {A : Option Addr} {n c : Nat} {xs : List Int} (h : InI w A n c xs) (hb : Below w.heap.size w w') : InI w' A n c xs := ⟨h.len, h.rd.below hb, h.fit, h.small, h.wf⟩
set_option maxHeartbeats 4000000 in
set_option maxRecDepth 8000 in
theorem made_is (xs : List Int) (A : Option Addr) (n c : Nat) (w : World) (hI : InI w A n c xs) (hn : n ≤ 300) :
    Calls Tryz.prog 12 #[.slice A n c] w (MdQ w) := by
  have HR0 := Lib.hid ((Blk.new w [.int .i64 0, .string ⟨#[]⟩, .int .i64 0, .int .i64 0, .slice none 0 0] 28 rfl).grow (.cells #[.slice A n c, .int .i64 0] 55))
  have HT0 := tape_new9 (hI.below9 (newB w (.cells #[.int .i64 0, .string ⟨#[]⟩, .int .i64 0, .int .i64 0, .slice none 0 0] 28))) hn
  have HB0 := Lib.hid (new2 w (.cells #[.int .i64 0, .string ⟨#[]⟩, .int .i64 0, .int .i64 0, .slice none 0 0] 28) (.cells #[.slice A n c, .int .i64 0] 55))
  rw [show (w.alloc (.cells #[.int .i64 0, .string ⟨#[]⟩, .int .i64 0, .int .i64 0, .slice none 0 0] 28)).heap.size = w.heap.size + 1 by simp] at HT0
  have HT := Lib.hid HT0
  clear HT0 hI
  go_enter Tryz.func12, Tryz.ntmps12
  go_upto_region 2 with fail
  obtain ⟨b, hb⟩ : ∃ b, w.heap.size + 1 = b := ⟨_, rfl⟩
  have hbH := Lib.hid hb
  rw [hb] at HT ⊢
  have hbw : Hid (w.heap.size ≤ b) := Lib.hid (by omega)
  have hbl := Lib.hid HT.out.lt
  generalize ((w.alloc (.cells #[.int .i64 0, .string ⟨#[]⟩, .int .i64 0, .int .i64 0, .slice none 0 0] 28)).alloc (.cells #[.slice A n c, .int .i64 0] 55)) = W0 at HR0 HT HB0 hbl ⊢
  clear hb
  go_wp2_with (first
      | (go_at_call 36; refine (catalog_any b _ HT.out).mono ?_; rintro e W1 ⟨⟨A3', c3, l, rfl, hl6, hC, hO⟩, ht, hf⟩; have HT1 := Lib.hid ht; have HF1 := Lib.hid hf; have hL6 := Lib.hid hl6; have HC := Lib.hid hC; have hA1 : Hid (∀ g o, A3' = some ⟨g, o, none⟩ → g ≠ b) := Lib.hid (fun g o h => by have h1 := (own_lt hO (g := g) (by rw [h]; rfl)).1; have h2 := hbl.out; omega); have hR1 : Hid (RRd W1 A3' l) := Lib.hid (by obtain ⟨A4, c4, hV, h1, h2, h3⟩ := hO.form; injection hV with q1; rw [q1]; exact h2); clear ht hf hl6 hC hO)
      | (go_at_call 35; refine (mexpr_any l b A3' c3 _ HT1.out hL6 HC hR1.out hA1.out).mono ?_; rintro e W2 ⟨⟨k0, s0, m0, u0, Ak, nk, ck, e0, rfl, ht, hv, -⟩, hp2, hf2⟩; have HR2 := Lib.hid ((HR0.out.frm HF1.out (by have := hbH.out; omega)).frm hf2 (by have := hbH.out; omega)); have HB2 : Hid (Below w.heap.size w W2) := Lib.hid (HB0.out.trans (((HF1.out.trans hf2).below (Nat.le_of_lt hbl.out)).mono hbw.out)); have HT2 := Lib.hid ht; have HLW := Lib.hid (show w.heap.size < W1.heap.size from Nat.lt_of_lt_of_le (Nat.lt_of_le_of_lt hbw.out hbl.out) HF1.out.size); have HV := Lib.hid hv; have r0 := HR2.out.cell 0 rfl; have r1 := HR2.out.cell 1 rfl; have r2 := HR2.out.cell 2 rfl; have r3 := HR2.out.cell 3 rfl; have r4 := HR2.out.cell 4 rfl; have rf := HR2.out.fz; have rl := HR2.out.lt; clear ht hv hp2 hf2))
  obtain ⟨L, hL0⟩ := VL.ex HV.out
  refine bodyPost_ret (v := xe k0 s0 m0 u0 Ak nk ck) (by simp [results, Tryz.results12, go_sem, r0, r1, r2, r3, r4, rf]) rfl ⟨⟨_, _, _, _, _, _, _, e0, L, rfl, ?_, hL0⟩, HB2.out.trans (five_below W2 w.heap.size _ _ _ _ _)⟩
  exact (TIn.fiveT (lo := 0) (D := Snc W1.heap.size W2) HT2.out (fun q hq => ⟨Nat.zero_le _, hq.2, fun e => by have h1 := hq.1; have h2 := HLW.out; omega⟩) _ _ _ _ _).mono (fun q hq => hq.2)
/-! ### within -/
def allB (s : List Nat) (S : List Bool) (k : Nat) : Bool := (s.take k).all fun i => S.getD i false
theorem allB_succ {s : List Nat} {S : List Bool} {k : Nat} (hk : k < s.length) : allB s S (k + 1) = (allB s S k && S.getD (s.getD k 0) false) := by
  unfold allB
  rw [take_snocD (d := 0) hk, List.all_append]
  simp
def inB9 (X : List (List Nat)) (S : List Bool) : Bool := X.any fun s => s.all fun i => S.getD i false
theorem inB9_iff {X : List (List Nat)} {S : List Bool} : inB9 X S = true ↔ ∃ s ∈ X, ∀ i ∈ s, S.getD i false = true := by
  unfold inB9
  rw [List.any_eq_true]
  exact exists_congr fun s => and_congr Iff.rfl (by rw [List.all_eq_true])
theorem getD_ofN {X : List (List Nat)} {j : Nat} (hj : j < X.length) : (ofN X).getD j [] = (X.getD j []).map Int.ofNat := by
  simp [List.getD_eq_getElem?_getD, List.getElem?_eq_getElem hj]
theorem getD_mapN {s : List Nat} {k : Nat} (hk : k < s.length) : (s.map Int.ofNat).getD k 0 = ((s.getD k 0 : Nat) : Int) := by
  simp [List.getD_eq_getElem?_getD, List.getElem?_eq_getElem hk]
set_option maxHeartbeats 4000000 in
set_option maxRecDepth 8000 in
theorem within9_is (X : List (List Nat)) (S : List Bool) (A : Option Addr) (n c : Nat) (B : Option Addr) (m cq : Nat) (w : World) (r : Bool) (hX : SRd w A (ofN X)) (hS : SI w S B m) (hn : Hid (X.length = n)) (hs : Hid (∀ s ∈ X, s.length ≤ 1000)) (hl : n ≤ 1000) (hr : Hid (inB9 X S = r)) :
    Calls Tryz.prog 16 #[.slice A n c, .slice B m cq] w fun x w' => x = .returned (.bool r) ∧ Below w.heap.size w w' := by
  have HX := Lib.hid hX
  have HS := Lib.hid hS
  have hmm := Lib.hid hS.sn
  clear hX hS
  go_enter Tryz.func16, Tryz.ntmps16
  go_wp2
  go_loopw [5] (fun i wr => ∃ (j : Nat), j ≤ n ∧ i = .int .i64 j ∧ Hid (∀ i, i < j → ((X.getD i []).all fun i => S.getD i false) = false) ∧ Hid (Below w.heap.size w wr)) (fun i _ => n - (intOf i).toNat)
  case atStart => exact ⟨0, by omega, rfl, Lib.hid (fun i hi => absurd hi (Nat.not_lt_zero i)), Below.refl _ _⟩
  case round =>
    obtain ⟨j, hj, rfl, hE, hB⟩ := hrel
    obtain ⟨WR, hWR⟩ : ∃ W, W = wr := ⟨_, rfl⟩
    subst hWR
    by_cases hlt : (j : Int) < (n : Int)
    · have hjn : j < n := by omega
      have hjX : j < X.length := by have := hn.out; omega
      have e5 : IntKind.i64.wrap ((j : Int) + 1) = (j : Int) + 1 := by rw [IntKind.wrap_i64]; omega
      obtain ⟨g, o, A1, n1, c1, rfl, hg, z1, hn1, hc1, hr1⟩ := (HX.out.below hB.out).at_ (i := j) (by rw [List.length_map]; exact hjX)
      rw [getD_ofN hjX] at hn1 hr1
      obtain ⟨s, hs1⟩ : ∃ s, Hid (X.getD j [] = s) := ⟨_, Lib.hid rfl⟩
      rw [hs1.out] at hn1 hr1
      have hn2 : Hid (s.length = n1) := Lib.hid (by have := hn1.out; rw [List.length_map] at this; exact this)
      have hmem : s ∈ X := by rw [← hs1.out, List.getD_eq_getElem?_getD, List.getElem?_eq_getElem hjX]; exact List.getElem_mem hjX
      have hn1k : n1 ≤ 1000 := by have h1 := hs.out _ hmem; rw [hn2.out] at h1; exact h1
      have HM := Lib.hid hmem
      have HR1 := Lib.hid hr1
      have HG := Lib.hid hg
      clear hr1 hc1 hn1 hmem
      go_wp2_with fail
      go_loopw [6, 7] (fun l i wz => ∃ (q : Nat), q ≤ n1 ∧ l = .bool (allB s S q) ∧ i = .int .i64 q ∧ Hid (Below WR.heap.size WR wz)) (fun _ i _ => n1 - (intOf i).toNat)
      case atStart => exact ⟨0, by omega, rfl, rfl, Below.refl _ _⟩
      case round =>
        obtain ⟨q, hq, rfl, rfl, hZ⟩ := hrel
        have p1 := (hZ.out.cell (p := ⟨g, o + j, none⟩) HG.out).trans z1
        by_cases hqt : (q : Int) < (n1 : Int)
        · have hqn : q < n1 := by omega
          have hqs : q < s.length := by have := hn2.out; omega
          have e6 : IntKind.i64.wrap ((q : Int) + 1) = (q : Int) + 1 := by rw [IntKind.wrap_i64]; omega
          obtain ⟨b1, o1, rfl, hb1, y1⟩ := (HR1.out.below hZ.out).at_ (i := q) (by rw [List.length_map]; exact hqs)
          rw [getD_mapN hqs] at y1
          have hal := allB_succ (S := S) hqs
          obtain ⟨i, hi⟩ : ∃ i, Hid (s.getD q 0 = i) := ⟨_, Lib.hid rfl⟩
          rw [hi.out] at hal y1
          obtain ⟨β, hβ⟩ : ∃ β, Hid (allB s S q = β) := ⟨_, Lib.hid rfl⟩
          rw [hβ.out] at hal ⊢
          cases β with
          | false =>
            have HAL : Hid (allB s S (q + 1) = false) := Lib.hid (by rw [hal, Bool.false_and])
            clear hal
            go_wp2
            go_roundw
            case rel => exact ⟨q + 1, by omega, by rw [HAL.out], by go_num, hZ.out⟩
            case measure => simp [intOf]; omega
          | true =>
            rw [Bool.true_and] at hal
            have i0 : (0 : Int) ≤ (i : Int) := by omega
            by_cases hiq : (i : Int) < (m : Int)
            · have him : i < m := by omega
              obtain ⟨gb, ob, hBb, hgb, hcb⟩ := (HS.out.below (nx hB.out hZ.out)).sr (by intro e; have := hmm.out; rw [e] at this; simp at this; omega)
              subst hBb
              have x0 := hcb i (by have := hmm.out; omega)
              obtain ⟨γ, hγ⟩ : ∃ γ, Hid (S.getD i false = γ) := ⟨_, Lib.hid rfl⟩
              rw [hγ.out] at hal x0
              have HAL := Lib.hid hal
              clear hal hcb
              go_wp2
              go_roundw
              case rel => exact ⟨q + 1, by omega, by rw [HAL.out], by go_num, hZ.out⟩
              case measure => simp [intOf]; omega
            · have HAL : Hid (allB s S (q + 1) = false) := Lib.hid (by rw [hal, List.getD_eq_getElem?_getD, List.getElem?_eq_none (by have := hmm.out; omega)]; rfl)
              clear hal
              go_wp2
              go_roundw
              case rel => exact ⟨q + 1, by omega, by rw [HAL.out], by go_num, hZ.out⟩
              case measure => simp [intOf]; omega
        · have hqe : q = n1 := by omega
          have hall : allB s S q = s.all fun i => S.getD i false := by unfold allB; rw [List.take_of_length_le (by rw [hn2.out]; omega)]
          obtain ⟨β, hβ⟩ : ∃ β, Hid (allB s S q = β) := ⟨_, Lib.hid rfl⟩
          rw [hβ.out] at hall ⊢
          cases β with
          | false =>
            have hE2 : Hid (∀ i, i < j + 1 → ((X.getD i []).all fun i => S.getD i false) = false) := Lib.hid (fun i hi => by
              by_cases e : i = j
              · subst e; rw [hs1.out]; exact hall.symm
              · exact hE.out i (by omega))
            clear hall
            go_wp2
            go_roundw
            case rel => exact ⟨j + 1, by omega, by go_num, hE2, nx hB.out hZ.out⟩
            case measure => simp [intOf]; omega
          | true =>
            have hend : Hid (r = true) := Lib.hid (by
              rw [← hr.out]
              unfold inB9
              rw [List.any_eq_true]
              exact ⟨s, HM.out, hall.symm⟩)
            clear hall
            go_wp2
            go_ret
            exact ⟨ret_bool hend.out.symm, nx hB.out hZ.out⟩
    · have hend : Hid (r = false) := Lib.hid (by
        rw [← hr.out]
        unfold inB9
        rw [List.any_eq_false]
        intro s hm
        obtain ⟨k, hk, he⟩ := List.mem_iff_getElem.1 hm
        have h1 := hE.out k (by have := hn.out; omega)
        rw [List.getD_eq_getElem?_getD, List.getElem?_eq_getElem hk] at h1
        rw [← he]
        simp only [Option.getD_some] at h1
        rw [h1]
        decide)
      go_wp2
      go_ret
      exact ⟨ret_bool hend.out.symm, hB.out⟩
end Go.Proofs.YtohjllnfnkajjaaGreat

namespace Go.Proofs.YtohjllnfnkajjaaGreat
open Go.RowKit
set_option linter.unusedVariables false
set_option linter.unusedSimpArgs false

noncomputable def dual9 (e : Ex) : Ex := @ite _ (Vex e) (Classical.propDecidable _) (dual e) Ex.zero
noncomputable def smp9 (e : Ex) : Ex := @ite _ (Vex e) (Classical.propDecidable _) (smp e) Ex.zero
theorem dual9_yes {e : Ex} (h : Vex e) : dual9 e = dual e := by unfold dual9; rw [if_pos h]
theorem dual9_no {e : Ex} (h : ¬ Vex e) : dual9 e = Ex.zero := by unfold dual9; rw [if_neg h]
theorem smp9_yes {e : Ex} (h : Vex e) : smp9 e = smp e := by unfold smp9; rw [if_pos h]
theorem smp9_no {e : Ex} (h : ¬ Vex e) : smp9 e = Ex.zero := by unfold smp9; rw [if_neg h]
/-! ### The example -/
/-- An atom on a lock in mode S. -/
def atE (s : ByteArray) : Ex := .nd 0 (s, 3, 0) []
abbrev sA : ByteArray := ⟨#[97]⟩
abbrev sB : ByteArray := ⟨#[98]⟩
abbrev sC : ByteArray := ⟨#[99]⟩
def exL : List A3 := [(sA, 3, 0), (sB, 3, 0), (sC, 3, 0)]
def ex9 : Ex := .nd 2 z3 [atE sA, atE sB, atE sC]
theorem nam1 {s : ByteArray} (hs : s.size = 1) (h : ltr (byt s 0) = true) (hp : prt (byt s 0) = true) (hr : rsv s = false) : Nam s := ⟨by omega, by omega, h, (fun i hi => by
  have e : i = 0 := by omega
  rw [e]; exact hp), hr⟩
theorem grp_atom0 (a : A3) : grp (.nd 0 a []) = false := by unfold grp; simp [Ex.k]
theorem vld_one {a : A3} {l : List A3} (x : List Ex) (hn : Nam a.1) (hu : usb a.2.1 a.2.2 = true) : vld (.nd 0 a [] :: x) l = if (incl l a).2 = 0 then vld x (incl l a).1 else none := by
  rw [vld, grp_atom0, if_neg (by decide), if_pos (atm_mk (e := .nd 0 a []) ⟨rfl, rfl, hn, hu⟩)]
  rfl
theorem ex9_vl : VL ex9 exL := by
  have nA : Nam sA := nam1 (by decide) (by decide) (by decide) (by kernel_rfl)
  have nB : Nam sB := nam1 (by decide) (by decide) (by decide) (by kernel_rfl)
  have nC : Nam sC := nam1 (by decide) (by decide) (by decide) (by kernel_rfl)
  have hv : vld ex9.pre [] = some exL := by
    show vld (ex9 :: atE sA :: atE sB :: atE sC :: []) [] = some exL
    rw [vld, if_pos (by decide)]
    unfold atE
    rw [vld_one _ nA (by decide), if_pos (by decide), vld_one _ nB (by decide), if_pos (by decide), vld_one _ nC (by decide), if_pos (by decide)]
    rfl
  exact ⟨⟨by decide, by decide, _, hv⟩, hv⟩
def X9 : List (List Nat) := [[0, 1], [0, 2], [1, 2]]
theorem ex9_m0 : minB (ex9.hld exL) 3 0 = false := by kernel_rfl
theorem ex9_m1 : minB (ex9.hld exL) 3 1 = false := by kernel_rfl
theorem ex9_m2 : minB (ex9.hld exL) 3 2 = false := by kernel_rfl
theorem ex9_m3 : minB (ex9.hld exL) 3 3 = true := by kernel_rfl
theorem ex9_m4 : minB (ex9.hld exL) 3 4 = false := by kernel_rfl
theorem ex9_m5 : minB (ex9.hld exL) 3 5 = true := by kernel_rfl
theorem ex9_m6 : minB (ex9.hld exL) 3 6 = true := by kernel_rfl
theorem ex9_m7 : minB (ex9.hld exL) 3 7 = false := by kernel_rfl
theorem ex9_min : MinOf (ex9.hld exL) exL.length X9 := by
  refine ⟨by unfold Srt X9; decide, fun s => ⟨fun h => ?_, fun h => ?_⟩⟩
  · have h' : s = [0, 1] ∨ s = [0, 2] ∨ s = [1, 2] := by simpa [X9] using h
    rcases h' with rfl | rfl | rfl
    · exact ⟨3, by decide, ex9_m3, by decide⟩
    · exact ⟨5, by decide, ex9_m5, by decide⟩
    · exact ⟨6, by decide, ex9_m6, by decide⟩
  · obtain ⟨b, hb, hm, rfl⟩ := h
    have hb' : b < 8 := hb
    have hm' : minB (ex9.hld exL) 3 b = true := hm
    obtain rfl | rfl | rfl | rfl | rfl | rfl | rfl | rfl : b = 0 ∨ b = 1 ∨ b = 2 ∨ b = 3 ∨ b = 4 ∨ b = 5 ∨ b = 6 ∨ b = 7 := by omega
    · rw [ex9_m0] at hm'; cases hm'
    · rw [ex9_m1] at hm'; cases hm'
    · rw [ex9_m2] at hm'; cases hm'
    · show bitL 3 3 ∈ X9; decide
    · rw [ex9_m4] at hm'; cases hm'
    · show bitL 3 5 ∈ X9; decide
    · show bitL 3 6 ∈ X9; decide
    · rw [ex9_m7] at hm'; cases hm'
theorem ex9_sets {X : List (List Nat)} (h : MnR holdF ex9 X) : X = X9 := h.uniq (.inl ⟨exL, ex9_vl, ex9_min⟩)
theorem ex9_dual : dual ex9 = ex9 := by kernel_rfl
theorem ex9_dual9 : dual9 ex9 = ex9 := by rw [dual9_yes ex9_vl.1, ex9_dual]
theorem ex9_eqv : (impB ex9 ex9 && impB ex9 ex9) = true := by
  have h : impB ex9 ex9 = true := impB_iff.2 ⟨ex9_vl.1, ex9_vl.1, Imp.refl _⟩
  rw [h]; rfl
theorem ex9_nf : Nf ex9 := by
  refine .group 2 _ (by decide) (by decide) (by decide) (fun h => by cases h) (fun h => by cases h) (fun e he => ?_)
  have h' : e = atE sA ∨ e = atE sB ∨ e = atE sC := by simpa using he
  rcases h' with rfl | rfl | rfl <;> exact .atom _
def ex91 : Ex := .nd 1 z3 [ex9]
theorem ex91_vex : Vex ex91 := by
  have nA : Nam sA := nam1 (by decide) (by decide) (by decide) (by kernel_rfl)
  have nB : Nam sB := nam1 (by decide) (by decide) (by decide) (by kernel_rfl)
  have nC : Nam sC := nam1 (by decide) (by decide) (by decide) (by kernel_rfl)
  have hv : vld ex91.pre [] = some exL := by
    show vld (ex91 :: ex9 :: atE sA :: atE sB :: atE sC :: []) [] = some exL
    rw [vld, if_pos (by decide), vld, if_pos (by decide)]
    unfold atE
    rw [vld_one _ nA (by decide), if_pos (by decide), vld_one _ nB (by decide), if_pos (by decide), vld_one _ nC (by decide), if_pos (by decide)]
    rfl
  exact ⟨by decide, by decide, _, hv⟩
theorem ex91_smp : smp9 ex91 = ex9 := by
  rw [smp9_yes ex91_vex]
  unfold ex91
  rw [smp_single (by decide), nf_smp ex9_nf]
/-- A row of expressions without kids. -/
theorem krd_flat {D : Nat → Prop} {W : World} {g : Nat} (vs : List XV) (es : List Ex) (hl : vs.length = es.length) (hD : D g) (hB : Blk W g (xvs vs)) (hs : ∀ i, i < es.length → ShV (vs.getD i default) (es.getD i default) ∧ (es.getD i default).l = []) : KRd D W (some ⟨g, 0, none⟩) es := by
  refine .row g 0 es vs hD hB.lt hl (fun i hi => ?_) (fun i hi => (hs i hi).1) (fun i hi => by rw [(hs i hi).2]; exact .nil _)
  obtain ⟨h1, h2, h3, h4, h5⟩ := xvs_at vs i (by omega)
  rw [Nat.zero_add]
  exact ⟨hB.cell _ h1, hB.cell _ h2, hB.cell _ h3, hB.cell _ h4, hB.cell _ h5⟩
/-- A row of one expression. -/
theorem krd_one {D : Nat → Prop} {W : World} {g : Nat} {v : XV} {e : Ex} (hD : D g) (hB : Blk W g (xvs [v])) (h : TIn D W v e) : KRd D W (some ⟨g, 0, none⟩) [e] := by
  refine .row g 0 [e] [v] hD hB.lt rfl (fun i hi => ?_) (fun i hi => ?_) (fun i hi => ?_)
  · obtain ⟨h1, h2, h3, h4, h5⟩ := xvs_at [v] i hi
    rw [Nat.zero_add]
    exact ⟨hB.cell _ h1, hB.cell _ h2, hB.cell _ h3, hB.cell _ h4, hB.cell _ h5⟩
  · obtain rfl : i = 0 := by simpa using hi
    exact h.1
  · obtain rfl : i = 0 := by simpa using hi
    exact h.2
abbrev a8 (s : ByteArray) : XV := ⟨0, s, 3, 0, none, 0, 0⟩
end Go.Proofs.YtohjllnfnkajjaaGreat
