/- Contracts of the mill: Expr. Contracts of the mill: Request, Light. -/
import Derived.Test.YtecipjjnbikheaaTex
import Derived.Test.YtecipjjnbikheaaRvx
namespace Go.Proofs.Ytecipjjnbikheaa
open Go.RowKit
set_option linter.unusedVariables false
set_option linter.unusedSimpArgs false

/-- append of atoms at a step of a region that draws. -/
theorem step_app_atomT {w : World} {ops : Array Oper} {o : Oper} {a : Act} {K : Act → World → Prop} {Q : Exit → Act → World → Prop} {E : Prop} (hgd : o.guard = none) (s y : Operand)
    (ho : o.op = .call { callee := .builtin .append, args := #[s, y], argTypes := #[29, 29] })
    (base : Nat) (V : Value) (xs : List A3) (A : Option Addr) (ys : List A3) (n c : Nat) (hn : Hid (ys.length = n)) (hv : a.eval s = V) (hx : a.eval y = .slice A n c)
    (hd : OwnQ w base V xs) (hs : QRd w A ys) (hlen : Hid (xs.length + n ≤ 1000000)) (hbase : base ≤ w.heap.size)
    (h : ∀ V' w', OwnQ w' base V' (xs ++ ys) → w.grownBy w' V.ownBlock → K (a.put o.dst V') w') :
    if Region.wanted o (yielded ops a.tmps) = true then Oper.wp Try.prog o a w K Q else E := by
  have hw : Region.wanted o (yielded ops a.tmps) = true := by simp [Region.wanted, hgd]
  rw [if_pos hw]
  have hn' := hn.out
  subst hn'
  obtain ⟨i0, hi, hz0, hz1, hz2⟩ := info_parts atom_info
  have hl := hlen.out
  obtain ⟨v', w', hr, h2, h3, h4, h5⟩ := run_app (P := Try.prog) w base 29 29 o.type 25 i0 _ 3 32 Try.underlying29 hi hz0 hz1 hz2 rfl V xs.length (avs xs) _ ys.length (avs ys) (.inl hd)
    (Src.atoms Try.underlying29 c hs) (by simp only [maxLen]; omega) (fits_half (by omega)) hbase
  unfold Oper.wp execOp
  simp only [ho, resolve, invoke, builtin, Sem.run_bind, Sem.run_pure, Result.andThen_ok, List.map_toArray, List.map_cons, List.map_nil, hv, hx, hr]
  refine h v' w' ?_ (h4 hd)
  unfold OwnQ
  rw [List.length_append, avs_append]
  exact h2
theorem fit_usb {k u m n : Int} (h : fit k u m n = true) : usb m n = true := by
  have h1 := of_decide_eq_true h
  exact decide_eq_true (by omega)
/-- The mill's atoms. -/
def AtP (c : List P4) (l : List A3) : Prop := ∀ i, i < l.length → (l.getD i default).1 = nm6 i ∧ fit (c.getD i default).2.1 (c.getD i default).2.2.1 (l.getD i default).2.1 (l.getD i default).2.2 = true
theorem AtP.nil (c : List P4) : AtP c [] := fun i h => by simp at h
theorem AtP.snoc {c : List P4} {l : List A3} (h : AtP c l) {r : A3} (h1 : r.1 = nm6 l.length) (h2 : fit (c.getD l.length default).2.1 (c.getD l.length default).2.2.1 r.2.1 r.2.2 = true) : AtP c (l ++ [r]) := fun i hi => by
  rw [List.length_append, List.length_singleton] at hi
  rcases Nat.lt_or_ge i l.length with h3 | h3
  · rw [show (l ++ [r]).getD i default = l.getD i default by simp [List.getD_eq_getElem?_getD, List.getElem?_append_left h3]]
    exact h i h3
  · obtain rfl : i = l.length := by omega
    rw [show (l ++ [r]).getD l.length default = r by simp [List.getD_eq_getElem?_getD]]
    exact ⟨h1, h2⟩
theorem nm6_nam {i : Nat} (hi : i < 6) : Nam (nm6 i) := by
  have hc : i = 0 ∨ i = 1 ∨ i = 2 ∨ i = 3 ∨ i = 4 ∨ i = 5 := by omega
  rcases hc with rfl | rfl | rfl | rfl | rfl | rfl <;> exact ⟨by decide, by decide, by decide, fun i hi => by (obtain rfl : i = 0 := Nat.lt_one_iff.1 hi); decide, by kernel_rfl⟩
theorem nm6_inj {i j : Nat} (hj : j < 6) (h : i < j) : nm6 i ≠ nm6 j := by
  have := List.all_eq_true.1 (List.all_eq_true.1 (show ((List.range 6).all fun j => (List.range j).all fun i => !decide (nm6 i = nm6 j)) = true by kernel_rfl) j (List.mem_range.2 hj)) i (List.mem_range.2 h)
  exact of_decide_eq_false (by simpa using this)
theorem AtP.atl {c : List P4} {l : List A3} (h : AtP c l) (h6 : l.length = 6) : AtL l := by
  refine ⟨?_, fun a ha => ?_, by omega⟩
  · unfold Dist
    rw [List.pairwise_iff_getElem]
    intro i j hi hj hij e
    have h1 := (h i hi).1
    have h2 := (h j hj).1
    rw [List.getD_eq_getElem?_getD, List.getElem?_eq_getElem hi] at h1
    rw [List.getD_eq_getElem?_getD, List.getElem?_eq_getElem hj] at h2
    exact nm6_inj (by omega) hij (h1.symm.trans (e.trans h2))
  · obtain ⟨i, hi, rfl⟩ := List.getElem_of_mem ha
    have h1 := h i hi
    rw [List.getD_eq_getElem?_getD, List.getElem?_eq_getElem hi] at h1
    exact ⟨by have := h1.1; simp only [Option.getD_some] at this; rw [this]; exact nm6_nam (by omega), fit_usb h1.2⟩
theorem RRd.frm {w w' : World} {b : Nat} {A : Option Addr} {l : List P4} (h : RRd w A l) (hf : Frm b w w') (hA : ∀ g o, A = some ⟨g, o, none⟩ → g ≠ b) : RRd w' A l := fun hx => by
  obtain ⟨g, o, rfl, hlt, hc⟩ := h hx
  have hb := hf.block g hlt (fun e => hA g o rfl (by injection e))
  exact ⟨g, o, rfl, Nat.lt_of_lt_of_le hlt hf.size, fun i hi => by
    obtain ⟨h1, h2, h3, h4⟩ := hc i hi
    exact ⟨(cell_of_block hb _).trans h1, (cell_of_block hb _).trans h2, (cell_of_block hb _).trans h3, (cell_of_block hb _).trans h4⟩⟩
theorem div_wf {v : Nat} (h : (v : Int) < 1048576) (k : Nat) : (Lit.int .i64 ((v : Int) / 2 ^ k)).wf = true := by
  have h0 : (0 : Int) ≤ (v : Int) / 2 ^ k := Int.ediv_nonneg (Int.natCast_nonneg v) (Int.le_of_lt (Int.pow_pos (by decide)))
  have h1 : (v : Int) / 2 ^ k ≤ (v : Int) := Int.ediv_le_self _ (Int.natCast_nonneg v)
  exact Bool.and_eq_true_iff.2 ⟨decide_eq_true (show (-9223372036854775808 : Int) ≤ (v : Int) / 2 ^ k by omega), decide_eq_true (show (v : Int) / 2 ^ k ≤ (9223372036854775807 : Int) by omega)⟩
/-- What Expr leaves. -/
def ExM (l : List P4) (b : Nat) (w : World) : Ending → World → Prop := fun x w' =>
  (∃ k s m u A n c e, x = .returned (xe k s m u A n c) ∧ TIn (Snc w.heap.size w') w' ⟨k, s, m, u, A, n, c⟩ e ∧ Vex e ∧ ∃ q, q.length = 6 ∧ AtP l q ∧ Mk q 2 e) ∧ Tp w' b ∧ Frm b w w'
set_option maxHeartbeats 8000000 in
set_option maxRecDepth 100000 in
theorem mexpr_any (l : List P4) (b : Nat) (A : Option Addr) (c : Nat) (w : World) (hT : Tp w b) (h6 : Hid (l.length = 6)) (hC : Hid (CtP l)) (hR : RRd w A l) (hA : ∀ g o, A = some ⟨g, o, none⟩ → g ≠ b) :
    Calls Try.prog 21 #[.pointer (some ⟨b, 0, none⟩), .slice A 6 c] w (ExM l b w) := by
  have hlt := hT.lt
  have HT := Lib.hid (hT.up (newB w (.cells #[.int .i64 0, .string ⟨#[]⟩, .int .i64 0, .int .i64 0, .slice none 0 0] 28)))
  have HF := Lib.hid (Frm.up (b := b) (newB w (.cells #[.int .i64 0, .string ⟨#[]⟩, .int .i64 0, .int .i64 0, .slice none 0 0] 28)))
  have HR0 := Lib.hid (Blk.new w [.int .i64 0, .string ⟨#[]⟩, .int .i64 0, .int .i64 0, .slice none 0 0] 28 rfl)
  have HQ := Lib.hid hR
  have HA := Lib.hid hA
  clear hT hR hA
  go_enter Try.func21, Try.ntmps21
  go_wp2_with (go_at_call 40; refine (next_is b 1048576 _ HT.out (by omega) (by omega)).mono ?_; rintro e W1 ⟨⟨v1, hv1, rfl⟩, ht, hf⟩; have HT1 := Lib.hid ht; have HF1 := Lib.hid (HF.out.trans hf); have HR1 := Lib.hid (HR0.out.frm hf (by omega)); clear ht hf)
  go_loopw [6, 7] (fun V i wr => ∃ (j : Nat) (q : List A3) (A2 : Option Addr) (c2 : Nat), j ≤ 6 ∧ i = .int .i64 j ∧ V = .slice A2 j c2 ∧ Hid (q.length = j) ∧ Hid (AtP l q) ∧ Hid (OwnQ wr (w.heap.size + 1) (.slice A2 j c2) q) ∧ Hid (Tp wr b) ∧ Hid (Frm b w wr) ∧ Hid (Blk wr w.heap.size [.int .i64 0, .string ⟨#[]⟩, .int .i64 0, .int .i64 0, .slice none 0 0])) (fun _ i _ => 6 - (intOf i).toNat)
  case atStart => exact ⟨0, [], none, 0, by omega, rfl, rfl, rfl, AtP.nil _, OwnQ.nil _ _, HT1.out, HF1.out, HR1.out⟩
  case round =>
    obtain ⟨j, q, A2, c2, hj, rfl, rfl, hq, hP, hO, hT, hF, hR⟩ := hrel
    by_cases hj6 : (j : Int) < 6
    · have e5 : IntKind.i64.wrap ((j : Int) + 1) = (j : Int) + 1 := by rw [IntKind.wrap_i64]; omega
      have e3 : IntKind.i64.wrap (3 * (j : Int)) = 3 * (j : Int) := by rw [IntKind.wrap_i64]; omega
      have hvs : Hid (q.length + 1 ≤ 1000000) := by have := hq.out; show _ ≤ _; omega
      obtain ⟨g, o, s, k, u, hm, rfl, hg, hres, x0, x1, x2, x3⟩ := (HQ.out.frm hF.out HA.out).at_ (i := j) (by have := h6.out; omega)
      have hcr := hC.out j (by have := h6.out; omega)
      rw [hres.out] at hcr
      have HS : Hid (s = nm6 j) := hcr.1
      have HCR := Lib.hid hcr.2
      have hwf : Hid (∀ k : Nat, (Lit.int .i64 ((v1 : Int) / 2 ^ k)).wf = true) := Lib.hid (fun k => div_wf hv1 k)
      have HRES := hres
      clear hcr hres
      go_upto_region 6 with fail
      go_region_law (first
        | (refine step_app_atomT rfl (.tmp 16) (.tmp 33) rfl (w.heap.size + 1) (.slice A2 j c2) q _ [(s, m', v')] 1 1 rfl (by simp [Act.eval, Act.put]) (by simp [Act.eval, Act.put]) (own_kept HO8.out (fun g hg => (newB W8 _).block g (own_lt HO8.out hg).2)) (QRd.one_at _ _ s m' v' rfl) hvs (Nat.le_trans HR8.out.lt (newB W8 _).size) ?_; intro V5 w5 ho5 hg5; obtain ⟨A5, c5, hV5, -, -⟩ := ho5.form; obtain ⟨k5, hk5⟩ : ∃ k5, Hid ((q ++ [((s, m', v') : A3)]).length = k5) := ⟨_, rfl⟩; rw [hk5.out] at hV5; subst hV5; have HO5 := Lib.hid ho5; have hrow : ∀ g, (Value.slice A2 j c2).ownBlock = some g → w.heap.size + 1 ≤ g := (fun g hg => (own_lt HO8.out hg).1); have HP5 := Lib.hid ((HP8.out.up (newB W8 (.cells #[.string s, .int .i64 m', .int .i64 v'] 25))).grown hg5 (fun g hg => by have := hrow g hg; omega)); have HF5 := Lib.hid ((HF8.out.trans (Frm.up (newB W8 (.cells #[.string s, .int .i64 m', .int .i64 v'] 25)))).grown hg5 (fun g hg => by have := hrow g hg; omega)); have HR5 := Lib.hid ((HR8.out.up (newB W8 (.cells #[.string s, .int .i64 m', .int .i64 v'] 25)) HR8.out.lt).of (hg5.block _ (Nat.lt_of_lt_of_le HR8.out.lt (newB W8 (.cells #[.string s, .int .i64 m', .int .i64 v'] 25)).size) (fun e => by have := hrow _ e.symm; omega))); clear ho5 hg5)
        | (go_simp; go_at_call 41; refine (amount_any s k u hm _ _ (hwf.out _) HCR.out.1).mono ?_; rintro e W8 ⟨⟨m', v', hus, rfl⟩, hb8⟩; have hb9 : Below wr.heap.size wr W8 := (bdD (Below.refl _ _)).trans hb8; have HP8 := Lib.hid (hT.out.up hb9); have HF8 := Lib.hid (hF.out.trans (Frm.up hb9)); have HR8 := Lib.hid (hR.out.up hb9 hR.out.lt); have HO8 := Lib.hid (own_frm hO.out (Frm.up (b := b) hb9) (by omega)); have HUS := Lib.hid hus; have y0 := (hb9.cell (p := ⟨g, o + j * 4, none⟩) hg).trans x0; clear x0 x1 x2 x3 hb8 hb9 hus))
      all_goals (
        go_wp2
        have hq5 := hq.out
        have hk : k5 = j + 1 := by have h := hk5.out; rw [List.length_append, List.length_singleton] at h; omega
        subst hk
        refine ⟨⟨j + 1, q ++ [((s, m', v') : A3)], A5, c5, by omega, by go_num, rfl, ?_, ?_, HO5, HP5, HF5, HR5⟩, by simp [intOf]; omega⟩
        · show _ = _; simp; omega
        · refine hP.out.snoc ?_ ?_
          · show s = nm6 q.length
            rw [hq5]
            exact HS.out
          · rw [hq5, HRES.out]
            exact HUS.out)
    · have hj6' : j = 6 := by omega
      subst hj6'
      have HO6 := hO.out.form
      obtain ⟨A3', c3', hV3, hfit3, hQ3⟩ := HO6
      injection hV3 with e1 e2 e3
      subst e1 e3
      have hA3 : Hid (∀ g o, A2 = some ⟨g, o, none⟩ → g ≠ b) := Lib.hid (fun g o h => by
        have := (own_lt hO.out (g := g) (by rw [h]; rfl)).1
        omega)
      have HQ3 := Lib.hid hQ3
      have hvex : Hid (∀ e, Mk q 2 e → Vex e) := Lib.hid (fun e h => h.vex (hP.out.atl hq.out))
      have CG := group_all 2 q b A2 6 c2 2 wr hT.out (by omega) (by omega) hq HQ3.out hA3.out (Lib.hid (by rfl)) (by omega)
      have HCG := Lib.hid CG
      clear CG hQ3 hfit3 e2
      go_wp2_with (go_at_call 42; refine HCG.out.mono ?_; rintro e W5 ⟨⟨k', s', m', u', A', n', c', y, rfl, ht, hmk⟩, hp5, hf5⟩; have HP5 := Lib.hid hp5; have HF5 := Lib.hid (hF.out.trans hf5); have hr5 := hR.out.frm hf5 (by omega); have r0 := hr5.cell 0 rfl; have r1 := hr5.cell 1 rfl; have r2 := hr5.cell 2 rfl; have r3 := hr5.cell 3 rfl; have r4 := hr5.cell 4 rfl; have rf := hr5.fz; have rl := hr5.lt; have HTI := Lib.hid ht; have HMK := Lib.hid hmk; clear hp5 hf5 hr5 ht hmk)
      have hrl := hR.out.lt
      exact bodyPost_ret (v := xe k' s' m' u' A' n' c') (by simp [results, Try.results21, go_sem, r0, r1, r2, r3, r4, rf]) rfl ⟨⟨_, _, _, _, _, _, _, y, rfl, TIn.fiveT HTI.out (fun k hk => ⟨Nat.le_trans (Nat.le_of_lt hrl) hk.1, hk.2, fun e => by have := hk.1; omega⟩) _ _ _ _ _, hvex.out _ HMK.out, q, hq.out, hP.out, HMK.out⟩, HP5.out.behind (five_below W5 w.heap.size _ _ _ _ _) hlt, HF5.out.behind (five_below W5 w.heap.size _ _ _ _ _) (Nat.le_refl _)⟩
end Go.Proofs.Ytecipjjnbikheaa

namespace Go.Proofs.Ytecipjjnbikheaa
open Go.RowKit
set_option linter.unusedVariables false
set_option linter.unusedSimpArgs false

theorem light_is (A : Option Addr) (n c : Nat) (w : World) : Calls Try.prog 20 #[.slice A n c] w fun e w' => e = .returned (.bool (decide ((n : Int) ≤ 300))) ∧ w = w' := by
  go_enter Try.func20, Try.ntmps20
  go_wp2
  go_ret
  exact ⟨by simp, rfl⟩
/-- What Request leaves. -/
def ReM (b : Nat) (w : World) : Ending → World → Prop := fun x w' =>
  (∃ k s m u A n c p t e, x = .returned (rq k s m u A n c p t) ∧ TIn (Snc w.heap.size w') w' ⟨k, s, m, u, A, n, c⟩ e ∧ Vrq (e, p, t)) ∧ Tp w' b ∧ Frm b w w'
end Go.Proofs.Ytecipjjnbikheaa
