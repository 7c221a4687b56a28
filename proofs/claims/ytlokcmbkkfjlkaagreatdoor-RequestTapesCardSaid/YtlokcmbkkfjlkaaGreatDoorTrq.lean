/- Contracts of the mill: Expr. Contracts of the mill: Request, Light. -/
import Derived.Test.YtlokcmbkkfjlkaaGreatDoorTex
import Derived.Test.YtlokcmbkkfjlkaaGreatDoorRvx
namespace Go.Proofs.YtlokcmbkkfjlkaaGreatDoor
open Go.RowKit
set_option linter.unusedVariables false
set_option linter.unusedSimpArgs false

/-- append of atoms at a step of a region that draws. -/
theorem step_app_atomT {w : World} {ops : Array Oper} {o : Oper} {a : Act} {K : Act → World → Prop} {Q : Exit → Act → World → Prop} {E : Prop} (hgd : o.guard = none) (s y : Operand)
    (ho : o.op = .call { callee := .builtin .append, args := #[s, y], argTypes := #[59, 59] })
    (base : Nat) (V : Value) (xs : List A3) (A : Option Addr) (ys : List A3) (n c : Nat) (hn : Hid (ys.length = n)) (hv : a.eval s = V) (hx : a.eval y = .slice A n c)
    (hd : OwnQ w base V xs) (hs : QRd w A ys) (hlen : Hid (xs.length + n ≤ 1000000)) (hbase : base ≤ w.heap.size)
    (h : ∀ V' w', OwnQ w' base V' (xs ++ ys) → w.grownBy w' V.ownBlock → K (a.put o.dst V') w') :
    if Region.wanted o (yielded ops a.tmps) = true then Oper.wp Tryz.prog o a w K Q else E := by
  have hw : Region.wanted o (yielded ops a.tmps) = true := by simp [Region.wanted, hgd]
  rw [if_pos hw]
  have hn' := hn.out
  subst hn'
  obtain ⟨i0, hi, hz0, hz1, hz2⟩ := info_parts atom_info
  have hl := hlen.out
  obtain ⟨v', w', hr, h2, h3, h4, h5⟩ := run_app (P := Tryz.prog) w base 59 59 o.type 25 i0 _ 3 32 Tryz.underlying59 hi hz0 hz1 hz2 rfl V xs.length (avs xs) _ ys.length (avs ys) (.inl hd)
    (Src.atoms Tryz.underlying59 c hs) (by simp only [maxLen]; omega) (fits_half (by omega)) hbase
  unfold Oper.wp execOp
  simp only [ho, resolve, invoke, builtin, Sem.run_bind, Sem.run_pure, Result.andThen_ok, List.map_toArray, List.map_cons, List.map_nil, hv, hx, hr]
  refine h v' w' ?_ (h4 hd)
  unfold OwnQ
  rw [List.length_append, avs_append]
  exact h2
/-- The mill's atoms. -/
def AtP (l : List A3) : Prop := ∀ i, i < l.length → (l.getD i default).1 = nm6 i ∧ usb (l.getD i default).2.1 (l.getD i default).2.2 = true
theorem AtP.nil : AtP [] := fun i h => by simp at h
theorem AtP.snoc {l : List A3} (h : AtP l) {r : A3} (h1 : r.1 = nm6 l.length) (h2 : usb r.2.1 r.2.2 = true) : AtP (l ++ [r]) := fun i hi => by
  rw [List.length_append, List.length_singleton] at hi
  rcases Nat.lt_or_ge i l.length with h3 | h3
  · rw [show (l ++ [r]).getD i default = l.getD i default by simp [List.getD_eq_getElem?_getD, List.getElem?_append_left h3]]
    exact h i h3
  · obtain rfl : i = l.length := by omega
    rw [show (l ++ [r]).getD l.length default = r by simp [List.getD_eq_getElem?_getD]]
    exact ⟨h1, h2⟩
theorem nm6_nam {i : Nat} (hi : i < 6) : Nam (nm6 i) := by
  have hc : i = 0 ∨ i = 1 ∨ i = 2 ∨ i = 3 ∨ i = 4 ∨ i = 5 := by omega
  rcases hc with rfl | rfl | rfl | rfl | rfl | rfl <;> exact ⟨by decide, by decide, by decide, fun i hi => by (obtain rfl : i = 0 := Nat.lt_one_iff.1 hi); decide, by kernel_rfl⟩
theorem nm6_inj {i j : Nat} (hj : j < 6) (h : i < j) : nm6 i ≠ nm6 j := by
  have := List.all_eq_true.1 (List.all_eq_true.1 (show ((List.range 6).all fun j => (List.range j).all fun i => !decide (nm6 i = nm6 j)) = true by kernel_rfl) j (List.mem_range.2 hj)) i (List.mem_range.2 h)
  exact of_decide_eq_false (by simpa using this)
theorem AtP.atl {l : List A3} (h : AtP l) (h6 : l.length = 6) : AtL l := by
  refine ⟨?_, fun a ha => ?_, by omega⟩
  · unfold Dist
    rw [List.pairwise_iff_getElem]
    intro i j hi hj hij e
    have h1 := (h i hi).1
    have h2 := (h j hj).1
    rw [List.getD_eq_getElem?_getD, List.getElem?_eq_getElem hi] at h1
    rw [List.getD_eq_getElem?_getD, List.getElem?_eq_getElem hj] at h2
    exact nm6_inj (by omega) hij (h1.symm.trans (e.trans h2))
  · obtain ⟨i, hi, rfl⟩ := List.getElem_of_mem ha
    have h1 := h i hi
    rw [List.getD_eq_getElem?_getD, List.getElem?_eq_getElem hi] at h1
    exact ⟨by have := h1.1; simp only [Option.getD_some] at this; rw [this]; exact nm6_nam (by omega), h1.2⟩
theorem RRd.frm {w w' : World} {b : Nat} {A : Option Addr} {l : List P4} (h : RRd w A l) (hf : Frm b w w') (hA : ∀ g o, A = some ⟨g, o, none⟩ → g ≠ b) : RRd w' A l := fun hx => by
  obtain ⟨g, o, rfl, hlt, hc⟩ := h hx
  have hb := hf.block g hlt (fun e => hA g o rfl (by injection e))
  exact ⟨g, o, rfl, Nat.lt_of_lt_of_le hlt hf.size, fun i hi => by
    obtain ⟨h1, h2, h3, h4⟩ := hc i hi
    exact ⟨(cell_of_block hb _).trans h1, (cell_of_block hb _).trans h2, (cell_of_block hb _).trans h3, (cell_of_block hb _).trans h4⟩⟩
theorem div_wf {v : Nat} (h : (v : Int) < 1048576) (k : Nat) : (Lit.int .i64 ((v : Int) / 2 ^ k)).wf = true := by
  have h0 : (0 : Int) ≤ (v : Int) / 2 ^ k := Int.ediv_nonneg (Int.natCast_nonneg v) (Int.le_of_lt (Int.pow_pos (by decide)))
  have h1 : (v : Int) / 2 ^ k ≤ (v : Int) := Int.ediv_le_self _ (Int.natCast_nonneg v)
  exact Bool.and_eq_true_iff.2 ⟨decide_eq_true (show (-9223372036854775808 : Int) ≤ (v : Int) / 2 ^ k by omega), decide_eq_true (show (v : Int) / 2 ^ k ≤ (9223372036854775807 : Int) by omega)⟩
/-- What Expr leaves. -/
def ExM (b : Nat) (w : World) : Ending → World → Prop := fun x w' =>
  (∃ k s m u A n c e, x = .returned (xe k s m u A n c) ∧ TIn (Snc w.heap.size w') w' ⟨k, s, m, u, A, n, c⟩ e ∧ Vex e) ∧ Tp w' b ∧ Frm b w w'
set_option maxHeartbeats 8000000 in
set_option maxRecDepth 100000 in
theorem mexpr_any (l : List P4) (b : Nat) (A : Option Addr) (c : Nat) (w : World) (hT : Tp w b) (h6 : Hid (l.length = 6)) (hC : Hid (CtP l)) (hR : RRd w A l) (hA : ∀ g o, A = some ⟨g, o, none⟩ → g ≠ b) :
    Calls Tryz.prog 45 #[.pointer (some ⟨b, 0, none⟩), .slice A 6 c] w (ExM b w) := by
  have hlt := hT.lt
  have HT := Lib.hid (hT.up (newB w (.cells #[.int .i64 0, .string ⟨#[]⟩, .int .i64 0, .int .i64 0, .slice none 0 0] 28)))
  have HF := Lib.hid (Frm.up (b := b) (newB w (.cells #[.int .i64 0, .string ⟨#[]⟩, .int .i64 0, .int .i64 0, .slice none 0 0] 28)))
  have HR0 := Lib.hid (Blk.new w [.int .i64 0, .string ⟨#[]⟩, .int .i64 0, .int .i64 0, .slice none 0 0] 28 rfl)
  have HQ := Lib.hid hR
  have HA := Lib.hid hA
  clear hT hR hA
  go_enter Tryz.func45, Tryz.ntmps45
  go_wp2_with (go_at_call 44; refine (next_is b 1048576 _ HT.out (by omega) (by omega)).mono ?_; rintro e W1 ⟨⟨v1, hv1, rfl⟩, ht, hf⟩; have HT1 := Lib.hid ht; have HF1 := Lib.hid (HF.out.trans hf); have HR1 := Lib.hid (HR0.out.frm hf (by omega)); clear ht hf)
  go_loopw [6, 7] (fun V i wr => ∃ (j : Nat) (q : List A3) (A2 : Option Addr) (c2 : Nat), j ≤ 6 ∧ i = .int .i64 j ∧ V = .slice A2 j c2 ∧ Hid (q.length = j) ∧ Hid (AtP q) ∧ Hid (OwnQ wr (w.heap.size + 1) (.slice A2 j c2) q) ∧ Hid (Tp wr b) ∧ Hid (Frm b w wr) ∧ Hid (Blk wr w.heap.size [.int .i64 0, .string ⟨#[]⟩, .int .i64 0, .int .i64 0, .slice none 0 0])) (fun _ i _ => 6 - (intOf i).toNat)
  case atStart => exact ⟨0, [], none, 0, by omega, rfl, rfl, rfl, AtP.nil, OwnQ.nil _ _, HT1.out, HF1.out, HR1.out⟩
  case round =>
    obtain ⟨j, q, A2, c2, hj, rfl, rfl, hq, hP, hO, hT, hF, hR⟩ := hrel
    by_cases hj6 : (j : Int) < 6
    · have e5 : IntKind.i64.wrap ((j : Int) + 1) = (j : Int) + 1 := by rw [IntKind.wrap_i64]; omega
      have e3 : IntKind.i64.wrap (3 * (j : Int)) = 3 * (j : Int) := by rw [IntKind.wrap_i64]; omega
      have hvs : Hid (q.length + 1 ≤ 1000000) := by have := hq.out; show _ ≤ _; omega
      obtain ⟨g, o, s, k, u, hm, rfl, hg, hres, x0, x1, x2, x3⟩ := (HQ.out.frm hF.out HA.out).at_ (i := j) (by have := h6.out; omega)
      have hcr := hC.out j (by have := h6.out; omega)
      rw [hres.out] at hcr
      have HS : Hid (s = nm6 j) := hcr.1
      have HCR := Lib.hid hcr.2
      have hwf : Hid (∀ k : Nat, (Lit.int .i64 ((v1 : Int) / 2 ^ k)).wf = true) := Lib.hid (fun k => div_wf hv1 k)
      clear hcr hres
      go_upto_region 6 with fail
      go_region_law (first
        | (refine step_app_atomT rfl (.tmp 16) (.tmp 33) rfl (w.heap.size + 1) (.slice A2 j c2) q _ [(s, m', v')] 1 1 rfl (by simp [Act.eval, Act.put]) (by simp [Act.eval, Act.put]) (own_kept HO8.out (fun g hg => (newB W8 _).block g (own_lt HO8.out hg).2)) (QRd.one_at _ _ s m' v' rfl) hvs (Nat.le_trans HR8.out.lt (newB W8 _).size) ?_; intro V5 w5 ho5 hg5; obtain ⟨A5, c5, hV5, -, -⟩ := ho5.form; obtain ⟨k5, hk5⟩ : ∃ k5, Hid ((q ++ [((s, m', v') : A3)]).length = k5) := ⟨_, rfl⟩; rw [hk5.out] at hV5; subst hV5; have HO5 := Lib.hid ho5; have hrow : ∀ g, (Value.slice A2 j c2).ownBlock = some g → w.heap.size + 1 ≤ g := (fun g hg => (own_lt HO8.out hg).1); have HP5 := Lib.hid ((HP8.out.up (newB W8 (.cells #[.string s, .int .i64 m', .int .i64 v'] 25))).grown hg5 (fun g hg => by have := hrow g hg; omega)); have HF5 := Lib.hid ((HF8.out.trans (Frm.up (newB W8 (.cells #[.string s, .int .i64 m', .int .i64 v'] 25)))).grown hg5 (fun g hg => by have := hrow g hg; omega)); have HR5 := Lib.hid ((HR8.out.up (newB W8 (.cells #[.string s, .int .i64 m', .int .i64 v'] 25)) HR8.out.lt).of (hg5.block _ (Nat.lt_of_lt_of_le HR8.out.lt (newB W8 (.cells #[.string s, .int .i64 m', .int .i64 v'] 25)).size) (fun e => by have := hrow _ e.symm; omega))); clear ho5 hg5)
        | (go_simp; go_at_call 69; refine (amount_any s k u hm _ _ (hwf.out _) HCR.out.1 HCR.out.2.1 HCR.out.2.2).mono ?_; rintro e W8 ⟨⟨m', v', hus, rfl⟩, hb8⟩; have hb9 : Below wr.heap.size wr W8 := (bdD (Below.refl _ _)).trans hb8; have HP8 := Lib.hid (hT.out.up hb9); have HF8 := Lib.hid (hF.out.trans (Frm.up hb9)); have HR8 := Lib.hid (hR.out.up hb9 hR.out.lt); have HO8 := Lib.hid (own_frm hO.out (Frm.up (b := b) hb9) (by omega)); have HUS := Lib.hid hus; have y0 := (hb9.cell (p := ⟨g, o + j * 4, none⟩) hg).trans x0; clear x0 x1 x2 x3 hb8 hb9 hus))
      all_goals (
        go_wp2
        have hq5 := hq.out
        have hk : k5 = j + 1 := by have h := hk5.out; rw [List.length_append, List.length_singleton] at h; omega
        subst hk
        refine ⟨⟨j + 1, q ++ [((s, m', v') : A3)], A5, c5, by omega, by go_num, rfl, ?_, ?_, HO5, HP5, HF5, HR5⟩, by simp [intOf]; omega⟩
        · show _ = _; simp; omega
        · refine hP.out.snoc ?_ HUS.out
          show s = nm6 q.length
          rw [hq5]
          exact HS.out)
    · have hj6' : j = 6 := by omega
      subst hj6'
      have HO6 := hO.out.form
      obtain ⟨A3', c3', hV3, hfit3, hQ3⟩ := HO6
      injection hV3 with e1 e2 e3
      subst e1 e3
      have hA3 : Hid (∀ g o, A2 = some ⟨g, o, none⟩ → g ≠ b) := Lib.hid (fun g o h => by
        have := (own_lt hO.out (g := g) (by rw [h]; rfl)).1
        omega)
      have HQ3 := Lib.hid hQ3
      have hvex : Hid (∀ e, Mk q 2 e → Vex e) := Lib.hid (fun e h => h.vex (hP.out.atl hq.out))
      have CG := group_all 2 q b A2 6 c2 2 wr hT.out (by omega) (by omega) hq HQ3.out hA3.out (Lib.hid (by rfl)) (by omega)
      have HCG := Lib.hid CG
      clear CG hQ3 hfit3 e2
      go_wp2_with (go_at_call 70; refine HCG.out.mono ?_; rintro e W5 ⟨⟨k', s', m', u', A', n', c', y, rfl, ht, hmk⟩, hp5, hf5⟩; have HP5 := Lib.hid hp5; have HF5 := Lib.hid (hF.out.trans hf5); have hr5 := hR.out.frm hf5 (by omega); have r0 := hr5.cell 0 rfl; have r1 := hr5.cell 1 rfl; have r2 := hr5.cell 2 rfl; have r3 := hr5.cell 3 rfl; have r4 := hr5.cell 4 rfl; have rf := hr5.fz; have rl := hr5.lt; have HTI := Lib.hid ht; have HMK := Lib.hid hmk; clear hp5 hf5 hr5 ht hmk)
      have hrl := hR.out.lt
      exact bodyPost_ret (v := xe k' s' m' u' A' n' c') (by simp [results, Tryz.results45, go_sem, r0, r1, r2, r3, r4, rf]) rfl ⟨⟨_, _, _, _, _, _, _, y, rfl, TIn.fiveT HTI.out (fun k hk => ⟨Nat.le_trans (Nat.le_of_lt hrl) hk.1, hk.2, fun e => by have := hk.1; omega⟩) _ _ _ _ _, hvex.out _ HMK.out⟩, HP5.out.behind (five_below W5 w.heap.size _ _ _ _ _) hlt, HF5.out.behind (five_below W5 w.heap.size _ _ _ _ _) (Nat.le_refl _)⟩
end Go.Proofs.YtlokcmbkkfjlkaaGreatDoor

namespace Go.Proofs.YtlokcmbkkfjlkaaGreatDoor
open Go.RowKit
set_option linter.unusedVariables false
set_option linter.unusedSimpArgs false

theorem light_is (A : Option Addr) (n c : Nat) (w : World) : Calls Tryz.prog 22 #[.slice A n c] w fun e w' => e = .returned (.bool (decide ((n : Int) ≤ 300))) ∧ w = w' := by
  go_enter Tryz.func22, Tryz.ntmps22
  go_wp2
  go_ret
  exact ⟨by simp, rfl⟩
/-- What Request leaves. -/
def ReM (b : Nat) (w : World) : Ending → World → Prop := fun x w' =>
  (∃ k s m u A n c p t e, x = .returned (rq k s m u A n c p t) ∧ TIn (Snc w.heap.size w') w' ⟨k, s, m, u, A, n, c⟩ e ∧ Vrq (e, p, t)) ∧ Tp w' b ∧ Frm b w w'
set_option maxHeartbeats 8000000 in
set_option maxRecDepth 100000 in
theorem mreq_any (l : List P4) (b : Nat) (A : Option Addr) (c : Nat) (w : World) (hT : Tp w b) (h6 : Hid (l.length = 6)) (hC : Hid (CtP l)) (hR : RRd w A l) (hA : ∀ g o, A = some ⟨g, o, none⟩ → g ≠ b) :
    Calls Tryz.prog 23 #[.pointer (some ⟨b, 0, none⟩), .slice A 6 c] w (ReM b w) := by
  have hlt := hT.lt
  have HT := Lib.hid (hT.up (newB w (.cells #[.int .i64 0, .string ⟨#[]⟩, .int .i64 0, .int .i64 0, .slice none 0 0, .int .i64 0, .int .i64 0] 30)))
  have HF := Lib.hid (Frm.up (b := b) (newB w (.cells #[.int .i64 0, .string ⟨#[]⟩, .int .i64 0, .int .i64 0, .slice none 0 0, .int .i64 0, .int .i64 0] 30)))
  have HR0 := Lib.hid (Blk.new w [.int .i64 0, .string ⟨#[]⟩, .int .i64 0, .int .i64 0, .slice none 0 0, .int .i64 0, .int .i64 0] 30 rfl)
  have HQ := Lib.hid hR
  have HA := Lib.hid hA
  have M1 := Lib.hid trivial
  have M2 := Lib.hid trivial
  clear hT hR hA
  go_enter Tryz.func23, Tryz.ntmps23
  go_upto_if 11 with (first
    | (go_at_call 44; clear M1; refine (next_is b 8 _ HT.out (by omega) (by omega)).mono ?_; rintro e W1 ⟨⟨v1, hv1, rfl⟩, ht, hf⟩; have HT1 := Lib.hid (ht.up (newB W1 (.cells #[.int .i64 0, .string ⟨#[]⟩, .int .i64 0, .int .i64 0, .slice none 0 0, .int .i64 (v1 : Int), .int .i64 0] 30))); have HF1 := Lib.hid ((HF.out.trans hf).trans (Frm.up (newB W1 (.cells #[.int .i64 0, .string ⟨#[]⟩, .int .i64 0, .int .i64 0, .slice none 0 0, .int .i64 (v1 : Int), .int .i64 0] 30)))); have HR1 := Lib.hid ((HR0.out.frm hf (by omega)).grow (.cells #[.int .i64 0, .string ⟨#[]⟩, .int .i64 0, .int .i64 0, .slice none 0 0, .int .i64 (v1 : Int), .int .i64 0] 30)); have HX1 := Lib.hid (Blk.new W1 [.int .i64 0, .string ⟨#[]⟩, .int .i64 0, .int .i64 0, .slice none 0 0, .int .i64 (v1 : Int), .int .i64 0] 30 rfl); have HGX : Hid (w.heap.size < W1.heap.size) := (HR0.out.frm hf (by omega)).lt; clear ht hf)
    | (go_at_call 44; clear M2; refine (next_is b 5 _ HT1.out (by omega) (by omega)).mono ?_; rintro e W2 ⟨⟨v2, hv2, rfl⟩, ht, hf⟩; have HT2 := Lib.hid ht; have HF2 := Lib.hid (HF1.out.trans hf); have HR2 := Lib.hid (HR1.out.frm hf (by omega)); have HX2 := Lib.hid (HX1.out.frm hf (by have := HGX.out; omega)); clear ht hf))
  obtain ⟨g5, hg5⟩ : ∃ g5, W1.heap.size = g5 := ⟨_, rfl⟩
  rw [hg5] at HX2 HGX ⊢
  obtain ⟨p, hp⟩ : ∃ p, Hid ((v1 : Int) = p) := ⟨_, rfl⟩
  have hp7 : Hid (0 ≤ p ∧ p ≤ 7) := by show _ ∧ _; rw [← hp.out]; omega
  rw [hp.out] at HX2 ⊢
  clear hp HT1 HF1 HR1 HX1 HT HF HR0 hv1
  go_cut [] from 11 to 15 (fun wx => ∃ t : Int, Hid (0 ≤ t ∧ t ≤ 1000) ∧ Tp wx b ∧ Frm b w wx ∧ Blk wx w.heap.size [.int .i64 0, .string ⟨#[]⟩, .int .i64 0, .int .i64 0, .slice none 0 0, .int .i64 0, .int .i64 0] ∧ Blk wx g5 [.int .i64 0, .string ⟨#[]⟩, .int .i64 0, .int .i64 0, .slice none 0 0, .int .i64 p, .int .i64 t])
  case first =>
    by_cases h1 : v2 = 1
    · have b1 : ((v2 : Int) == 1) = true := by rw [beq_iff_eq]; omega
      clear h1
      go_wp2_with (go_at_call 44; refine (next_is b 20 _ HT2.out (by omega) (by omega)).mono ?_; rintro e W3 ⟨⟨v3, hv3, rfl⟩, ht, hf⟩; have HT3 := Lib.hid ht; have HF3 := Lib.hid (HF2.out.trans hf); have HR3 := Lib.hid (HR2.out.frm hf (by omega)); have hx3 := HX2.out.frm hf (by have := HGX.out; omega); have x6 := hx3.cell 6 rfl; have xf := hx3.fz; have xl := hx3.lt; have HX3 := Lib.hid hx3; have e3 : IntKind.i64.wrap (1 + (v3 : Int)) = 1 + (v3 : Int) := (by rw [IntKind.wrap_i64]; omega); clear ht hf hx3)
      go_meet
      have hgx := HGX.out
      have hs : Below g5 W3 (W3.setCell ⟨g5, 6, none⟩ (.int .i64 (1 + (v3 : Int)))) := (Below.refl g5 W3).setCell (p := ⟨g5, 6, none⟩) (Nat.le_refl _) _
      exact ⟨1 + (v3 : Int), Lib.hid (by omega), HT3.out.behind hs (by omega), HF3.out.behind hs (by omega), HR3.out.up hs hgx, HX3.out.set 6 _⟩
    · have b1 : ((v2 : Int) == 1) = false := by rw [beq_eq_false_iff_ne]; omega
      clear h1
      go_wp2_with fail
      go_meet
      exact ⟨0, Lib.hid (by omega), HT2.out, HF2.out, HR2.out, HX2.out⟩
  case rest =>
    obtain ⟨t, ht0, hT3, hF3, hR3, hX3⟩ := hcut
    have HT3 := Lib.hid hT3
    have HF3 := Lib.hid hF3
    have HR3 := Lib.hid hR3
    have HX3 := Lib.hid hX3
    clear hT3 hF3 hR3 hX3 HT2 HF2 HR2 HX2
    go_wp2_with (go_at_call 45; refine (mexpr_any l b A c _ HT3.out h6 hC (HQ.out.frm HF3.out HA.out) HA.out).mono ?_; rintro e W6 ⟨⟨k', s', m', u', A', n', c', y, rfl, ht, hv⟩, hp6, hf6⟩; have HP6 := Lib.hid hp6; have HF6 := Lib.hid (HF3.out.trans hf6); have hr6 := HR3.out.frm hf6 (by omega); have hx6 := HX3.out.frm hf6 (by have := HGX.out; omega); have r0 := hr6.cell 0 rfl; have r1 := hr6.cell 1 rfl; have r2 := hr6.cell 2 rfl; have r3 := hr6.cell 3 rfl; have r4 := hr6.cell 4 rfl; have r5 := hr6.cell 5 rfl; have r6 := hr6.cell 6 rfl; have rf := hr6.fz; have rl := hr6.lt; have x0 := hx6.cell 0 rfl; have x1 := hx6.cell 1 rfl; have x2 := hx6.cell 2 rfl; have x3 := hx6.cell 3 rfl; have x4 := hx6.cell 4 rfl; have x5 := hx6.cell 5 rfl; have x6 := hx6.cell 6 rfl; have xf := hx6.fz; have xl := hx6.lt; have hgx : w.heap.size < g5 := HGX.out; have q1 : ¬ w.heap.size = g5 := (by omega); have q2 : ¬ g5 = w.heap.size := (by omega); have HTI := Lib.hid ht; have HV := Lib.hid hv; clear hp6 hf6 hr6 hx6 ht hv)
    have h5 : w.heap.size ≤ g5 := Nat.le_of_lt HGX.out
    have hxl := HX3.out.lt
    have hs := ((((((((((((Below.refl w.heap.size W6).setCell (p := ⟨g5, 0, none⟩) h5 (.int .i64 k')).setCell (p := ⟨g5, 1, none⟩) h5 (.string s')).setCell (p := ⟨g5, 2, none⟩) h5 (.int .i64 m')).setCell (p := ⟨g5, 3, none⟩) h5 (.int .i64 u')).setCell (p := ⟨g5, 4, none⟩) h5 (.slice A' n' c')).setCell (p := ⟨w.heap.size, 0, none⟩) (Nat.le_refl _) (.int .i64 k')).setCell (p := ⟨w.heap.size, 1, none⟩) (Nat.le_refl _) (.string s')).setCell (p := ⟨w.heap.size, 2, none⟩) (Nat.le_refl _) (.int .i64 m')).setCell (p := ⟨w.heap.size, 3, none⟩) (Nat.le_refl _) (.int .i64 u')).setCell (p := ⟨w.heap.size, 4, none⟩) (Nat.le_refl _) (.slice A' n' c')).setCell (p := ⟨w.heap.size, 5, none⟩) (Nat.le_refl _) (.int .i64 p)).setCell (p := ⟨w.heap.size, 6, none⟩) (Nat.le_refl _) (.int .i64 t)
    refine bodyPost_ret (v := rq k' s' m' u' A' n' c' p t) (by simp [results, Tryz.results23, go_sem, r0, r1, r2, r3, r4, r5, r6, rf, q1, q2]) rfl ⟨⟨_, _, _, _, _, _, _, _, _, y, rfl, HTI.out.of (fun k hk => ⟨by have := hk.1; omega, by have := hk.2; simpa [World.setCell] using this⟩) (fun k hk _ => ?_) (by simp [World.setCell]), HV.out, hp7.out.1, hp7.out.2, ht0.out.1, ht0.out.2⟩, HP6.out.behind hs hlt, HF6.out.behind hs (Nat.le_refl _)⟩
    have k5 : k ≠ g5 := by have := hk.1; omega
    have k4 : k ≠ w.heap.size := by have := hk.1; omega
    rw [block_set _ _ _ k4, block_set _ _ _ k4, block_set _ _ _ k4, block_set _ _ _ k4, block_set _ _ _ k4, block_set _ _ _ k4, block_set _ _ _ k4, block_set _ _ _ k5, block_set _ _ _ k5, block_set _ _ _ k5, block_set _ _ _ k5, block_set _ _ _ k5]
end Go.Proofs.YtlokcmbkkfjlkaaGreatDoor
