/- Contracts of the program: dual, Dual. Contracts of the program: simplify, Simplify. -/
import Derived.Test.YtohjllnfnkajjaaGreatQ9
import Derived.Deep.RegionWith
namespace Go.Proofs.YtohjllnfnkajjaaGreat
open Go.RowKit
set_option linter.unusedVariables false
set_option linter.unusedSimpArgs false

set_option maxHeartbeats 8000000 in
set_option maxRecDepth 100000 in
theorem pdual_all : ∀ e : Ex, Tr e → e.cnt ≤ 1000 → Maker 49 dual e := by
  have eK : ∀ args w, (callFunc 49 args).run Tryz.prog w = .ok (.enter 49 args) w := enters_of Tryz.func49 (by kernel_rfl) rfl
  refine Ex.ind fun ek ea l ih => ?_
  intro htr hcnt k s m u A n c w HT
  obtain ⟨es_, em, eu⟩ := ea
  obtain ⟨a1, a2, a3, a4, b5, b6, b7⟩ := ks_at HT.out.1
  obtain rfl : k = ek := a1
  obtain rfl : s = es_ := a2
  obtain rfl : m = em := a3
  obtain rfl : u = eu := a4
  have hn : Hid (l.length = n) := b5.symm
  have HCC := Lib.hid (And.intro b6 b7)
  have HTR := Lib.hid htr
  have HCN := Lib.hid hcnt
  clear b5 b6 b7 htr hcnt
  have HLN : Hid (n ≤ 1000) := Lib.hid (by have h1 := HCN.out; rw [Ex.cnt] at h1; have h2 := cntL_len l; have h3 := hn.out; omega)
  have HK0 := Lib.hid ((Blk.new w [.int .i64 k, .string s, .int .i64 m, .int .i64 u, .slice A n c] 28 rfl).grow (.cells #[.int .i64 0, .string ⟨#[]⟩, .int .i64 0, .int .i64 0, .slice none 0 0] 28))
  have HR0 := Lib.hid (Blk.new (w.alloc (.cells #[.int .i64 k, .string s, .int .i64 m, .int .i64 u, .slice A n c] 28)) [.int .i64 0, .string ⟨#[]⟩, .int .i64 0, .int .i64 0, .slice none 0 0] 28 (g := w.heap.size + 1) (by simp))
  have HB0 := Lib.hid (new2 w (.cells #[.int .i64 k, .string s, .int .i64 m, .int .i64 u, .slice A n c] 28) (.cells #[.int .i64 0, .string ⟨#[]⟩, .int .i64 0, .int .i64 0, .slice none 0 0] 28))
  by_cases hk : k = 0
  · have hl0 : l = [] := by
      have h := HTR.out
      cases h with
      | atom a => rfl
      | group k l h1 h2 h => omega
    subst hl0
    obtain rfl : n = 0 := hn.out.symm
    subst hk
    have HBB : Hid (((0 : Int) == 0) = true) := Lib.hid rfl
    clear ih HTR hn HLN HCN
    go_enter Tryz.func49, Tryz.ntmps49
    go_wp2_with (go_at_call 69; refine (isAtom_is 0 s m u A 0 c _ HBB).mono ?_; rintro x W1 ⟨rfl, hb1⟩; have hk1 := HK0.out.up hb1 (by simp; omega); have x0 := hk1.cell 0 rfl; have x1 := hk1.cell 1 rfl; have x2 := hk1.cell 2 rfl; have x3 := hk1.cell 3 rfl; have x4 := hk1.cell 4 rfl; have hr1 := HR0.out.up hb1 (by simp); have r0 := hr1.cell 0 rfl; have r1 := hr1.cell 1 rfl; have r2 := hr1.cell 2 rfl; have r3 := hr1.cell 3 rfl; have r4 := hr1.cell 4 rfl; have rf := hr1.fz; have rl := hr1.lt; have HB1 := Lib.hid (nx HB0.out hb1); clear hb1 hk1 hr1)
    refine bodyPost_ret (v := xe 0 s m u none 0 0) (by simp [results, Tryz.results49, go_sem, r0, r1, r2, r3, r4, rf]) rfl ⟨⟨_, _, _, _, _, _, _, rfl, ?_⟩, HB1.out.trans ((five_below W1 (w.heap.size + 1) _ _ _ _ _).mono (Nat.le_succ _))⟩
    rw [dual, if_pos rfl]
    exact ⟨⟨rfl, Nat.le_refl _, by show (0 : Nat) ≤ maxLen; simp [maxLen]⟩, .nil _⟩
  · have hg : z3 = (s, m, u) ∧ 1 ≤ k ∧ k ≤ (n : Int) := by
      have h := HTR.out
      have h2 := hn.out
      cases h with
      | atom a => exact absurd rfl hk
      | group k l h1 h2 h => exact ⟨rfl, h1, by omega⟩
    obtain ⟨hz, hk1, hkn⟩ := hg
    simp only [Prod.mk.injEq] at hz
    obtain ⟨rfl, rfl, rfl⟩ := hz
    have HBB : Hid ((k == 0) = false) := Lib.hid (by rw [beq_eq_false_iff_ne]; exact hk)
    have hln := HLN.out
    have q1 : IntKind.i64.wrap ((n : Int) - k) = (n : Int) - k := by rw [IntKind.wrap_i64]; omega
    obtain ⟨kk, hkk⟩ : ∃ kk, Hid ((n : Int) - k + 1 = kk) := ⟨_, Lib.hid rfl⟩
    have q2 : IntKind.i64.wrap ((n : Int) - k + 1) = kk := by rw [IntKind.wrap_i64]; have := hkk.out; omega
    have hIH : Hid (∀ f ∈ l, Maker 49 dual f) := Lib.hid (fun f hf => ih f hf (HTR.out.kids hf) (by have h1 := HCN.out; rw [Ex.cnt] at h1; have h2 := cntL_le hf; omega))
    have HKR : Hid (KRd (Lo w.heap.size) w A l) := HT.out.2
    clear HT hk ih
    go_enter Tryz.func49, Tryz.ntmps49
    go_upto_region 3 with (go_at_call 69; refine (isAtom_is k ⟨#[]⟩ 0 0 A n c _ HBB).mono ?_; rintro x W1 ⟨rfl, hb1⟩; have HK1 := Lib.hid (HK0.out.up hb1 (by simp; omega)); have HR1 := Lib.hid (HR0.out.up hb1 (by simp)); have HB1 := Lib.hid (nx HB0.out hb1); clear hb1)
    have x0 := HK1.out.cell 0 rfl
    have x4 := HK1.out.cell 4 rfl
    have HKL : Hid (∀ W, Below W1.heap.size W1 W → KRd (Lo W.heap.size) W A l) := Lib.hid (fun W h => (HKR.out.lo (nx HB1.out h)).of (fun b h1 => Nat.lt_of_lt_of_le h1 (nx HB1.out h).size) (fun _ _ _ => rfl) (Nat.le_refl _))
    have HAL2 : Hid (∀ W, Below W1.heap.size W1 W → W.cell? ⟨w.heap.size, 0, none⟩ = some (.int .i64 k) ∧ W.cell? ⟨w.heap.size, 4, none⟩ = some (.slice A n c)) := Lib.hid (fun W h => ⟨(HK1.out.up h HK1.out.lt).cell 0 rfl, (HK1.out.up h HK1.out.lt).cell 4 rfl⟩)
    have HAS2 : Hid (∀ W v0 v1 v2 v3 v4, Below W1.heap.size W1 W → (((((W.setCell ⟨w.heap.size + 1, 0, none⟩ v0).setCell ⟨w.heap.size + 1, 1, none⟩ v1).setCell ⟨w.heap.size + 1, 2, none⟩ v2).setCell ⟨w.heap.size + 1, 3, none⟩ v3).setCell ⟨w.heap.size + 1, 4, none⟩ v4).cell? ⟨w.heap.size, 0, none⟩ = some (.int .i64 k) ∧ (((((W.setCell ⟨w.heap.size + 1, 0, none⟩ v0).setCell ⟨w.heap.size + 1, 1, none⟩ v1).setCell ⟨w.heap.size + 1, 2, none⟩ v2).setCell ⟨w.heap.size + 1, 3, none⟩ v3).setCell ⟨w.heap.size + 1, 4, none⟩ v4).cell? ⟨w.heap.size, 4, none⟩ = some (.slice A n c)) := Lib.hid (fun W v0 v1 v2 v3 v4 h => by
      have hb := five_below W (w.heap.size + 1) v0 v1 v2 v3 v4
      have h2 := HAL2.out W h
      exact ⟨(cell_of_block (hb.block w.heap.size (Nat.lt_succ_self _)) 0).trans h2.1, (cell_of_block (hb.block w.heap.size (Nat.lt_succ_self _)) 4).trans h2.2⟩)
    go_region_held3 (fun W => W.cell? ⟨w.heap.size, 0, none⟩ = some (.int .i64 k) ∧ W.cell? ⟨w.heap.size, 4, none⟩ = some (.slice A n c))
      (first
        | with_reducible exact ⟨x0, x4⟩
        | with_reducible exact HAL2.out _ (Below.refl _ _)
        | with_reducible exact HAL2.out _ HB2.out
        | with_reducible exact HAS2.out _ _ _ _ _ _ HB2.out
        | with_reducible exact HAL2.out _ (bdD (Below.refl _ _)))
      (first
        | (go_at_call 70; refine (each_is 49 dual eK l A n c _ (Lib.hid (HKL.out _ (bdD (Below.refl _ _)))) hn hln hIH).mono ?_; rintro x W2 ⟨⟨A2, n2, c2, rfl, hn2, hc2, hm2, hr2⟩, hb2⟩; have HB2 : Hid (Below W1.heap.size W1 W2) := Lib.hid (nx (bdD (Below.refl _ _)) hb2); have hr3 := HR1.out.up HB2.out HR1.out.lt; have r0 := hr3.cell 0 rfl; have r1 := hr3.cell 1 rfl; have r2 := hr3.cell 2 rfl; have r3 := hr3.cell 3 rfl; have r4 := hr3.cell 4 rfl; have rf := hr3.fz; have rl := hr3.lt; have HN2 := Lib.hid hn2; have HC2 := Lib.hid (And.intro hc2 hm2); have HR2 : Hid (KRd (Snc W1.heap.size W2) W2 A2 (l.map dual)) := Lib.hid (hr2.of (fun b h => ⟨Nat.le_trans (by simp) h.1, h.2⟩) (fun _ _ _ => rfl) (Nat.le_refl _)); clear hb2 hr3 hn2 hc2 hm2 hr2))
    all_goals (
      go_wp2
      have hd : dual (.nd k z3 l) = .nd kk z3 (l.map dual) := by rw [dual, if_neg (by omega), dualL_map, hn.out, hkk.out]
      refine bodyPost_ret (v := xe kk ⟨#[]⟩ 0 0 A2 n2 c2) (by simp [results, Tryz.results49, go_sem, r0, r1, r2, r3, r4, rf]) rfl ⟨⟨_, _, _, _, _, _, _, rfl, ?_⟩, (nx HB1.out HB2.out).trans ((five_below W2 (w.heap.size + 1) _ _ _ _ _).mono (Nat.le_succ _))⟩
      rw [show (dual (.nd k (⟨#[]⟩, 0, 0) l)) = .nd kk z3 (l.map dual) from hd]
      refine TIn.fiveT (D := Snc W1.heap.size W2) ⟨⟨?_, HC2.out.1, HC2.out.2⟩, HR2.out⟩ (fun q hq => ⟨by have h1 := hq.1; have h2 := HB1.out.size; omega, hq.2, fun e => by have h1 := hq.1; have h2 := HR1.out.lt; omega⟩) _ _ _ _ _
      unfold XV.ks Ex.ks
      show (_, _, n2) = (_, _, (l.map dual).length)
      rw [HN2.out]
      rfl)
set_option maxHeartbeats 2000000 in
set_option maxRecDepth 8000 in
theorem pDual_yes {e : Ex} {L : List A3} (k : Int) (s : ByteArray) (m u : Int) (A : Option Addr) (n c : Nat) (w : World) (hT : TIn (Lo w.heap.size) w ⟨k, s, m, u, A, n, c⟩ e) (hL : Hid (VL e L)) :
    Calls Tryz.prog 31 #[xe k s m u A n c] w (ExQ9 (dual e) w) := by
  have HTW := Lib.hid hT
  have hr : Hid (vexB e = true) := vexB_iff.2 hL.out.1
  have HMK := Lib.hid (pdual_all e hL.out.tr (by have := hL.out.1.2.1; omega))
  have HK0 := Lib.hid ((Blk.new w [.int .i64 k, .string s, .int .i64 m, .int .i64 u, .slice A n c] 28 rfl).grow (.cells #[.int .i64 0, .string ⟨#[]⟩, .int .i64 0, .int .i64 0, .slice none 0 0] 28))
  have HR0 := Lib.hid (Blk.new (w.alloc (.cells #[.int .i64 k, .string s, .int .i64 m, .int .i64 u, .slice A n c] 28)) [.int .i64 0, .string ⟨#[]⟩, .int .i64 0, .int .i64 0, .slice none 0 0] 28 (g := w.heap.size + 1) (by simp))
  have HB0 := Lib.hid (new2 w (.cells #[.int .i64 k, .string s, .int .i64 m, .int .i64 u, .slice A n c] 28) (.cells #[.int .i64 0, .string ⟨#[]⟩, .int .i64 0, .int .i64 0, .slice none 0 0] 28))
  have HT0 := Lib.hid (HTW.out.up HB0.out)
  clear hT
  go_enter Tryz.func31, Tryz.ntmps31
  go_wp2_with (first
    | (go_at_call 40; refine (validExpr_is (e := e) k s m u A n c _ HT0.out hr).mono ?_; rintro x W1 ⟨rfl, hb1⟩; have HT1 := Lib.hid (HT0.out.up hb1); have hk1 := HK0.out.up hb1 (by simp; omega); have x0 := hk1.cell 0 rfl; have x1 := hk1.cell 1 rfl; have x2 := hk1.cell 2 rfl; have x3 := hk1.cell 3 rfl; have x4 := hk1.cell 4 rfl; have HR1 := Lib.hid (HR0.out.up hb1 (by simp)); have HB1 := Lib.hid (nx HB0.out hb1); clear hb1 hk1)
    | (go_at_call 49; refine (HMK.out k s m u A n c W1 HT1).mono ?_; rintro x W2 ⟨⟨k', s', m', u', A', n', c', rfl, ht⟩, hb2⟩; have HT2 := Lib.hid ht; have hr2 := HR1.out.up hb2 HR1.out.lt; have HLTR := Lib.hid HR1.out.lt; have r0 := hr2.cell 0 rfl; have r1 := hr2.cell 1 rfl; have r2 := hr2.cell 2 rfl; have r3 := hr2.cell 3 rfl; have r4 := hr2.cell 4 rfl; have rf := hr2.fz; have rl := hr2.lt; have HB2 := Lib.hid (nx HB1.out hb2); clear hb2 ht hr2))
  refine bodyPost_ret (v := xe k' s' m' u' A' n' c') (by simp [results, Tryz.results31, go_sem, r0, r1, r2, r3, r4, rf]) rfl ⟨⟨_, _, _, _, _, _, _, rfl, ?_⟩, HB2.out.trans ((five_below W2 (w.heap.size + 1) _ _ _ _ _).mono (Nat.le_succ _))⟩
  exact (TIn.fiveT (lo := 0) (D := Snc W1.heap.size W2) HT2.out (fun q hq => ⟨Nat.zero_le _, hq.2, fun e => by have h1 := hq.1; have h2 := HLTR.out; omega⟩) _ _ _ _ _).mono (fun q hq => hq.2)
set_option maxHeartbeats 2000000 in
set_option maxRecDepth 8000 in
theorem pDual_no {e : Ex} (k : Int) (s : ByteArray) (m u : Int) (A : Option Addr) (n c : Nat) (w : World) (hT : TIn (Lo w.heap.size) w ⟨k, s, m, u, A, n, c⟩ e) (hv : Hid (¬ Vex e)) :
    Calls Tryz.prog 31 #[xe k s m u A n c] w (ExQ9 Ex.zero w) := by
  have hr : Hid (vexB e = false) := vexB_no.2 hv.out
  have HR0 := Lib.hid (Blk.new (w.alloc (.cells #[.int .i64 k, .string s, .int .i64 m, .int .i64 u, .slice A n c] 28)) [.int .i64 0, .string ⟨#[]⟩, .int .i64 0, .int .i64 0, .slice none 0 0] 28 (g := w.heap.size + 1) (by simp))
  have HB0 := Lib.hid (new2 w (.cells #[.int .i64 k, .string s, .int .i64 m, .int .i64 u, .slice A n c] 28) (.cells #[.int .i64 0, .string ⟨#[]⟩, .int .i64 0, .int .i64 0, .slice none 0 0] 28))
  have HT0 := Lib.hid (hT.up HB0.out)
  clear hT
  go_enter Tryz.func31, Tryz.ntmps31
  go_wp2_with (first
    | (go_at_call 40; refine (validExpr_is (e := e) k s m u A n c _ HT0.out hr).mono ?_; rintro x W1 ⟨rfl, hb1⟩; have hr2 := HR0.out.up hb1 (by simp); have r0 := hr2.cell 0 rfl; have r1 := hr2.cell 1 rfl; have r2 := hr2.cell 2 rfl; have r3 := hr2.cell 3 rfl; have r4 := hr2.cell 4 rfl; have rf := hr2.fz; have rl := hr2.lt; have HB1 := Lib.hid (nx HB0.out hb1); clear hb1 hr2))
  refine bodyPost_ret (v := xe 0 ⟨#[]⟩ 0 0 none 0 0) (by simp [results, Tryz.results31, go_sem, r0, r1, r2, r3, r4, rf]) rfl ⟨⟨_, _, _, _, _, _, _, rfl, tin0 _ _⟩, HB1.out.trans ((five_below W1 (w.heap.size + 1) _ _ _ _ _).mono (Nat.le_succ _))⟩
theorem pdual_is {e : Ex} (k : Int) (s : ByteArray) (m u : Int) (A : Option Addr) (n c : Nat) (w : World) (hT : TIn (Lo w.heap.size) w ⟨k, s, m, u, A, n, c⟩ e) :
    Calls Tryz.prog 31 #[xe k s m u A n c] w (ExQ9 (dual9 e) w) := by
  by_cases hv : Vex e
  · obtain ⟨L, hL⟩ := VL.ex hv
    rw [dual9_yes hv]
    exact pDual_yes k s m u A n c w hT (Lib.hid hL)
  · rw [dual9_no hv]
    exact pDual_no k s m u A n c w hT (Lib.hid hv)
end Go.Proofs.YtohjllnfnkajjaaGreat

namespace Go.Proofs.YtohjllnfnkajjaaGreat
open Go.RowKit
set_option linter.unusedVariables false
set_option linter.unusedSimpArgs false

/-! ### What simplify does, in the program's steps -/
theorem smp_one {l : List Ex} (ht : Tr (.nd 1 z3 l)) {X : List Ex} (hX : ddp [] (flt true false (l.map smp)) = X) : (X.length = 1 → smp (.nd 1 z3 l) = X.getD 0 default) ∧ (X.length ≠ 1 → smp (.nd 1 z3 l) = .nd 1 z3 X) := by
  by_cases hl : l.length = 1
  · obtain ⟨e, rfl⟩ : ∃ e, l = [e] := List.length_eq_one_iff.1 hl
    have hn := smp_nf e (ht.kids (by show e ∈ [e]; simp))
    rw [smp_single (by decide)]
    have hX2 : X = ddp [] (if mrg true false (smp e) = true then (smp e).l else [smp e]) := by rw [← hX, List.map_singleton, flt, flt, List.append_nil]
    cases hm : mrg true false (smp e) with
    | false =>
      rw [hm, if_neg (by decide), ddp_self _ _ (by simp), List.nil_append] at hX2
      subst hX2
      exact ⟨fun _ => rfl, fun h => absurd rfl h⟩
    | true =>
      rw [hm, if_pos rfl] at hX2
      have hk := (mrg_is hm).2
      have hk1 : (smp e).k = 1 := by
        rcases hk with h | h
        · exact h.2
        · cases h.1
      generalize smp e = y at hn hX2 hk1
      cases hn with
      | atom a => cases hk1
      | group k l h1 h2 h3 h4 h5 h =>
        obtain rfl : k = 1 := hk1
        have hX3 : X = l := by rw [hX2]; show ddp [] l = l; rw [ddp_self _ _ (by rw [List.nil_append]; exact (h4 rfl).1), List.nil_append]
        subst hX3
        exact ⟨fun hh => by omega, fun _ => rfl⟩
  · have hne : ¬ (1 : Int) = (l.length : Int) := by omega
    rw [smp_group (by decide) hl]
    have h := fin2_fin 1 true false (flt true false (l.map smp)) X (by rw [← hX]; rfl)
    rw [show decide ((1 : Int) = 1) = true from rfl, show decide ((1 : Int) = (l.length : Int)) = false from by rw [decide_eq_false_iff_not]; omega]
    exact ⟨h.1, fun hx => by rw [h.2 hx]; rfl⟩
theorem smp_alls {k : Int} {l : List Ex} (h1 : k ≠ 1) (h0 : k ≠ 0) (hk : k = (l.length : Int)) {X : List Ex} (hX : ddp [] (flt false true (l.map smp)) = X) : (X.length = 1 → smp (.nd k z3 l) = X.getD 0 default) ∧ (X.length ≠ 1 → smp (.nd k z3 l) = .nd (X.length : Int) z3 X) := by
  rw [smp_group h0 (by omega)]
  have h := fin2_fin k false true (flt false true (l.map smp)) X (by rw [← hX]; rfl)
  rw [show decide (k = 1) = false from decide_eq_false h1, show decide (k = (l.length : Int)) = true from decide_eq_true hk]
  exact ⟨h.1, fun hx => by rw [h.2 hx, if_pos rfl]⟩
theorem smp_none {k : Int} {l : List Ex} (h1 : k ≠ 1) (h0 : 1 ≤ k) (hk : k ≠ (l.length : Int)) (h2 : k ≤ (l.length : Int)) {X : List Ex} (hX : l.map smp = X) : (X.length = 1 → smp (.nd k z3 l) = X.getD 0 default) ∧ (X.length ≠ 1 → smp (.nd k z3 l) = .nd k z3 X) := by
  have hf : flt false false (l.map smp) = X := by rw [← hX]; exact flt_none (fun y _ => by unfold mrg; simp)
  rw [smp_group (by omega) (by omega)]
  rw [show decide (k = 1) = false from decide_eq_false h1, show decide (k = (l.length : Int)) = false from decide_eq_false hk, hf]
  have h := fin2_fin k false false X X rfl
  exact ⟨h.1, fun hx => by rw [h.2 hx, if_neg (by decide)]⟩
theorem five_block (W : World) (g : Nat) (v0 v1 v2 v3 v4 : Value) {q : Nat} (hq : q ≠ g) : (((((W.setCell ⟨g, 0, none⟩ v0).setCell ⟨g, 1, none⟩ v1).setCell ⟨g, 2, none⟩ v2).setCell ⟨g, 3, none⟩ v3).setCell ⟨g, 4, none⟩ v4).heap[q]? = W.heap[q]? :=
  (block_set _ _ _ hq).trans ((block_set _ _ _ hq).trans ((block_set _ _ _ hq).trans ((block_set _ _ _ hq).trans (block_set _ _ _ hq))))
/-- The box of the result under way: its row of kids in new blocks. -/
structure SmS (W1 W : World) (x : Nat) (k : Int) (A : Option Addr) (n c : Nat) (es : List Ex) : Prop where
  row : KRd (fun q => Snc W1.heap.size W q ∧ q ≠ x) W A es
  num : n = es.length ∧ n ≤ c ∧ c ≤ maxLen
  box : Blk W x [.int .i64 k, .string ⟨#[]⟩, .int .i64 0, .int .i64 0, .slice A n c]
  bel : Below W1.heap.size W1 W
  hx : W1.heap.size ≤ x
theorem SmS.up {W1 W W' : World} {x : Nat} {k : Int} {A : Option Addr} {n c : Nat} {es : List Ex} (h : SmS W1 W x k A n c es) (hb : Below W.heap.size W W') : SmS W1 W' x k A n c es :=
  ⟨h.row.of (fun q hq => ⟨⟨hq.1.1, Nat.lt_of_lt_of_le hq.1.2 hb.size⟩, hq.2⟩) (fun q hq _ => hb.block q hq.1.2) hb.size, h.num, h.box.up hb h.box.lt, nx h.bel hb, h.hx⟩
theorem SmS.lo {W1 W : World} {x : Nat} {k : Int} {A : Option Addr} {n c : Nat} {es : List Ex} (h : SmS W1 W x k A n c es) : ∀ q, (Snc W1.heap.size W q ∧ q ≠ x) → q < W.heap.size := fun q hq => hq.1.2
theorem row_more {W1 W W' : World} {x : Nat} {A : Option Addr} {es : List Ex} (hx : x < W.heap.size) (h1 : W1.heap.size ≤ W.heap.size) (hs : W.heap.size ≤ W'.heap.size) (h : KRd (fun q => (Snc W1.heap.size W q ∧ q ≠ x) ∨ Snc W.heap.size W' q) W' A es) : KRd (fun q => Snc W1.heap.size W' q ∧ q ≠ x) W' A es :=
  h.of (fun q hq => hq.elim (fun h => ⟨⟨h.1.1, Nat.lt_of_lt_of_le h.1.2 hs⟩, h.2⟩) (fun h => ⟨⟨Nat.le_trans h1 h.1, h.2⟩, by have := h.1; omega⟩)) (fun _ _ _ => rfl) (Nat.le_refl _)
theorem SmS.put {W1 W : World} {x : Nat} {k : Int} {A A' : Option Addr} {n c n' c' : Nat} {es es' : List Ex} (h : SmS W1 W x k A n c es) (hr : KRd (fun q => Snc W1.heap.size W q ∧ q ≠ x) W A' es') (hn : n' = es'.length ∧ n' ≤ c' ∧ c' ≤ maxLen) : SmS W1 (W.setCell ⟨x, 4, none⟩ (.slice A' n' c')) x k A' n' c' es' :=
  ⟨hr.of (fun q hq => ⟨⟨hq.1.1, by have := hq.1.2; simpa [World.setCell] using this⟩, hq.2⟩) (fun q hq _ => block_set _ _ _ hq.2) (by simp [World.setCell]), hn, h.box.set 4 _, h.bel.setCell (p := ⟨x, 4, none⟩) h.hx _, h.hx⟩
theorem SmS.putK {W1 W : World} {x : Nat} {k : Int} {A : Option Addr} {n c : Nat} {es : List Ex} (h : SmS W1 W x k A n c es) (k' : Int) : SmS W1 (W.setCell ⟨x, 0, none⟩ (.int .i64 k')) x k' A n c es :=
  ⟨h.row.of (fun q hq => ⟨⟨hq.1.1, by have := hq.1.2; simpa [World.setCell] using this⟩, hq.2⟩) (fun q hq _ => block_set _ _ _ hq.2) (by simp [World.setCell]), h.num, h.box.set 0 _, h.bel.setCell (p := ⟨x, 0, none⟩) h.hx _, h.hx⟩
theorem merge_one : Merger 71 true false := fun y k s m u A n c w h => by
  obtain ⟨yk, ya, yl⟩ := y
  obtain ⟨a1, a2, a3, a4, b5, b6, b7⟩ := ks_at h
  obtain rfl : k = yk := a1
  refine needsOne_is k s m u A n c w (Lib.hid ?_)
  unfold mrg
  by_cases h1 : k = 1
  · simp [Ex.k, h1]
  · simp [Ex.k, h1]
theorem merge_all : Merger 74 false true := fun y k s m u A n c w h => by
  obtain ⟨yk, ya, yl⟩ := y
  obtain ⟨a1, a2, a3, a4, b5, b6, b7⟩ := ks_at h
  obtain rfl : k = yk := a1
  refine needsAll_is k s m u A n c w (Lib.hid ?_)
  have b5' : n = yl.length := b5
  rw [b5']
  unfold mrg
  by_cases h0 : k = 0
  · simp [Ex.k, Ex.l, h0]
  · by_cases h2 : k = (yl.length : Int)
    · have h3 : 0 < k := by omega
      rw [show Ex.k (.nd k ya yl) = k from rfl, show Ex.l (.nd k ya yl) = yl from rfl, decide_eq_true h3, decide_eq_true h2, beq_eq_false_iff_ne.2 h0, beq_iff_eq.2 h2]
      rfl
    · rw [show Ex.k (.nd k ya yl) = k from rfl, show Ex.l (.nd k ya yl) = yl from rfl, decide_eq_false h2, beq_eq_false_iff_ne.2 h2]
      simp
set_option maxHeartbeats 8000000 in
set_option maxRecDepth 100000 in
theorem psimp_all : ∀ e : Ex, Tr e → e.cnt ≤ 1000 → Maker 41 smp e := by
  have eK : ∀ args w, (callFunc 41 args).run Tryz.prog w = .ok (.enter 41 args) w := enters_of Tryz.func41 (by kernel_rfl) rfl
  have eK1 : ∀ args w, (callFunc 71 args).run Tryz.prog w = .ok (.enter 71 args) w := enters_of Tryz.func71 (by kernel_rfl) rfl
  have eK2 : ∀ args w, (callFunc 74 args).run Tryz.prog w = .ok (.enter 74 args) w := enters_of Tryz.func74 (by kernel_rfl) rfl
  refine Ex.ind fun ek ea l ih => ?_
  intro htr hcnt k s m u A n c w HT
  obtain ⟨es_, em, eu⟩ := ea
  obtain ⟨a1, a2, a3, a4, b5, b6, b7⟩ := ks_at HT.out.1
  obtain rfl : k = ek := a1
  obtain rfl : s = es_ := a2
  obtain rfl : m = em := a3
  obtain rfl : u = eu := a4
  have hn : Hid (l.length = n) := b5.symm
  have HCC := Lib.hid (And.intro b6 b7)
  have HTR := Lib.hid htr
  have HCN := Lib.hid hcnt
  clear b5 b6 b7 htr hcnt
  have HLN : Hid (n ≤ 1000) := Lib.hid (by have h1 := HCN.out; rw [Ex.cnt] at h1; have h2 := cntL_len l; have h3 := hn.out; omega)
  have HK0 := Lib.hid ((Blk.new w [.int .i64 k, .string s, .int .i64 m, .int .i64 u, .slice A n c] 28 rfl).grow (.cells #[.int .i64 0, .string ⟨#[]⟩, .int .i64 0, .int .i64 0, .slice none 0 0] 28))
  have HR0 := Lib.hid (Blk.new (w.alloc (.cells #[.int .i64 k, .string s, .int .i64 m, .int .i64 u, .slice A n c] 28)) [.int .i64 0, .string ⟨#[]⟩, .int .i64 0, .int .i64 0, .slice none 0 0] 28 (g := w.heap.size + 1) (by simp))
  have HB0 := Lib.hid (new2 w (.cells #[.int .i64 k, .string s, .int .i64 m, .int .i64 u, .slice A n c] 28) (.cells #[.int .i64 0, .string ⟨#[]⟩, .int .i64 0, .int .i64 0, .slice none 0 0] 28))
  by_cases hk : k = 0
  · have hl0 : l = [] := by
      have h := HTR.out
      cases h with
      | atom a => rfl
      | group k l h1 h2 h => omega
    subst hl0
    obtain rfl : n = 0 := hn.out.symm
    subst hk
    have HBB : Hid (((0 : Int) == 0) = true) := Lib.hid rfl
    clear ih HTR hn HLN HCN
    go_enter Tryz.func41, Tryz.ntmps41
    go_wp2_with (go_at_call 69; refine (isAtom_is 0 s m u A 0 c _ HBB).mono ?_; rintro x W1 ⟨rfl, hb1⟩; have hk1 := HK0.out.up hb1 (by simp; omega); have x0 := hk1.cell 0 rfl; have x1 := hk1.cell 1 rfl; have x2 := hk1.cell 2 rfl; have x3 := hk1.cell 3 rfl; have x4 := hk1.cell 4 rfl; have hr1 := HR0.out.up hb1 (by simp); have r0 := hr1.cell 0 rfl; have r1 := hr1.cell 1 rfl; have r2 := hr1.cell 2 rfl; have r3 := hr1.cell 3 rfl; have r4 := hr1.cell 4 rfl; have rf := hr1.fz; have rl := hr1.lt; have HB1 := Lib.hid (nx HB0.out hb1); clear hb1 hk1 hr1)
    refine bodyPost_ret (v := xe 0 s m u none 0 0) (by simp [results, Tryz.results41, go_sem, r0, r1, r2, r3, r4, rf]) rfl ⟨⟨_, _, _, _, _, _, _, rfl, ?_⟩, HB1.out.trans ((five_below W1 (w.heap.size + 1) _ _ _ _ _).mono (Nat.le_succ _))⟩
    rw [smp, if_pos rfl]
    exact ⟨⟨rfl, Nat.le_refl _, by show (0 : Nat) ≤ maxLen; simp [maxLen]⟩, .nil _⟩
  · have hg : z3 = (s, m, u) ∧ 1 ≤ k ∧ k ≤ (n : Int) := by
      have h := HTR.out
      have h2 := hn.out
      cases h with
      | atom a => exact absurd rfl hk
      | group k l h1 h2 h => exact ⟨rfl, h1, by omega⟩
    obtain ⟨hz, hk1, hkn⟩ := hg
    simp only [Prod.mk.injEq] at hz
    obtain ⟨rfl, rfl, rfl⟩ := hz
    have HBB : Hid ((k == 0) = false) := Lib.hid (by rw [beq_eq_false_iff_ne]; exact hk)
    have HK1N := Lib.hid (And.intro hk1 hkn)
    have hln := HLN.out
    have hIH : Hid (∀ f ∈ l, Maker 41 smp f) := Lib.hid (fun f hf => ih f hf (HTR.out.kids hf) (by have h1 := HCN.out; rw [Ex.cnt] at h1; have h2 := cntL_le hf; omega))
    have HKR : Hid (KRd (Lo w.heap.size) w A l) := HT.out.2
    clear HT hk ih hk1 hkn
    go_enter Tryz.func41, Tryz.ntmps41
    go_upto_region 3 with (go_at_call 69; refine (isAtom_is k ⟨#[]⟩ 0 0 A n c _ HBB).mono ?_; rintro x W1 ⟨rfl, hb1⟩; have HK1 := Lib.hid (HK0.out.up hb1 (by simp; omega)); have HR1 := Lib.hid (HR0.out.up hb1 (by simp)); have HB1 := Lib.hid (nx HB0.out hb1); clear hb1)
    have x0 := HK1.out.cell 0 rfl
    have x4 := HK1.out.cell 4 rfl
    have HKL : Hid (∀ W, Below W1.heap.size W1 W → KRd (Lo W.heap.size) W A l) := Lib.hid (fun W h => (HKR.out.lo (nx HB1.out h)).of (fun b h1 => Nat.lt_of_lt_of_le h1 (nx HB1.out h).size) (fun _ _ _ => rfl) (Nat.le_refl _))
    have HAL2 : Hid (∀ W, Below W1.heap.size W1 W → W.cell? ⟨w.heap.size, 0, none⟩ = some (.int .i64 k) ∧ W.cell? ⟨w.heap.size, 4, none⟩ = some (.slice A n c)) := Lib.hid (fun W h => ⟨(HK1.out.up h HK1.out.lt).cell 0 rfl, (HK1.out.up h HK1.out.lt).cell 4 rfl⟩)
    have HAS2 : Hid (∀ W v0 v1 v2 v3 v4, Below W1.heap.size W1 W → (((((W.setCell ⟨W1.heap.size, 0, none⟩ v0).setCell ⟨W1.heap.size, 1, none⟩ v1).setCell ⟨W1.heap.size, 2, none⟩ v2).setCell ⟨W1.heap.size, 3, none⟩ v3).setCell ⟨W1.heap.size, 4, none⟩ v4).cell? ⟨w.heap.size, 0, none⟩ = some (.int .i64 k) ∧ (((((W.setCell ⟨W1.heap.size, 0, none⟩ v0).setCell ⟨W1.heap.size, 1, none⟩ v1).setCell ⟨W1.heap.size, 2, none⟩ v2).setCell ⟨W1.heap.size, 3, none⟩ v3).setCell ⟨W1.heap.size, 4, none⟩ v4).cell? ⟨w.heap.size, 4, none⟩ = some (.slice A n c)) := Lib.hid (fun W v0 v1 v2 v3 v4 h => HAL2.out _ (h.trans (five_below W W1.heap.size v0 v1 v2 v3 v4)))
    have HX1 := Lib.hid ((Blk.new W1 [.int .i64 0, .string ⟨#[]⟩, .int .i64 0, .int .i64 0, .slice none 0 0] 28 rfl).of (w' := (W1.alloc (.cells #[.int .i64 0, .string ⟨#[]⟩, .int .i64 0, .int .i64 0, .slice none 0 0] 28)).drew) rfl)
    go_cut [3] from 9 to 14 (fun p wx => ∃ (x : Nat) (A2 : Option Addr) (n2 c2 : Nat), p = .pointer (some ⟨x, 0, none⟩) ∧ Hid (SmS W1 wx x k A2 n2 c2 (l.map smp)))
    case first =>
      go_region_held3 (fun W => W.cell? ⟨w.heap.size, 0, none⟩ = some (.int .i64 k) ∧ W.cell? ⟨w.heap.size, 4, none⟩ = some (.slice A n c))
        (first
          | with_reducible exact ⟨x0, x4⟩
          | with_reducible exact HAL2.out _ (Below.refl _ _)
          | with_reducible exact HAL2.out _ HB2.out
          | with_reducible exact HAL2.out _ (nxA HB2.out _)
          | with_reducible exact HAL2.out _ (bdD (Below.refl _ _))
          | with_reducible exact HAL2.out _ (nxA (bdD (Below.refl _ _)) _)
          | with_reducible exact HAS2.out _ _ _ _ _ _ HB2.out)
        (first
          | (go_at_call 70; (with_reducible refine (each_is 41 smp eK l A n c (W1.alloc (.cells #[.int .i64 0, .string ⟨#[]⟩, .int .i64 0, .int .i64 0, .slice none 0 0] 28)).drew (Lib.hid (HKL.out _ (bdD (nxA (Below.refl _ _) _)))) hn hln hIH).mono ?_); rintro z W2 ⟨⟨A2, n2, c2, rfl, hn2, hc2, hm2, hr2⟩, hb2⟩; have HB2 : Hid (Below W1.heap.size W1 W2) := Lib.hid (nx (bdD (nxA (Below.refl _ _) _)) hb2); have hx2 := HX1.out.up hb2 (by simp); have r0 := hx2.cell 0 rfl; have r1 := hx2.cell 1 rfl; have r2 := hx2.cell 2 rfl; have r3 := hx2.cell 3 rfl; have r4 := hx2.cell 4 rfl; have rf := hx2.fz; have rl := hx2.lt; have HX2 := Lib.hid hx2; clear hx2; have HN2 := Lib.hid hn2; have HC2 := Lib.hid (And.intro hc2 hm2); have HR2 := Lib.hid hr2; clear hb2 hn2 hc2 hm2 hr2)
          | (go_at_call 70; (with_reducible refine (each_is 41 smp eK l A n c W1.drew (Lib.hid (HKL.out _ (bdD (Below.refl _ _)))) hn hln hIH).mono ?_); rintro z W2 ⟨⟨A2, n2, c2, rfl, hn2, hc2, hm2, hr2⟩, hb2⟩; have HB2 : Hid (Below W1.heap.size W1 W2) := Lib.hid (nx (bdD (Below.refl _ _)) hb2); have HN2 := Lib.hid hn2; have HC2 := Lib.hid (And.intro hc2 hm2); have HR2 := Lib.hid hr2; clear hb2 hn2 hc2 hm2 hr2))
      · go_wp2_with fail
        go_meet
        refine ⟨W2.heap.size, A2, n2, c2, rfl, Lib.hid ⟨HR2.out.of (fun q hq => ⟨⟨by have h1 := hq.1; simpa using h1, by have h2 := hq.2; simp; omega⟩, Nat.ne_of_lt hq.2⟩) (fun q hq _ => (newB W2 _).block q hq.2) (by simp), ⟨HN2.out, HC2.out⟩, Blk.new W2 [.int .i64 k, .string ⟨#[]⟩, .int .i64 0, .int .i64 0, .slice A2 n2 c2] _ rfl, nxA HB2.out _, HB2.out.size⟩⟩
      · go_wp2_with fail
        go_meet
        refine ⟨W1.heap.size, A2, n2, c2, rfl, Lib.hid ⟨?_, ⟨HN2.out, HC2.out⟩, ((((HX2.out.set 0 _).set 1 _).set 2 _).set 3 _).set 4 _, HB2.out.trans (five_below W2 W1.heap.size _ _ _ _ _), Nat.le_refl _⟩⟩
        exact HR2.out.of (fun q hq => ⟨⟨by have h1 := hq.1; simp at h1; omega, by have h2 := hq.2; simpa [World.setCell] using h2⟩, by have h1 := hq.1; simp at h1; omega⟩) (fun q hq _ => five_block W2 W1.heap.size _ _ _ _ _ (by have h1 := hq.1; simp at h1; omega)) (by simp [World.setCell])
    case rest =>
      obtain ⟨x, A2, n2, c2, rfl, HS⟩ := hcut
      obtain ⟨WC, hWC⟩ : ∃ W, W = wc := ⟨_, rfl⟩
      subst hWC
      have HLW : Hid (w.heap.size + 1 < W1.heap.size) := Lib.hid HR1.out.lt
      have HN2 : Hid ((l.map smp).length = n2) := Lib.hid HS.out.num.1.symm
      have HCL : Hid (cntL (l.map smp) ≤ 1000) := Lib.hid (by have h1 := HCN.out; rw [Ex.cnt] at h1; have h2 := cntL_map_le (f := smp) (l := l) (fun e _ => smp_cnt e); omega)
      clear HAL2 HAS2 HX1 HKL x0 x4
      have hk3 := HK1.out.up HS.out.bel HK1.out.lt
      have x0 := hk3.cell 0 rfl
      have x1 := hk3.cell 1 rfl
      have x2 := hk3.cell 2 rfl
      have x3 := hk3.cell 3 rfl
      have x4 := hk3.cell 4 rfl
      clear hk3
      by_cases hk1 : k = 1
      · have HK11 : Hid ((k == 1) = true) := Lib.hid (by rw [beq_iff_eq]; exact hk1)
        have HRES0 := Lib.hid (fun X hX => smp_one (l := l) (X := X) (by have h := HTR.out; rw [hk1] at h; exact h) hX)
        have HKE : Hid (k = 1) := Lib.hid hk1
        have HFL : Hid ((flt true false (l.map smp)).length ≤ 1000) := Lib.hid (by have h1 := flt_cnt true false (l.map smp); have h2 := cntL_len (flt true false (l.map smp)); have h3 := HCL.out; omega)
        clear hk1
        go_upto_region 9 with (first
          | (go_at_call 71; refine (needsOne_is k ⟨#[]⟩ 0 0 A n c _ HK11).mono ?_; rintro z W4 ⟨rfl, hb4⟩; have HS4 := Lib.hid (HS.out.up hb4); have hk4 := HK1.out.up HS4.out.bel HK1.out.lt; clear x0 x1 x2 x3 x4; have x0 := hk4.cell 0 rfl; have x1 := hk4.cell 1 rfl; have x2 := hk4.cell 2 rfl; have x3 := hk4.cell 3 rfl; have x4 := hk4.cell 4 rfl; have xc := HS4.out.box.cell 4 rfl; clear hb4 hk4)
          | (go_at_call 73; refine (opened_is 71 true false eK1 (Lib.hid merge_one) (fun q => Snc W1.heap.size W4 q ∧ q ≠ x) (l.map smp) A2 n2 c2 _ HS4.out.lo (Lib.hid HS4.out.row) HN2 HCL).mono ?_; rintro z W6 ⟨⟨A6, n6, c6, rfl, hn6, hc6, hm6, hr6⟩, hb6⟩; have HS6 := Lib.hid (HS4.out.up hb6); have HR6 := Lib.hid (row_more HS4.out.box.lt HS4.out.bel.size hb6.size hr6); have HN6 := Lib.hid hn6.symm; clear hb6 hr6 hn6 hc6 hm6)
          | (go_at_call 72; refine (distinct_is (fun q => Snc W1.heap.size W6 q ∧ q ≠ x) (flt true false (l.map smp)) A6 n6 c6 _ HS6.out.lo HR6 HN6 (by have h1 := HFL.out; have h2 := HN6.out; omega)).mono ?_; rintro z W7 ⟨⟨A7, n7, c7, rfl, hn7, hc7, hm7, hr7⟩, hb7⟩; have HS7 := Lib.hid (HS6.out.up hb7); have HR7 := Lib.hid (row_more HS6.out.box.lt HS6.out.bel.size hb7.size hr7); have HN7 := Lib.hid (And.intro hn7 (And.intro hc7 hm7)); clear xc; have xc := HS7.out.box.cell 4 rfl; have xf := HS7.out.box.fz; have xl := HS7.out.box.lt; have xk := HS7.out.box.cell 0 rfl; clear hb7 hr7 hn7 hc7 hm7))
        have HST := Lib.hid (HS7.out.put HR7.out HN7.out)
        have HRx := Lib.hid (HR1.out.up HST.out.bel HR1.out.lt)
        have HRES := Lib.hid (HRES0.out _ rfl)
        rw [← HKE.out] at HRES
        clear x0 x1 x2 x3 x4 xc xf xl xk
        generalize (W7.setCell ⟨x, 4, none⟩ (.slice A7 n7 c7)) = WT at HST HRx ⊢
        have r0 := HRx.out.cell 0 rfl
        have r1 := HRx.out.cell 1 rfl
        have r2 := HRx.out.cell 2 rfl
        have r3 := HRx.out.cell 3 rfl
        have r4 := HRx.out.cell 4 rfl
        have rf := HRx.out.fz
        have rl := HRx.out.lt
        have x0 := HST.out.box.cell 0 rfl
        have x1 := HST.out.box.cell 1 rfl
        have x2 := HST.out.box.cell 2 rfl
        have x3 := HST.out.box.cell 3 rfl
        have x4 := HST.out.box.cell 4 rfl
        by_cases h1 : n7 = 1
        · have HN1 := Lib.hid h1
          have hb9 : ((n7 : Int) == 1) = true := by rw [beq_iff_eq]; omega
          have hb8 : 0 < n7 := by omega
          have hb7 : (0 : Int) < (n7 : Int) := by omega
          obtain ⟨g9, o9, ⟨k9, s9, m9, u9, A9, n9, c9⟩, hA9, hgD, hgs, ⟨z0, z1, z2, z3', z4⟩, hT9⟩ := HST.out.row.at_ (i := 0) (by have := HST.out.num.1; omega)
          subst hA9
          simp only [Nat.zero_mul, Nat.add_zero] at z0 z1 z2 z3' z4
          have HT9 := Lib.hid hT9
          clear h1 hT9
          go_wp2
          refine bodyPost_ret (v := xe k9 s9 m9 u9 A9 n9 c9) (by simp [results, Tryz.results41, go_sem, r0, r1, r2, r3, r4, rf]) rfl ⟨⟨_, _, _, _, _, _, _, rfl, ?_⟩, (nx HB1.out HST.out.bel).trans ((five_below _ (w.heap.size + 1) _ _ _ _ _).mono (Nat.le_succ _))⟩
          rw [HRES.out.1 (by rw [← HST.out.num.1]; exact HN1.out)]
          exact TIn.fiveT HT9.out (fun q hq => ⟨Nat.le_trans (Nat.le_of_lt (Nat.lt_of_succ_lt HLW.out)) hq.1.1, hq.1.2, fun e => by have h3 := hq.1.1; have h4 := HLW.out; omega⟩) _ _ _ _ _
        · have HN1 := Lib.hid h1
          have hb9 : ((n7 : Int) == 1) = false := by rw [beq_eq_false_iff_ne]; omega
          clear h1
          go_wp2
          refine bodyPost_ret (v := xe k ⟨#[]⟩ 0 0 A7 n7 c7) (by simp [results, Tryz.results41, go_sem, r0, r1, r2, r3, r4, rf]) rfl ⟨⟨_, _, _, _, _, _, _, rfl, ?_⟩, (nx HB1.out HST.out.bel).trans ((five_below _ (w.heap.size + 1) _ _ _ _ _).mono (Nat.le_succ _))⟩
          rw [HRES.out.2 (by rw [← HST.out.num.1]; exact HN1.out)]
          refine TIn.fiveT (D := fun q => Snc W1.heap.size WT q ∧ q ≠ x) ⟨⟨?_, HST.out.num.2.1, HST.out.num.2.2⟩, HST.out.row⟩ (fun q hq => ⟨Nat.le_trans (Nat.le_of_lt (Nat.lt_of_succ_lt HLW.out)) hq.1.1, hq.1.2, fun e => by have h3 := hq.1.1; have h4 := HLW.out; omega⟩) _ _ _ _ _
          unfold XV.ks Ex.ks
          show (_, _, n7) = (_, _, List.length _)
          rw [HST.out.num.1]
          rfl
      · have HK11 : Hid ((k == 1) = false) := Lib.hid (by rw [beq_eq_false_iff_ne]; exact hk1)
        have HKN1 : Hid (¬ k = 1) := Lib.hid hk1
        clear hk1
        by_cases hka : k = (n : Int)
        · have HKAL : Hid ((!(k == 0) && (k == (n : Int))) = true) := Lib.hid (by rw [HBB.out, beq_iff_eq.2 hka]; rfl)
          have HRES0 := Lib.hid (fun X hX => smp_alls (l := l) (k := k) (X := X) HKN1.out (by have := HK1N.out.1; omega) (by rw [hka, hn.out]) hX)
          have HFL : Hid ((flt false true (l.map smp)).length ≤ 1000) := Lib.hid (by have h1 := flt_cnt false true (l.map smp); have h2 := cntL_len (flt false true (l.map smp)); have h3 := HCL.out; omega)
          clear hka
          go_upto_region 9 with (first
            | (go_at_call 71; refine (needsOne_is k ⟨#[]⟩ 0 0 A n c _ HK11).mono ?_; rintro z W4 ⟨rfl, hb4⟩; have HS4 := Lib.hid (HS.out.up hb4); have hk4 := HK1.out.up HS4.out.bel HK1.out.lt; clear x0 x1 x2 x3 x4; have x0 := hk4.cell 0 rfl; have x1 := hk4.cell 1 rfl; have x2 := hk4.cell 2 rfl; have x3 := hk4.cell 3 rfl; have x4 := hk4.cell 4 rfl; have xc := HS4.out.box.cell 4 rfl; clear hb4 hk4)
            | (go_at_call 74; refine (needsAll_is k ⟨#[]⟩ 0 0 A n c _ HKAL).mono ?_; rintro z W5 ⟨rfl, hb5⟩; have HS5 := Lib.hid (HS4.out.up hb5); clear xc; have xc := HS5.out.box.cell 4 rfl; have x0' := HS5.out.box.cell 0 rfl; clear hb5)
            | (go_at_call 73; refine (opened_is 74 false true eK2 (Lib.hid merge_all) (fun q => Snc W1.heap.size W5 q ∧ q ≠ x) (l.map smp) A2 n2 c2 _ HS5.out.lo (Lib.hid HS5.out.row) HN2 HCL).mono ?_; rintro z W6 ⟨⟨A6, n6, c6, rfl, hn6, hc6, hm6, hr6⟩, hb6⟩; have HS6 := Lib.hid (HS5.out.up hb6); have HR6 := Lib.hid (row_more HS5.out.box.lt HS5.out.bel.size hb6.size hr6); have HN6 := Lib.hid hn6.symm; clear hb6 hr6 hn6 hc6 hm6)
            | (go_at_call 72; refine (distinct_is (fun q => Snc W1.heap.size W6 q ∧ q ≠ x) (flt false true (l.map smp)) A6 n6 c6 _ HS6.out.lo HR6 HN6 (by have h1 := HFL.out; have h2 := HN6.out; omega)).mono ?_; rintro z W7 ⟨⟨A7, n7, c7, rfl, hn7, hc7, hm7, hr7⟩, hb7⟩; have HS7 := Lib.hid (HS6.out.up hb7); have HR7 := Lib.hid (row_more HS6.out.box.lt HS6.out.bel.size hb7.size hr7); have HN7 := Lib.hid (And.intro hn7 (And.intro hc7 hm7)); clear xc; have xc := HS7.out.box.cell 4 rfl; have xf := HS7.out.box.fz; have xl := HS7.out.box.lt; have xk := HS7.out.box.cell 0 rfl; clear hb7 hr7 hn7 hc7 hm7))
          have HST0 := Lib.hid (HS7.out.put HR7.out HN7.out)
          have HST := Lib.hid (HST0.out.putK (n7 : Int))
          have HRx := Lib.hid (HR1.out.up HST.out.bel HR1.out.lt)
          have HRES := Lib.hid (HRES0.out _ rfl)
          rw [← HN7.out.1] at HRES
          have HRES' : Hid ((n7 = 1 → smp (.nd k z3 l) = (ddp [] (flt false true (l.map smp))).getD 0 default) ∧ (n7 ≠ 1 → smp (.nd k z3 l) = .nd (n7 : Int) z3 (ddp [] (flt false true (l.map smp))))) := HRES
          clear HRES
          have HRES : Hid (((ddp [] (flt false true (l.map smp))).length = 1 → smp (.nd k z3 l) = (ddp [] (flt false true (l.map smp))).getD 0 default) ∧ ((ddp [] (flt false true (l.map smp))).length ≠ 1 → smp (.nd k z3 l) = .nd (n7 : Int) z3 (ddp [] (flt false true (l.map smp))))) := by rw [← HN7.out.1]; exact HRES'
          clear HRES' HST0 x0 x1 x2 x3 x4 xc xf xl xk x0'
          generalize ((W7.setCell ⟨x, 4, none⟩ (.slice A7 n7 c7)).setCell ⟨x, 0, none⟩ (.int .i64 (n7 : Int))) = WT at HST HRx ⊢
          have r0 := HRx.out.cell 0 rfl
          have r1 := HRx.out.cell 1 rfl
          have r2 := HRx.out.cell 2 rfl
          have r3 := HRx.out.cell 3 rfl
          have r4 := HRx.out.cell 4 rfl
          have rf := HRx.out.fz
          have rl := HRx.out.lt
          have x0 := HST.out.box.cell 0 rfl
          have x1 := HST.out.box.cell 1 rfl
          have x2 := HST.out.box.cell 2 rfl
          have x3 := HST.out.box.cell 3 rfl
          have x4 := HST.out.box.cell 4 rfl
          by_cases h1 : n7 = 1
          · have HN1 := Lib.hid h1
            have hb9 : ((n7 : Int) == 1) = true := by rw [beq_iff_eq]; omega
            have hb8 : 0 < n7 := by omega
            have hb7 : (0 : Int) < (n7 : Int) := by omega
            obtain ⟨g9, o9, ⟨k9, s9, m9, u9, A9, n9, c9⟩, hA9, hgD, hgs, ⟨z0, z1, z2, z3', z4⟩, hT9⟩ := HST.out.row.at_ (i := 0) (by have := HST.out.num.1; omega)
            subst hA9
            simp only [Nat.zero_mul, Nat.add_zero] at z0 z1 z2 z3' z4
            have HT9 := Lib.hid hT9
            clear h1 hT9
            go_wp2
            refine bodyPost_ret (v := xe k9 s9 m9 u9 A9 n9 c9) (by simp [results, Tryz.results41, go_sem, r0, r1, r2, r3, r4, rf]) rfl ⟨⟨_, _, _, _, _, _, _, rfl, ?_⟩, (nx HB1.out HST.out.bel).trans ((five_below _ (w.heap.size + 1) _ _ _ _ _).mono (Nat.le_succ _))⟩
            rw [HRES.out.1 (by rw [← HST.out.num.1]; exact HN1.out)]
            exact TIn.fiveT HT9.out (fun q hq => ⟨Nat.le_trans (Nat.le_of_lt (Nat.lt_of_succ_lt HLW.out)) hq.1.1, hq.1.2, fun e => by have h3 := hq.1.1; have h4 := HLW.out; omega⟩) _ _ _ _ _
          · have HN1 := Lib.hid h1
            have hb9 : ((n7 : Int) == 1) = false := by rw [beq_eq_false_iff_ne]; omega
            clear h1
            go_wp2
            refine bodyPost_ret (v := xe (n7 : Int) ⟨#[]⟩ 0 0 A7 n7 c7) (by simp [results, Tryz.results41, go_sem, r0, r1, r2, r3, r4, rf]) rfl ⟨⟨_, _, _, _, _, _, _, rfl, ?_⟩, (nx HB1.out HST.out.bel).trans ((five_below _ (w.heap.size + 1) _ _ _ _ _).mono (Nat.le_succ _))⟩
            rw [HRES.out.2 (by rw [← HST.out.num.1]; exact HN1.out)]
            refine TIn.fiveT (D := fun q => Snc W1.heap.size WT q ∧ q ≠ x) ⟨⟨?_, HST.out.num.2.1, HST.out.num.2.2⟩, HST.out.row⟩ (fun q hq => ⟨Nat.le_trans (Nat.le_of_lt (Nat.lt_of_succ_lt HLW.out)) hq.1.1, hq.1.2, fun e => by have h3 := hq.1.1; have h4 := HLW.out; omega⟩) _ _ _ _ _
            unfold XV.ks Ex.ks
            show (_, _, n7) = (_, _, List.length _)
            rw [HST.out.num.1]
            rfl
        · have HKAL : Hid ((!(k == 0) && (k == (n : Int))) = false) := Lib.hid (by rw [beq_eq_false_iff_ne.2 hka, Bool.and_false])
          have HRES := Lib.hid (smp_none (l := l) (k := k) (X := l.map smp) HKN1.out HK1N.out.1 (by rw [hn.out]; exact hka) (by rw [hn.out]; exact HK1N.out.2) rfl)
          clear hka
          go_upto_region 9 with (first
            | (go_at_call 71; refine (needsOne_is k ⟨#[]⟩ 0 0 A n c _ HK11).mono ?_; rintro z W4 ⟨rfl, hb4⟩; have HS4 := Lib.hid (HS.out.up hb4); have hk4 := HK1.out.up HS4.out.bel HK1.out.lt; clear x0 x1 x2 x3 x4; have x0 := hk4.cell 0 rfl; have x1 := hk4.cell 1 rfl; have x2 := hk4.cell 2 rfl; have x3 := hk4.cell 3 rfl; have x4 := hk4.cell 4 rfl; have xc := HS4.out.box.cell 4 rfl; clear hb4 hk4)
            | (go_at_call 74; refine (needsAll_is k ⟨#[]⟩ 0 0 A n c _ HKAL).mono ?_; rintro z W5 ⟨rfl, hb5⟩; have HS5 := Lib.hid (HS4.out.up hb5); clear xc; have xc := HS5.out.box.cell 4 rfl; have x0' := HS5.out.box.cell 0 rfl; clear hb5))
          have HST := HS5
          have HRx := Lib.hid (HR1.out.up HST.out.bel HR1.out.lt)
          clear x0 x1 x2 x3 x4 xc x0'
          obtain ⟨WT, hWT⟩ : ∃ W, W = W5 := ⟨_, rfl⟩
          subst hWT
          have r0 := HRx.out.cell 0 rfl
          have r1 := HRx.out.cell 1 rfl
          have r2 := HRx.out.cell 2 rfl
          have r3 := HRx.out.cell 3 rfl
          have r4 := HRx.out.cell 4 rfl
          have rf := HRx.out.fz
          have rl := HRx.out.lt
          have x0 := HST.out.box.cell 0 rfl
          have x1 := HST.out.box.cell 1 rfl
          have x2 := HST.out.box.cell 2 rfl
          have x3 := HST.out.box.cell 3 rfl
          have x4 := HST.out.box.cell 4 rfl
          by_cases h1 : n2 = 1
          · have HN1 := Lib.hid h1
            have hb9 : ((n2 : Int) == 1) = true := by rw [beq_iff_eq]; omega
            have hb8 : 0 < n2 := by omega
            have hb7 : (0 : Int) < (n2 : Int) := by omega
            obtain ⟨g9, o9, ⟨k9, s9, m9, u9, A9, n9, c9⟩, hA9, hgD, hgs, ⟨z0, z1, z2, z3', z4⟩, hT9⟩ := HST.out.row.at_ (i := 0) (by have := HST.out.num.1; omega)
            subst hA9
            simp only [Nat.zero_mul, Nat.add_zero] at z0 z1 z2 z3' z4
            have HT9 := Lib.hid hT9
            clear h1 hT9
            go_wp2
            refine bodyPost_ret (v := xe k9 s9 m9 u9 A9 n9 c9) (by simp [results, Tryz.results41, go_sem, r0, r1, r2, r3, r4, rf]) rfl ⟨⟨_, _, _, _, _, _, _, rfl, ?_⟩, (nx HB1.out HST.out.bel).trans ((five_below _ (w.heap.size + 1) _ _ _ _ _).mono (Nat.le_succ _))⟩
            rw [HRES.out.1 (by rw [← HST.out.num.1]; exact HN1.out)]
            exact TIn.fiveT HT9.out (fun q hq => ⟨Nat.le_trans (Nat.le_of_lt (Nat.lt_of_succ_lt HLW.out)) hq.1.1, hq.1.2, fun e => by have h3 := hq.1.1; have h4 := HLW.out; omega⟩) _ _ _ _ _
          · have HN1 := Lib.hid h1
            have hb9 : ((n2 : Int) == 1) = false := by rw [beq_eq_false_iff_ne]; omega
            clear h1
            go_wp2
            refine bodyPost_ret (v := xe k ⟨#[]⟩ 0 0 A2 n2 c2) (by simp [results, Tryz.results41, go_sem, r0, r1, r2, r3, r4, rf]) rfl ⟨⟨_, _, _, _, _, _, _, rfl, ?_⟩, (nx HB1.out HST.out.bel).trans ((five_below _ (w.heap.size + 1) _ _ _ _ _).mono (Nat.le_succ _))⟩
            rw [HRES.out.2 (by rw [← HST.out.num.1]; exact HN1.out)]
            refine TIn.fiveT (D := fun q => Snc W1.heap.size WT q ∧ q ≠ x) ⟨⟨?_, HST.out.num.2.1, HST.out.num.2.2⟩, HST.out.row⟩ (fun q hq => ⟨Nat.le_trans (Nat.le_of_lt (Nat.lt_of_succ_lt HLW.out)) hq.1.1, hq.1.2, fun e => by have h3 := hq.1.1; have h4 := HLW.out; omega⟩) _ _ _ _ _
            unfold XV.ks Ex.ks
            show (_, _, n2) = (_, _, List.length _)
            rw [HST.out.num.1]
            rfl
set_option maxHeartbeats 2000000 in
set_option maxRecDepth 8000 in
theorem pSimp_yes {e : Ex} {L : List A3} (k : Int) (s : ByteArray) (m u : Int) (A : Option Addr) (n c : Nat) (w : World) (hT : TIn (Lo w.heap.size) w ⟨k, s, m, u, A, n, c⟩ e) (hL : Hid (VL e L)) :
    Calls Tryz.prog 20 #[xe k s m u A n c] w (ExQ9 (smp e) w) := by
  have HTW := Lib.hid hT
  have hr : Hid (vexB e = true) := vexB_iff.2 hL.out.1
  have HMK := Lib.hid (psimp_all e hL.out.tr (by have := hL.out.1.2.1; omega))
  have HK0 := Lib.hid ((Blk.new w [.int .i64 k, .string s, .int .i64 m, .int .i64 u, .slice A n c] 28 rfl).grow (.cells #[.int .i64 0, .string ⟨#[]⟩, .int .i64 0, .int .i64 0, .slice none 0 0] 28))
  have HR0 := Lib.hid (Blk.new (w.alloc (.cells #[.int .i64 k, .string s, .int .i64 m, .int .i64 u, .slice A n c] 28)) [.int .i64 0, .string ⟨#[]⟩, .int .i64 0, .int .i64 0, .slice none 0 0] 28 (g := w.heap.size + 1) (by simp))
  have HB0 := Lib.hid (new2 w (.cells #[.int .i64 k, .string s, .int .i64 m, .int .i64 u, .slice A n c] 28) (.cells #[.int .i64 0, .string ⟨#[]⟩, .int .i64 0, .int .i64 0, .slice none 0 0] 28))
  have HT0 := Lib.hid (HTW.out.up HB0.out)
  clear hT
  go_enter Tryz.func20, Tryz.ntmps20
  go_wp2_with (first
    | (go_at_call 40; refine (validExpr_is (e := e) k s m u A n c _ HT0.out hr).mono ?_; rintro x W1 ⟨rfl, hb1⟩; have HT1 := Lib.hid (HT0.out.up hb1); have hk1 := HK0.out.up hb1 (by simp; omega); have x0 := hk1.cell 0 rfl; have x1 := hk1.cell 1 rfl; have x2 := hk1.cell 2 rfl; have x3 := hk1.cell 3 rfl; have x4 := hk1.cell 4 rfl; have HR1 := Lib.hid (HR0.out.up hb1 (by simp)); have HB1 := Lib.hid (nx HB0.out hb1); clear hb1 hk1)
    | (go_at_call 41; refine (HMK.out k s m u A n c W1 HT1).mono ?_; rintro x W2 ⟨⟨k', s', m', u', A', n', c', rfl, ht⟩, hb2⟩; have HT2 := Lib.hid ht; have hr2 := HR1.out.up hb2 HR1.out.lt; have HLTR := Lib.hid HR1.out.lt; have r0 := hr2.cell 0 rfl; have r1 := hr2.cell 1 rfl; have r2 := hr2.cell 2 rfl; have r3 := hr2.cell 3 rfl; have r4 := hr2.cell 4 rfl; have rf := hr2.fz; have rl := hr2.lt; have HB2 := Lib.hid (nx HB1.out hb2); clear hb2 ht hr2))
  refine bodyPost_ret (v := xe k' s' m' u' A' n' c') (by simp [results, Tryz.results20, go_sem, r0, r1, r2, r3, r4, rf]) rfl ⟨⟨_, _, _, _, _, _, _, rfl, ?_⟩, HB2.out.trans ((five_below W2 (w.heap.size + 1) _ _ _ _ _).mono (Nat.le_succ _))⟩
  exact (TIn.fiveT (lo := 0) (D := Snc W1.heap.size W2) HT2.out (fun q hq => ⟨Nat.zero_le _, hq.2, fun e => by have h1 := hq.1; have h2 := HLTR.out; omega⟩) _ _ _ _ _).mono (fun q hq => hq.2)
set_option maxHeartbeats 2000000 in
set_option maxRecDepth 8000 in
theorem pSimp_no {e : Ex} (k : Int) (s : ByteArray) (m u : Int) (A : Option Addr) (n c : Nat) (w : World) (hT : TIn (Lo w.heap.size) w ⟨k, s, m, u, A, n, c⟩ e) (hv : Hid (¬ Vex e)) :
    Calls Tryz.prog 20 #[xe k s m u A n c] w (ExQ9 Ex.zero w) := by
  have hr : Hid (vexB e = false) := vexB_no.2 hv.out
  have HR0 := Lib.hid (Blk.new (w.alloc (.cells #[.int .i64 k, .string s, .int .i64 m, .int .i64 u, .slice A n c] 28)) [.int .i64 0, .string ⟨#[]⟩, .int .i64 0, .int .i64 0, .slice none 0 0] 28 (g := w.heap.size + 1) (by simp))
  have HB0 := Lib.hid (new2 w (.cells #[.int .i64 k, .string s, .int .i64 m, .int .i64 u, .slice A n c] 28) (.cells #[.int .i64 0, .string ⟨#[]⟩, .int .i64 0, .int .i64 0, .slice none 0 0] 28))
  have HT0 := Lib.hid (hT.up HB0.out)
  clear hT
  go_enter Tryz.func20, Tryz.ntmps20
  go_wp2_with (first
    | (go_at_call 40; refine (validExpr_is (e := e) k s m u A n c _ HT0.out hr).mono ?_; rintro x W1 ⟨rfl, hb1⟩; have hr2 := HR0.out.up hb1 (by simp); have r0 := hr2.cell 0 rfl; have r1 := hr2.cell 1 rfl; have r2 := hr2.cell 2 rfl; have r3 := hr2.cell 3 rfl; have r4 := hr2.cell 4 rfl; have rf := hr2.fz; have rl := hr2.lt; have HB1 := Lib.hid (nx HB0.out hb1); clear hb1 hr2))
  refine bodyPost_ret (v := xe 0 ⟨#[]⟩ 0 0 none 0 0) (by simp [results, Tryz.results20, go_sem, r0, r1, r2, r3, r4, rf]) rfl ⟨⟨_, _, _, _, _, _, _, rfl, tin0 _ _⟩, HB1.out.trans ((five_below W1 (w.heap.size + 1) _ _ _ _ _).mono (Nat.le_succ _))⟩
theorem psimp_is {e : Ex} (k : Int) (s : ByteArray) (m u : Int) (A : Option Addr) (n c : Nat) (w : World) (hT : TIn (Lo w.heap.size) w ⟨k, s, m, u, A, n, c⟩ e) :
    Calls Tryz.prog 20 #[xe k s m u A n c] w (ExQ9 (smp9 e) w) := by
  by_cases hv : Vex e
  · obtain ⟨L, hL⟩ := VL.ex hv
    rw [smp9_yes hv]
    exact pSimp_yes k s m u A n c w hT (Lib.hid hL)
  · rw [smp9_no hv]
    exact pSimp_no k s m u A n c w hT (Lib.hid hv)
end Go.Proofs.YtohjllnfnkajjaaGreat
