/- Contract: the survey's add. -/
import Derived.Test.YtohjllnfnkajjaaGreatRsv
import Derived.Deep.CutRange
import Derived.Deep.CutBlock
namespace Go.Proofs.YtohjllnfnkajjaaGreat
open Go.RowKit
set_option linter.unusedVariables false
set_option linter.unusedSimpArgs false

/-- Behind the append: the state, what was there, the argument's box q. -/
def AdMid (w : World) (b base : Nat) (d : Int) (N : List (Int × A3 × Nat)) (q : Nat) (v : XV) (wx : World) : Prop := SvS wx b base d N ∧ Below b w wx ∧ ZX wx q 0 v
theorem mid_of {w w2 : World} {b base : Nat} {d : Int} {vs : List XV} {g2 L2 c2 q nn : Nat} {V0 : Value} {v : XV} (hO : OwnX w2 base (.slice (some ⟨g2, 0, none⟩) L2 c2) (vs ++ [XV.zero])) (hL : Hid ((vs ++ [XV.zero]).length = L2)) (hn : Hid (vs.length = nn)) (hg : base ≤ g2) (hS : Sv w2 b V0 d) (hb : b < base) (hbase : base ≤ w2.heap.size) (hB : Below b w w2) (hZ : ZX w2 q 0 v) (hqb : q ≠ b) (hqg : q ≠ g2) :
    AdMid w b base d (kss vs ++ [v.ks]) q v ((put5 w2 g2 (nn * 5) v).setCell ⟨b, 0, none⟩ (.slice (some ⟨g2, 0, none⟩) L2 c2)) ∧ AdMid w b base d (kss vs ++ [v.ks]) q v (put5 (w2.setCell ⟨b, 0, none⟩ (.slice (some ⟨g2, 0, none⟩) L2 c2)) g2 (nn * 5) v) := by
  have hbg : b ≠ g2 := by omega
  have e := hn.out
  subst e
  have hk : kss (vs ++ [v]) = kss vs ++ [v.ks] := by simp [kss]
  refine ⟨⟨⟨hb, ?_, .slice (some ⟨g2, 0, none⟩) L2 c2, vs ++ [v], ?_, ?_, hk⟩, ?_, ?_⟩, ⟨⟨hb, ?_, .slice (some ⟨g2, 0, none⟩) L2 c2, vs ++ [v], ?_, ?_, hk⟩, ?_, ?_⟩⟩
  · simpa [put5_size] using hbase
  · exact (hS.of (put5_block w2 _ _ hbg) (by rw [put5_size]; exact Nat.le_refl _)).set0 _
  · exact own_kept (OwnX.put hO (show Hid (L2 = _) from hL.out.symm) v) (fun g hg' => block_set _ _ _ (by simp only [Value.ownBlock, Option.some.injEq] at hg'; omega))
  · exact (put5_below hB (by omega) _ _).setCell (p := ⟨b, 0, none⟩) (Nat.le_refl _) _
  · exact hZ.of ((block_set _ _ _ hqb).trans (put5_block _ _ _ hqg))
  · simpa [put5_size] using hbase
  · exact (hS.set0 _).of (put5_block _ _ _ hbg) (by rw [put5_size]; exact Nat.le_refl _)
  · exact OwnX.put (own_kept hO (fun g hg' => block_set _ _ _ (by simp only [Value.ownBlock, Option.some.injEq] at hg'; omega))) (show Hid (L2 = _) from hL.out.symm) v
  · exact put5_below (hB.setCell (p := ⟨b, 0, none⟩) (Nat.le_refl _) _) (by omega) _ _
  · exact hZ.of ((put5_block _ _ _ hqg).trans (block_set _ _ _ hqb))
/-- What add leaves. -/
def AdP (r : Bool) (b base : Nat) (d : Int) (N : List (Int × A3 × Nat)) (w : World) (e : Ending) (w' : World) : Prop :=
  e = .returned (.bool r) ∧ Below b w w' ∧ (r = true → SvS w' b base d N)
/-- What the append of a node leaves, as the walk wants it. -/
structure Stp2 (w : World) (b base : Nat) (d : Int) (vs : List XV) (nn q : Nat) (v : XV) (g2 L2 c2 : Nat) (w2 : World) : Prop where
  own : OwnX w2 base (.slice (some ⟨g2, 0, none⟩) L2 c2) (vs ++ [XV.zero])
  len : (vs ++ [XV.zero]).length = L2
  ge : base ≤ g2
  sz : base ≤ w2.heap.size
  bel : Below b w w2
  zx : ZX w2 q 0 v
  qg : q ≠ g2
  sv : ∃ V0, Sv w2 b V0 d
theorem add_step {w W w2 : World} {b base : Nat} {d : Int} {vs : List XV} {nn q : Nat} {v : XV} {V V2 : Value} (hnn : vs.length = nn) (hS : Sv w b V d) (hb : b < base) (hW : base ≤ W.heap.size) (hBW : Below w.heap.size w W) (hO : OwnX W base V vs) (hlo : ∀ g, V.ownBlock = some g → g < q) (hq : w.heap.size = q) (hqW : q < W.heap.size) (hz : ZX W q 0 v)
    (ho2 : OwnX w2 base V2 (vs ++ [XV.zero])) (hg2 : W.grownBy w2 V.ownBlock) (hn2 : V2.ownBlock = V.ownBlock ∨ V2.ownBlock = some W.heap.size) :
    ∃ g2 L2 c2, V2 = .slice (some ⟨g2, 0, none⟩) L2 c2 ∧ Hid (Stp2 w b base d vs nn q v g2 L2 c2 w2) ∧ nn < L2 ∧ L2 ≤ c2 ∧ c2 ≤ maxLen ∧ ¬ g2 = b ∧ ¬ b = g2 ∧ b < w2.heap.size ∧ g2 < w2.heap.size ∧
      w2.cell? ⟨g2, nn * 5, none⟩ = some (.int .i64 0) ∧ w2.cell? ⟨g2, nn * 5 + 1, none⟩ = some (.string ⟨#[]⟩) ∧ w2.cell? ⟨g2, nn * 5 + 2, none⟩ = some (.int .i64 0) ∧ w2.cell? ⟨g2, nn * 5 + 3, none⟩ = some (.int .i64 0) ∧ w2.cell? ⟨g2, nn * 5 + 4, none⟩ = some (.slice none 0 0) ∧ (∀ o, w2.frozen? ⟨g2, o, none⟩ = false) ∧
      (∃ x, w2.cell? ⟨b, 0, none⟩ = some x) ∧ w2.cell? ⟨b, 1, none⟩ = some (.int .i64 d) ∧ ∀ o, w2.frozen? ⟨b, o, none⟩ = false := by
  obtain ⟨g2, c2, rfl, hbg2, hlt2, hc2, hm2, hz2, hfz2⟩ := ho2.last
  subst hnn
  have hne : ∀ g, V.ownBlock = some g → base ≤ g := fun g hg => (own_lt hO hg).1
  have hbb : w2.heap[b]? = w.heap[b]? := (hg2.block b (Nat.lt_of_lt_of_le hb hW) (fun h => by have := hne b h.symm; omega)).trans (hBW.block b hS.lt)
  have hS2 : Sv w2 b V d := hS.of hbb (Nat.le_trans hBW.size hg2.size)
  have hqg : q ≠ g2 := by
    rcases hn2 with h | h
    · have := hlo g2 (by rw [← h]; rfl); omega
    · simp only [Value.ownBlock, Option.some.injEq] at h; omega
  obtain ⟨z0, z1, z2, z3, z4⟩ := hz2
  refine ⟨g2, _, c2, rfl, ⟨ho2, rfl, hbg2, Nat.le_trans hW hg2.size, ?_, hz.of (hg2.block q hqW (fun h => by have := hlo q h.symm; omega)), hqg, V, hS2⟩, by simp, hc2, hm2, by omega, by omega, hS2.lt, hlt2, z0, z1, z2, z3, z4, hfz2, ⟨_, hS2.c0⟩, hS2.c1, hS2.fz⟩
  refine ((hBW.mono (B' := b) (Nat.le_of_lt hS.lt))).trans ⟨hg2.os, hg2.tape, hg2.output, hg2.size, fun k hk => hg2.block k (by omega) (fun h => by have := hne k h.symm; omega)⟩
def AddOk (e : Ex) : Prop := ∀ (b base : Nat) (k : Int) (s : ByteArray) (m u : Int) (A : Option Addr) (n c : Nat) (dd : Nat) (D d : Int) (N : List (Int × A3 × Nat)) (w : World) (r : Bool),
  Hid (SvS w b base d N) → Hid (TIn (Lo b) w ⟨k, s, m, u, A, n, c⟩ e) → 1 ≤ dd → dd ≤ 5 → N.length ≤ 24 → 0 ≤ d → d ≤ 5 → Hid (lim dd N.length e = r) → Hid (D = (dd : Int)) →
  Calls Tryz.prog 91 #[.pointer (some ⟨b, 0, none⟩), xe k s m u A n c, .int .i64 D] w (AdP r b base (max d ((dd : Int) + e.dp - 1)) (N ++ ess e.pre) w)
set_option maxHeartbeats 8000000 in
set_option maxRecDepth 100000 in
theorem add_all : ∀ e : Ex, AddOk e := by
  refine Ex.ind fun ek ea l ih => ?_
  intro b base k s m u A n c dd D d N w r HS HT h1 h5 h24 hd0 hd5 hr hD
  have hD' := hD.out
  subst hD'
  clear hD
  obtain ⟨⟨hks, hnc, hcm⟩, hK⟩ := HT.out
  obtain ⟨hb, hbase, V, vs, hsv, hox, hN⟩ := HS.out
  have hn : Hid (l.length = n) := by have := (Prod.mk.inj (Prod.mk.inj hks).2).2; exact this.symm
  have hmx : n ≤ 9223372036854775807 := by have h1 : n ≤ c := hnc; have h2 : c ≤ maxLen := hcm; unfold maxLen at h2; omega
  have HK : Hid (KRd (Lo b) w A l) := hK
  have HKS : Hid (XV.ks ⟨k, s, m, u, A, n, c⟩ = Ex.ks (.nd ek ea l)) := hks
  have HN := Lib.hid hN
  have hvl : Hid (vs.length = N.length) := by have := kss_len vs; rw [hN] at this; exact this.symm
  obtain ⟨A0, c0', rfl, hfit, hc0m, -⟩ := hox.form
  obtain ⟨nn, hnn⟩ : ∃ nn, Hid (vs.length = nn) := ⟨_, rfl⟩
  rw [hnn.out] at hsv hox hfit
  have HOX := Lib.hid hox
  have HSV := Lib.hid hsv
  obtain ⟨g0, c0, c1, fz⟩ := hsv
  have hnN : Hid (nn = N.length) := by rw [← hnn.out]; exact hvl.out
  have hnn24 : nn ≤ 24 := by rw [hnN.out]; exact h24
  have HBASE := Lib.hid hbase
  have hsz : Hid (vs.length + 1 ≤ 1000000) := by have := hnn.out; show _ ≤ _; omega
  have h1l : Hid ([XV.zero].length = 1) := rfl
  clear hox hN hks hK hcm hbase HS HT
  unfold maxLen at hc0m
  by_cases hd4 : 4 < (dd : Int)
  · have hend : Hid (r = false) := by
      rw [← hr.out]; unfold lim; show _ = _
      rw [decide_eq_false_iff_not]
      have := dp_pos (Ex.nd ek ea l)
      omega
    clear hr
    go_enter Tryz.func91, Tryz.ntmps91
    go_wp2
    go_ret
    have e := hend.out
    subst e
    exact ⟨rfl, (newB _ _).mono (Nat.le_of_lt g0), fun h => by cases h⟩
  · by_cases h24n : nn = 24
    · have hend : Hid (r = false) := by
        rw [← hr.out]; unfold lim; show _ = _
        rw [decide_eq_false_iff_not]
        have := cnt_pos (Ex.nd ek ea l)
        have := hnN.out
        omega
      have hb24 : ((nn : Int) == 24) = true := by rw [beq_iff_eq]; omega
      clear hr h24n
      go_enter Tryz.func91, Tryz.ntmps91
      go_wp2
      go_ret
      have e := hend.out
      subst e
      exact ⟨rfl, (newB _ _).mono (Nat.le_of_lt g0), fun h => by cases h⟩
    · have hb24 : ((nn : Int) == 24) = false := by rw [beq_eq_false_iff_ne]; omega
      go_enter Tryz.func91, Tryz.ntmps91
      go_wp2
      obtain ⟨q, hq⟩ : ∃ q, Hid (w.heap.size = q) := ⟨_, rfl⟩
      have hqw := hq.out
      obtain ⟨v, hv⟩ : ∃ v : XV, Hid (v = ⟨k, s, m, u, A, n, c⟩) := ⟨_, rfl⟩
      have hws : ∀ X Y : Obj, base ≤ (((w.alloc X).alloc Y).drew).heap.size := fun X Y => Nat.le_trans HBASE.out (by simp; omega)
      have HWS := Lib.hid hws
      have hzr : ∀ X : Obj, XRd (((w.alloc X).alloc (.cells #[.int .i64 0, .string ⟨#[]⟩, .int .i64 0, .int .i64 0, .slice none 0 0] 28)).drew) (some ⟨w.heap.size + 1, 0, none⟩) [XV.zero] := fun X => XRd.one_at (w.alloc X) _ XV.zero (by simp)
      have HZR := Lib.hid hzr
      have how : ∀ X Y : Obj, OwnX (((w.alloc X).alloc Y).drew) base (.slice A0 nn c0') vs := fun X Y => own_kept HOX.out (fun q hq => (bdD (nxA (newB w X) Y)).block q (own_lt HOX.out hq).2)
      have HOW := Lib.hid how
      have hbw : ∀ X Y : Obj, Below w.heap.size w (((w.alloc X).alloc Y).drew) := fun X Y => bdD (nxA (newB w X) Y)
      have HBW := Lib.hid hbw
      have hzq : ∀ Y : Obj, ZX (((w.alloc (.cells #[.int .i64 k, .string s, .int .i64 m, .int .i64 u, .slice A n c] 28)).alloc Y).drew) q 0 v := fun Y => by
        have e := hv.out
        subst e
        rw [← hq.out]
        have hb := newB (w.alloc (.cells #[.int .i64 k, .string s, .int .i64 m, .int .i64 u, .slice A n c] 28)) Y
        exact ZX.of (w := w.alloc (.cells #[.int .i64 k, .string s, .int .i64 m, .int .i64 u, .slice A n c] 28)) ⟨by simp, by simp, by simp, by simp, by simp⟩ (hb.block _ (by simp))
      have HZQ := Lib.hid hzq
      have hlo : ∀ g, (Value.slice A0 nn c0').ownBlock = some g → g < q := fun g hg => by rw [← hq.out]; exact (own_lt HOX.out hg).2
      have HLO := Lib.hid hlo
      have hstep : ∀ (Y : Obj) (V2 : Value) (w2 : World), _ → _ → _ → _ := fun Y V2 w2 h1 h2 h3 => add_step (w := w) (W := (((w.alloc (.cells #[.int .i64 k, .string s, .int .i64 m, .int .i64 u, .slice A n c] 28)).alloc Y).drew)) (V2 := V2) (w2 := w2) (q := q) (v := v) hnn.out HSV.out hb (hws _ _) (hbw _ _) (how _ _) hlo hq.out (by rw [← hq.out]; simp; omega) (hzq Y) h1 h2 h3
      have HSTEP := Lib.hid hstep
      clear hws hzr how hbw hzq hlo hqw hstep
      have g0' := Lib.hid g0
      go_upto_region 3 with fail
      go_cut [] from 19 (fun wx => AdMid w b base d (kss vs ++ [v.ks]) q v wx)
      case first =>
        go_region_law (refine step_app_expr rfl (.tmp 22) (.tmp 25) rfl base (.slice A0 nn c0') vs (some ⟨w.heap.size + 1, 0, none⟩) [XV.zero] 1 1 h1l (by simp [Act.eval, Act.put]) (by simp [Act.eval, Act.put]) (HOW.out _ _) (HZR.out _) hsz (HWS.out _ _) ?_; intro V2 w2 ho2 hg2 hn2; obtain ⟨g2, L2, c2, rfl, HST, k1, k2, k3, k4, k5, k6, k7, z0, z1, z2, z3, z4, zf, ⟨x2, b0⟩, b1, bf⟩ := HSTEP.out _ _ _ ho2 hg2 hn2; clear ho2 hg2 hn2)
        all_goals (
          go_wp2_with fail
          go_meet
          have hqb : q ≠ b := by have h1 := hq.out; have h2 := g0'.out; omega
          have M := mid_of (v := v) HST.out.own HST.out.len hnn HST.out.ge HST.out.sv.choose_spec hb HST.out.sz HST.out.bel HST.out.zx hqb HST.out.qg
          have e := hv.out
          subst e
          simp only [put5] at M
          first
            | with_reducible exact M.1
            | with_reducible exact M.2)
      case rest =>
        obtain ⟨⟨_, hbase3, V3, vs3, hs3, ho3, hk3⟩, hb3, hz3⟩ := hcut
        have HS3 := Lib.hid hs3
        have HO3 := Lib.hid ho3
        have HB3 := Lib.hid hb3
        have HBASE3 := Lib.hid hbase3
        have HK3 := Lib.hid hk3
        have HZ3 := Lib.hid hz3
        obtain ⟨_, _, _, _, q4⟩ := hz3
        have e := hv.out
        subst e
        have e2 := hq.out
        subst e2
        clear c0 c1 fz hk3 hbase3 hb3 ho3
        obtain ⟨g3, c0, c1, fz⟩ := hs3
        clear hv hq HSTEP HZQ HBW HOW HZR HWS HOX HSV
        simp only [Nat.zero_add] at q4
        go_upto_region 4 with fail
        go_cut [] from 30 (fun wx => AdMid w b base (max d (dd : Int)) (kss vs ++ [XV.ks ⟨k, s, m, u, A, n, c⟩]) w.heap.size ⟨k, s, m, u, A, n, c⟩ wx)
        case first =>
          go_wp2_with fail
          all_goals (
            go_meet
            have hqb : w.heap.size ≠ b := by have := g0'.out; omega
            refine ⟨⟨hb, by simpa using HBASE3.out, V3, vs3, ?_, own_kept HO3.out (fun g hg => block_set _ _ _ (by have := (own_lt HO3.out hg).1; omega)), HK3.out⟩, HB3.out.setCell (p := ⟨b, 1, none⟩) (Nat.le_refl _) _, HZ3.out.of (block_set _ _ _ hqb)⟩
            have h := HS3.out.set1 (max d (dd : Int))
            first
              | (rw [show max d (dd : Int) = d by omega] at h ⊢; exact h)
              | (rw [show max d (dd : Int) = (dd : Int) by omega] at h ⊢; exact h))
        case rest =>
          obtain ⟨hs4, hb4, hz4⟩ := hcut
          have HS4 := Lib.hid hs4
          have HB4 := Lib.hid hb4
          clear HS3 HO3 HB3 HBASE3 HK3 HZ3 q4 g3 c0 c1 fz hs4 hb4
          obtain ⟨_, _, _, _, q4⟩ := hz4
          simp only [Nat.zero_add] at q4
          have hN1 : Hid (kss vs ++ [XV.ks ⟨k, s, m, u, A, n, c⟩] = N ++ [Ex.ks (.nd ek ea l)]) := by show _ = _; rw [HN.out, HKS.out]
          rw [hN1.out] at HS4
          have hlen : ∀ j, Hid ((N ++ [Ex.ks (.nd ek ea l)] ++ ess (preL (l.take j))).length = N.length + 1 + cntL (l.take j)) := fun j => by show _ = _; rw [List.length_append, List.length_append, ess_len, pre_len.2]; simp
          have HLEN := Lib.hid hlen
          have e6 : IntKind.i64.wrap ((dd : Int) + 1) = (dd : Int) + 1 := by rw [IntKind.wrap_i64]; omega
          clear hlen hN1 hfit hc0m
          go_wp2
          go_loopw [42] (fun i wr => ∃ (j : Nat), j ≤ n ∧ i = .int .i64 j ∧ Hid (SvS wr b base (max d ((dd : Int) + (dpL (l.take j) : Nat))) (N ++ [Ex.ks (.nd ek ea l)] ++ ess (preL (l.take j)))) ∧ Hid (Below b w wr) ∧ Hid (dd + 1 + dpL (l.take j) ≤ 5 ∧ N.length + 1 + cntL (l.take j) ≤ 24)) (fun i _ => n - (intOf i).toNat)
          case atStart =>
            refine ⟨0, by omega, rfl, ?_, HB4, ?_⟩
            · simpa [dpL, preL, ess] using HS4
            · have := hnN.out
              show _ ∧ _
              simp only [List.take_zero, dpL, cntL]
              omega
          case round =>
            obtain ⟨j, hj, rfl, hS, hB, hL⟩ := hrel
            by_cases hlt : (j : Int) < (n : Int)
            · have hjl : j < l.length := by have := hn.out; omega
              obtain ⟨g, o, ⟨k', s', m', u', A', n', c'⟩, rfl, hgb, hgs, ⟨z0, z1, z2, z3, z4⟩, hT'⟩ := (HK.out.lo hB.out).at_ hjl
              have e5 : IntKind.i64.wrap ((j : Int) + 1) = (j : Int) + 1 := by rw [IntKind.wrap_i64]; omega
              have hmem := getD_memX hjl
              have IH := Lib.hid (ih _ hmem)
              obtain ⟨f, hf⟩ : ∃ f, Hid (l.getD j default = f) := ⟨_, rfl⟩
              rw [hf.out] at IH hT'
              have HT' := Lib.hid hT'
              have hcn := cntL_take hjl
              have hdp := dpL_take hjl
              have hpr := preL_take hjl
              rw [hf.out] at hcn hdp hpr
              have hlj := (HLEN.out j).out
              obtain ⟨r', hr'⟩ : ∃ r', Hid (lim (dd + 1) (N ++ [Ex.ks (.nd ek ea l)] ++ ess (preL (l.take j))).length f = r') := ⟨_, rfl⟩
              have hlim := hL.out
              have hmax0 : Hid (0 ≤ max d ((dd : Int) + (dpL (l.take j) : Nat)) ∧ max d ((dd : Int) + (dpL (l.take j) : Nat)) ≤ 5) := by show _ ∧ _; omega
              have h24' : Hid ((N ++ [Ex.ks (.nd ek ea l)] ++ ess (preL (l.take j))).length ≤ 24) := by show _ ≤ _; omega
              cases r' with
              | true =>
                have hl2 := lim_is hr'.out
                have hnew : Hid (dd + 1 + dpL (l.take (j + 1)) ≤ 5 ∧ N.length + 1 + cntL (l.take (j + 1)) ≤ 24) := by show _ ∧ _; omega
                have hSeq : Hid (max (max d ((dd : Int) + (dpL (l.take j) : Nat))) (((dd + 1 : Nat) : Int) + f.dp - 1) = max d ((dd : Int) + (dpL (l.take (j + 1)) : Nat))) := by show _ = _; omega
                have hNeq : Hid (N ++ [Ex.ks (.nd ek ea l)] ++ ess (preL (l.take j)) ++ ess f.pre = N ++ [Ex.ks (.nd ek ea l)] ++ ess (preL (l.take (j + 1)))) := by show _ = _; rw [hpr]; simp [ess]
                clear hl2 hcn hdp hpr hlj hlim hT'
                go_wp2_with (go_at_call 91; refine (IH.out b base k' s' m' u' A' n' c' (dd + 1) _ _ _ _ true (Lib.hid (hS.out.up (newB wr _))) (Lib.hid (HT'.out.below ((newB wr _).mono (Nat.le_of_lt (Nat.lt_of_lt_of_le hb hS.out.2.1))))) (by omega) (by omega) h24'.out hmax0.out.1 hmax0.out.2 hr' rfl).mono ?_; rintro e W1 ⟨rfl, hb1, hs1⟩; have HS1 := Lib.hid (hs1 rfl); have HB1 := Lib.hid hb1; rw [hSeq.out, hNeq.out] at HS1; clear hs1 hb1)
                go_roundw
                case rel => exact ⟨j + 1, by omega, by go_num, HS1, (hB.out.trans ((newB wr _).mono (Nat.le_of_lt (Nat.lt_of_lt_of_le hb hS.out.2.1)))).trans HB1.out, hnew⟩
                case measure => simp [intOf]; omega
              | false =>
                have hl2 := lim_no hr'.out
                have hend : Hid (r = false) := by
                  rw [← hr.out]; unfold lim; show _ = _
                  rw [decide_eq_false_iff_not]
                  have := cntL_take_le l (j + 1)
                  have := dpL_take_le l (j + 1)
                  rw [Ex.dp, Ex.cnt]
                  omega
                clear hl2 hcn hdp hpr hlj hlim hT' hr
                go_wp2_with (go_at_call 91; refine (IH.out b base k' s' m' u' A' n' c' (dd + 1) _ _ _ _ false (Lib.hid (hS.out.up (newB wr _))) (Lib.hid (HT'.out.below ((newB wr _).mono (Nat.le_of_lt (Nat.lt_of_lt_of_le hb hS.out.2.1))))) (by omega) (by omega) h24'.out hmax0.out.1 hmax0.out.2 hr' rfl).mono ?_; rintro e W1 ⟨rfl, hb1, hs1⟩; have HB1 := Lib.hid hb1; clear hs1 hb1)
                go_ret
                have e := hend.out
                subst e
                exact ⟨rfl, (hB.out.trans ((newB wr _).mono (Nat.le_of_lt (Nat.lt_of_lt_of_le hb hS.out.2.1)))).trans HB1.out, fun h => by cases h⟩
            · have hjn : j = l.length := by have := hn.out; omega
              have htk : Hid (l.take j = l) := by show _ = _; rw [hjn, List.take_length]
              have hend : Hid (r = true) := by
                rw [← hr.out]; unfold lim; show _ = _
                have h := hL.out
                rw [htk.out] at h
                rw [decide_eq_true_iff, Ex.dp, Ex.cnt]
                omega
              have hfin : Hid (SvS wr b base (max d ((dd : Int) + (Ex.nd ek ea l).dp - 1)) (N ++ ess (Ex.nd ek ea l).pre)) := by
                have h := hS.out
                rw [htk.out] at h
                show SvS _ _ _ _ _
                rw [show max d ((dd : Int) + (Ex.nd ek ea l).dp - 1) = max d ((dd : Int) + (dpL l : Nat)) by rw [Ex.dp]; omega, Ex.pre]
                simpa [ess] using h
              clear hr hjn
              go_wp2
              go_ret
              have e := hend.out
              subst e
              exact ⟨rfl, hB.out, fun _ => hfin.out⟩
end Go.Proofs.YtohjllnfnkajjaaGreat
