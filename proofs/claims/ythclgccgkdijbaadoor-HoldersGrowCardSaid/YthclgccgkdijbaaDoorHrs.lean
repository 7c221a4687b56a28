/- Contract of the reference: Set of grants. -/
import Derived.Test.YthclgccgkdijbaaDoorHrf
import Derived.Test.YthclgccgkdijbaaDoorHbs
namespace Go.Proofs.YthclgccgkdijbaaDoor
open Go.RowKit
set_option linter.unusedVariables false
set_option linter.unusedSimpArgs false

/-- Whether a grant of a greater process is there. -/
def anyH (p : Pr3) (D : List Hd) : Bool := D.any fun h => decide (ltP p h.1)
theorem any_snoc (p : Pr3) (D : List Hd) (h : Hd) : anyH p (D ++ [h]) = (anyH p D || decide (ltP p h.1)) := by simp [anyH]
theorem ins_any {p : Pr3} {a : P2} {h : Hd} : ∀ {D : List Hd}, anyH p D = true → insH p a (D ++ [h]) = insH p a D ++ [h]
  | [], hD => by simp [anyH] at hD
  | x :: D, hD => by
    show insH p a (x :: (D ++ [h])) = _
    rw [insH, insH]
    by_cases hx : ltP p x.1
    · rw [if_pos hx, if_pos hx]; rfl
    · rw [if_neg hx, if_neg hx, ins_any (by simpa [anyH, hx] using hD)]; rfl
theorem ins_none {p : Pr3} {a : P2} : ∀ {D : List Hd}, anyH p D = false → insH p a D = D ++ [(p, a)]
  | [], _ => rfl
  | x :: D, hD => by
    have h' : ¬ ltP p x.1 ∧ anyH p D = false := by simpa [anyH] using hD
    rw [insH, if_neg h'.1, ins_none h'.2]; rfl
theorem ins_here {p : Pr3} {a : P2} {h : Hd} (hh : ltP p h.1) : ∀ {D : List Hd}, anyH p D = false → insH p a (D ++ [h]) = D ++ [(p, a)] ++ [h]
  | [], _ => by simp [insH, hh]
  | x :: D, hD => by
    have h' : ¬ ltP p x.1 ∧ anyH p D = false := by simpa [anyH] using hD
    show insH p a (x :: (D ++ [h])) = _
    rw [insH, if_neg h'.1, ins_here hh h'.2]; rfl
/-- What the reference's Set has made of the grants D so far. -/
def stH (z : Bool) (p : Pr3) (a : P2) (D : List Hd) : List Hd := if z || !anyH p D then D else insH p a D
theorem stH_end {p : Pr3} {a : P2} {D : List Hd} (h : anyH p D = true) : stH false p a D = insH p a D := by simp [stH, h]
theorem delH_snoc (l : List Hd) (p : Pr3) {k : Nat} (hk : k < l.length) : delH (l.take (k + 1)) p = delH (l.take k) p ++ (if (l.getD k default).1 = p then [] else [l.getD k default]) := by
  have h := filter_snoc (fun h => decide (h.1 = p)) hk
  unfold delH
  rw [h]
  by_cases he : (l.getD k default).1 = p
  · rw [if_pos he, if_pos (by simpa using he)]
  · rw [if_neg he, if_neg (by simpa using he)]
theorem stH_len (z : Bool) (p : Pr3) (a : P2) (D : List Hd) : (stH z p a D).length ≤ D.length + 1 := by
  unfold stH
  split
  · omega
  · rw [insH_len]; omega
set_option maxHeartbeats 8000000 in
set_option maxRecDepth 20000 in
theorem refSet_is (A : Option Addr) (n c : Nat) (l : List Hd) (a b d s t : Int) (w : World) (hl : HRd w A l) (hn : Hid (l.length = n)) (hm : Hid (n ≤ 900)) :
    Calls Tryd.prog 21 #[.slice A n c, .agg #[.int .i64 a, .int .i64 b, .int .i64 d], .agg #[.int .i64 s, .int .i64 t]] w fun e w' => (∃ V, e = .returned V ∧ OwnH w' w.heap.size V (setH l (a, b, d) (s, t))) ∧ Below w.heap.size w w' := by
  have HR := Lib.hid hl
  have HK0 := Lib.hid (Blk.new w [.int .i64 a, .int .i64 b, .int .i64 d] 26 rfl)
  have HK1 := Lib.hid (Blk.new (w.alloc (.cells #[.int .i64 a, .int .i64 b, .int .i64 d] 26)) [.int .i64 s, .int .i64 t] 30 (g := w.heap.size + 1) (by simp))
  have HK2 := Lib.hid (HK0.out.grow (.cells #[.int .i64 s, .int .i64 t] 30))
  have mixed : Tryd.prog.follows .mixedOrders = true := by kernel_rfl
  obtain ⟨z, hz⟩ : ∃ z, Hid (zer s t = z) := ⟨_, Lib.hid rfl⟩
  have HZ : Hid (∀ W, Calls Tryd.prog 27 #[.agg #[.int .i64 s, .int .i64 t]] W fun e w' => e = .returned (.bool z) ∧ Below W.heap.size W w') := Lib.hid (fun W => by rw [← hz.out]; exact refZero_any s t W)
  have HB0 : Hid (Below w.heap.size w ((w.alloc (.cells #[.int .i64 a, .int .i64 b, .int .i64 d] 26)).alloc (.cells #[.int .i64 s, .int .i64 t] 30))) := Lib.hid (nxA (newB _ _) _)
  clear hl HK0
  go_enter Tryd.func21, Tryd.ntmps21
  go_wp2_with (go_at_call 27; refine (HZ.out _).mono ?_; rintro e W1 ⟨rfl, hb1⟩; have HB1 := Lib.hid (nx HB0.out hb1); have HP1 := Lib.hid (HK2.out.up hb1 HK2.out.lt); have HA1 := Lib.hid (HK1.out.up hb1 HK1.out.lt); clear hb1)
  go_loopw [7, 8, 9] (fun V dn i wr => ∃ (j q c2 : Nat) (A2 : Option Addr), j ≤ n ∧ q ≤ j + 1 ∧ i = .int .i64 j ∧ V = .slice A2 q c2 ∧ dn = .bool (z || anyH (a, b, d) (delH (l.take j) (a, b, d))) ∧ Hid ((stH z (a, b, d) (s, t) (delH (l.take j) (a, b, d))).length = q) ∧ Hid (OwnH wr (w.heap.size + 2) (.slice A2 q c2) (stH z (a, b, d) (s, t) (delH (l.take j) (a, b, d)))) ∧ Hid (Blk wr w.heap.size [.int .i64 a, .int .i64 b, .int .i64 d]) ∧ Hid (Blk wr (w.heap.size + 1) [.int .i64 s, .int .i64 t]) ∧ Hid (Below w.heap.size w wr)) (fun _ _ i _ => n - (intOf i).toNat)
  case atStart => exact ⟨0, 0, 0, none, by omega, by omega, rfl, rfl, by simp [delH, anyH], Lib.hid (by simp [stH, delH, anyH]), Lib.hid (by rw [List.take_zero]; simp only [stH, delH, anyH, List.filter_nil, List.any_nil, Bool.not_false, Bool.or_true, if_true]; exact OwnH.nil _ _), HP1, HA1, HB1⟩
  case round =>
    obtain ⟨j, q, c2, A2, hj, hqj, rfl, rfl, rfl, hL, hO, hP, hA, hB⟩ := hrel
    obtain ⟨WR, hWR⟩ : ∃ W, W = wr := ⟨_, rfl⟩
    subst hWR
    obtain ⟨D, hD⟩ : ∃ D, Hid (delH (l.take j) (a, b, d) = D) := ⟨_, Lib.hid rfl⟩
    rw [hD.out] at hL hO ⊢
    obtain ⟨y0, hy0⟩ : ∃ y0, Hid (anyH (a, b, d) D = y0) := ⟨_, Lib.hid rfl⟩
    rw [hy0.out]
    have hDl : Hid (D.length ≤ j) := Lib.hid (by rw [← hD.out]; exact Nat.le_trans (List.length_filter_le _ _) (by rw [List.length_take]; omega))
    by_cases hlt : (j : Int) < (n : Int)
    · obtain ⟨g, o, x, y, z1, m, v, rfl, hg, hx, c1, c2', c3, c4, c5⟩ := (HR.out.below hB.out).at_ (i := j) (by have := hn.out; omega)
      have e5 : IntKind.i64.wrap ((j : Int) + 1) = (j : Int) + 1 := by have := hm.out; rw [IntKind.wrap_i64]; omega
      obtain ⟨g0, o0, x0, y0', z0, m0, v0, hA0, hgw, hx0, d1, d2, d3, d4, d5⟩ := HR.out.at_ (i := j) (by have := hn.out; omega)
      obtain ⟨rfl, rfl⟩ : g = g0 ∧ o = o0 := by simpa using hA0
      have hxx0 := hx.out.symm.trans hx0.out
      simp only [Prod.mk.injEq] at hxx0
      obtain ⟨⟨rfl, rfl, rfl⟩, rfl, rfl⟩ := hxx0
      clear hA0 hx0
      have hsn := delH_snoc l (a, b, d) (k := j) (by rw [hn.out]; omega)
      rw [hD.out, hx.out] at hsn
      have k1 : ∀ (P : NxW WR), P.W.cell? ⟨g, o + j * 5, none⟩ = some (.int .i64 x) := NxW.cell c1
      have k2 : ∀ (P : NxW WR), P.W.cell? ⟨g, o + j * 5 + 1, none⟩ = some (.int .i64 y) := NxW.cell c2'
      have k3 : ∀ (P : NxW WR), P.W.cell? ⟨g, o + j * 5 + 2, none⟩ = some (.int .i64 z1) := NxW.cell c3
      have r1 : ∀ (P : NxW WR), P.W.cell? ⟨w.heap.size, 0, none⟩ = some (.int .i64 a) := NxW.cell (hP.out.cell 0 rfl)
      have r2 : ∀ (P : NxW WR), P.W.cell? ⟨w.heap.size, 1, none⟩ = some (.int .i64 b) := NxW.cell (hP.out.cell 1 rfl)
      have r3 : ∀ (P : NxW WR), P.W.cell? ⟨w.heap.size, 2, none⟩ = some (.int .i64 d) := NxW.cell (hP.out.cell 2 rfl)
      clear c1 c2' c3 c4 c5
      obtain ⟨ε, hε⟩ : ∃ ε, Hid (decide (x = a ∧ y = b ∧ z1 = d) = ε) := ⟨_, rfl⟩
      have he : ∀ W : World, (binOp .eql 26 (.agg #[.int .i64 x, .int .i64 y, .int .i64 z1]) (.agg #[.int .i64 a, .int .i64 b, .int .i64 d])).run Tryd.prog W = .ok (.bool ε) W := fun W => by rw [← hε.out]; exact eqPr x y z1 a b d W
      go_upto_region 6 with fail
      refine wp_region_below mixed (by kernel_rfl) ?_
      repeat (go_big_quiet_step (fail))
      refine wpQuiet_nil ?_
      intro W2 hw'
      obtain ⟨⟨_, hb2⟩, hw''⟩ := hw'
      subst hw''
      have HB2 := Lib.hid (nx hB.out hb2)
      have HP2 := Lib.hid (hP.out.up hb2 hP.out.lt)
      have HA2 := Lib.hid (hA.out.up hb2 hA.out.lt)
      have HO2 := Lib.hid (hO.out.below hb2)
      clear k1 k2 k3 r1 r2 r3 hb2
      cases ε with
      | true =>
        have hxe : (x, y, z1) = (a, b, d) := by
          obtain ⟨rfl, rfl, rfl⟩ := of_decide_eq_true hε.out
          rfl
        rw [if_pos hxe, List.append_nil] at hsn
        have HSN := Lib.hid hsn
        clear hsn hxe
        go_wp2
        go_roundw
        case rel => exact ⟨j + 1, q, c2, A2, by omega, by omega, by go_num, rfl, by rw [HSN.out, hy0.out], by rw [HSN.out]; exact hL, by rw [HSN.out]; exact HO2, HP2, HA2, HB2⟩
        case measure => simp [intOf]; omega
      | false =>
        have hxe : ¬ (x, y, z1) = (a, b, d) := fun h => by
          have h1 := of_decide_eq_false hε.out
          simp only [Prod.mk.injEq] at h
          exact h1 h
        rw [if_neg hxe] at hsn
        have HSN := Lib.hid hsn
        clear hsn hxe
        obtain ⟨g', o', x', y', z1', m', v', hA', hg', hx', c1, c2', c3, c4, c5⟩ := (HR.out.below HB2.out).at_ (i := j) (by have := hn.out; omega)
        obtain ⟨rfl, rfl⟩ : g = g' ∧ o = o' := by simpa using hA'
        have hxx := hx'.out.symm.trans hx.out
        simp only [Prod.mk.injEq] at hxx
        obtain ⟨⟨rfl, rfl, rfl⟩, rfl, rfl⟩ := hxx
        clear hA' hx'
        have p0 := HP2.out.cell 0 rfl
        have p1 := HP2.out.cell 1 rfl
        have p2 := HP2.out.cell 2 rfl
        have k1 : ∀ (P : NxW W2), P.W.cell? ⟨g, o + j * 5, none⟩ = some (.int .i64 x') := NxW.cell c1
        have k2 : ∀ (P : NxW W2), P.W.cell? ⟨g, o + j * 5 + 1, none⟩ = some (.int .i64 y') := NxW.cell c2'
        have k3 : ∀ (P : NxW W2), P.W.cell? ⟨g, o + j * 5 + 2, none⟩ = some (.int .i64 z1') := NxW.cell c3
        have r1 : ∀ (P : NxW W2), P.W.cell? ⟨w.heap.size, 0, none⟩ = some (.int .i64 a) := NxW.cell p0
        have r2 : ∀ (P : NxW W2), P.W.cell? ⟨w.heap.size, 1, none⟩ = some (.int .i64 b) := NxW.cell p1
        have r3 : ∀ (P : NxW W2), P.W.cell? ⟨w.heap.size, 2, none⟩ = some (.int .i64 d) := NxW.cell p2
        have HC5 : Hid (∀ W, Below W2.heap.size W2 W → (W.cell? ⟨g, o + j * 5, none⟩ = some (.int .i64 x') ∧ W.cell? ⟨g, o + j * 5 + 1, none⟩ = some (.int .i64 y') ∧ W.cell? ⟨g, o + j * 5 + 2, none⟩ = some (.int .i64 z1') ∧ W.cell? ⟨g, o + j * 5 + 3, none⟩ = some (.int .i64 m') ∧ W.cell? ⟨g, o + j * 5 + 4, none⟩ = some (.int .i64 v')) ∧ Blk W w.heap.size [.int .i64 a, .int .i64 b, .int .i64 d] ∧ Blk W (w.heap.size + 1) [.int .i64 s, .int .i64 t] ∧ OwnH W (w.heap.size + 2) (.slice A2 q c2) (stH z (a, b, d) (s, t) D) ∧ Below w.heap.size w W) := Lib.hid (fun W hW => ⟨⟨NxW.cell c1 ⟨W, hW⟩, NxW.cell c2' ⟨W, hW⟩, NxW.cell c3 ⟨W, hW⟩, NxW.cell c4 ⟨W, hW⟩, NxW.cell c5 ⟨W, hW⟩⟩, HP2.out.up hW HP2.out.lt, HA2.out.up hW HA2.out.lt, HO2.out.below hW, nx HB2.out hW⟩)
        clear c1 c2' c3 c4 c5 p0 p1 p2
        have hb1 : Hid (([((x', y', z1'), (m', v'))] : List Hd).length = 1) := Lib.hid rfl
        have hb2' : Hid (([((a, b, d), (s, t))] : List Hd).length = 1) := Lib.hid rfl
        have hLL : Hid ((stH z (a, b, d) (s, t) D).length + 1 ≤ 1000000) := Lib.hid (by have := hL.out; have := hm.out; omega)
        obtain ⟨q5, hq5⟩ : ∃ q5, Hid ((stH z (a, b, d) (s, t) (D ++ [((x', y', z1'), (m', v'))])).length = q5) := ⟨_, Lib.hid rfl⟩
        by_cases hdn : (z || y0) = true
        · have HST : Hid (stH z (a, b, d) (s, t) (D ++ [((x', y', z1'), (m', v'))]) = stH z (a, b, d) (s, t) D ++ [((x', y', z1'), (m', v'))]) := Lib.hid (by
            unfold stH
            rw [any_snoc, hy0.out]
            cases z with
            | true => rfl
            | false =>
              obtain rfl : y0 = true := by simpa using hdn
              simp only [Bool.false_or, Bool.true_or, Bool.not_true, Bool.false_eq_true, if_false]
              exact ins_any hy0.out)
          have HAN : Hid ((z || anyH (a, b, d) (D ++ [((x', y', z1'), (m', v'))])) = true) := Lib.hid (by
            rw [any_snoc, hy0.out, ← Bool.or_assoc, hdn]; rfl)
          rw [hdn]
          go_wp2
          refine wp_region_below mixed (by kernel_rfl) ?_
          repeat (go_big_quiet_step (fail))
          refine wpQuiet_nil ?_
          intro W3 hw'
          obtain ⟨⟨_, hb3⟩, hw''⟩ := hw'
          subst hw''
          obtain ⟨⟨c1, c2', c3, c4, c5⟩, hp3, ha3, ho3, hbb3⟩ := HC5.out W3 hb3
          have HP3 := Lib.hid hp3
          have HA3 := Lib.hid ha3
          have HO3 := Lib.hid ho3
          have HB3 := Lib.hid hbb3
          clear hp3 ha3 ho3 hbb3 hb3 k1 k2 k3 r1 r2 r3
          go_wp2_with (at_builtin; (refine app_hold rfl (.tmp 43) (.tmp 48) rfl (w.heap.size + 2) _ (stH z (a, b, d) (s, t) D) (some ⟨W3.heap.size, 0, none⟩) [((x', y', z1'), (m', v'))] 1 1 hb1 rfl rfl (HO3.out.below (newB _ _)) (hrd_one (by unfold Z5; simp)) hLL (by have := HA3.out.lt; simp; omega) ?_); intro V5 W5 ho5 hb5; rw [← HST.out] at ho5; obtain ⟨A5, c5', hv5, -, -, -⟩ := ho5.form; rw [hq5.out] at hv5; subst hv5; have HO5 := Lib.hid ho5; have HB5 : Hid (Below w.heap.size w W5) := Lib.hid ((nxA HB3.out _).trans (hb5.mono (by omega))); have HP5 := Lib.hid ((HP3.out.grow _).up hb5 (by omega)); have HA5 := Lib.hid ((HA3.out.grow _).up hb5 (by omega)); clear hb5 ho5)
          have hq51 : q5 = q + 1 := by have h1 := hq5.out; rw [HST.out, List.length_append, hL.out] at h1; exact h1.symm
          go_roundw
          case rel => exact ⟨j + 1, q5, c5', A5, by omega, by omega, by go_num, rfl, by rw [HSN.out, HAN.out], by rw [HSN.out]; exact hq5, by rw [HSN.out]; exact HO5, HP5, HA5, HB5⟩
          case measure => simp [intOf]; omega
        · obtain ⟨rfl, rfl⟩ : z = false ∧ y0 = false := by simpa using hdn
          have HS0 : Hid (stH false (a, b, d) (s, t) D = D) := Lib.hid (by unfold stH; rw [hy0.out]; rfl)
          obtain ⟨t0, ht0⟩ : ∃ t0, Hid (cmp3 x' y' z1' a b d = t0) := ⟨_, rfl⟩
          have hlt2 : Hid (ltP (a, b, d) (x', y', z1') ↔ 0 < t0) := Lib.hid (by rw [← ht0.out]; exact (ltP_cmp' (x', y', z1') (a, b, d)).symm)
          have HC := Lib.hid (fun P : NxW W2 => Calls.nx_of P (refCompareProc_is x' y' z1' a b d P.W ht0))
          by_cases hq0 : 0 < t0
          · have HST : Hid (stH false (a, b, d) (s, t) (D ++ [((x', y', z1'), (m', v'))]) = (stH false (a, b, d) (s, t) D ++ [((a, b, d), (s, t))]) ++ [((x', y', z1'), (m', v'))]) := Lib.hid (by
              rw [HS0.out]
              rw [stH_end (by rw [any_snoc, hy0.out, Bool.false_or]; exact decide_eq_true (hlt2.out.2 hq0))]
              exact ins_here (hlt2.out.2 hq0) hy0.out)
            have HAN : Hid ((false || anyH (a, b, d) (D ++ [((x', y', z1'), (m', v'))])) = true) := Lib.hid (by
              rw [any_snoc, hy0.out]
              simpa using hlt2.out.2 hq0)
            have hLL2 : Hid ((stH false (a, b, d) (s, t) D ++ [((a, b, d), (s, t))]).length + 1 ≤ 1000000) := Lib.hid (by have := hL.out; have := hm.out; rw [List.length_append]; simp only [List.length_singleton]; omega)
            go_wp2
            refine wp_region_below mixed (by kernel_rfl) ?_
            repeat (go_big_quiet_step (first
              | (go_at_call 40; exact HC.out _)))
            refine wpQuiet_nil ?_
            intro W3 hw'
            obtain ⟨⟨_, hb3⟩, hw''⟩ := hw'
            subst hw''
            obtain ⟨⟨c1, c2', c3, c4, c5⟩, hp3, ha3, ho3, hbb3⟩ := HC5.out W3 hb3
            have u0 := hp3.cell 0 rfl
            have u1 := hp3.cell 1 rfl
            have u2 := hp3.cell 2 rfl
            have u3 := ha3.cell 0 rfl
            have u4 := ha3.cell 1 rfl
            have HC6 : Hid (∀ W, Below (w.heap.size + 2) W3 W → True) := Lib.hid (fun _ _ => trivial)
            have HR3 := Lib.hid (HR.out.below (nx HB2.out hb3))
            have HP3 := Lib.hid hp3
            have HA3 := Lib.hid ha3
            have HO3 := Lib.hid ho3
            have HB3 := Lib.hid hbb3
            have HGL : Hid (g < w.heap.size) := Lib.hid hgw
            clear hp3 ha3 ho3 hbb3 hb3 k1 k2 k3 r1 r2 r3
            go_wp2_with (first
              | (at_builtin; (refine app_hold rfl (.tmp 37) (.tmp 41) rfl (w.heap.size + 2) _ (stH false (a, b, d) (s, t) D) (some ⟨W3.heap.size, 0, none⟩) [((a, b, d), (s, t))] 1 1 hb2' rfl rfl (HO3.out.below (newB _ _)) (hrd_one (by unfold Z5; simp)) hLL (by have := HA3.out.lt; simp; omega) ?_); intro V4 W4 ho4 hb4; have HO4 := Lib.hid ho4; have HB4 : Hid (Below w.heap.size w W4) := Lib.hid ((nxA HB3.out _).trans (hb4.mono (by omega))); have HP4 := Lib.hid ((HP3.out.grow _).up hb4 (by omega)); have HA4 := Lib.hid ((HA3.out.grow _).up hb4 (by omega)); have w1 := (HB4.out.cell (p := ⟨g, o + j * 5, none⟩) HGL.out).trans d1; have w2 := (HB4.out.cell (p := ⟨g, o + j * 5 + 1, none⟩) HGL.out).trans d2; have w3 := (HB4.out.cell (p := ⟨g, o + j * 5 + 2, none⟩) HGL.out).trans d3; have w4 := (HB4.out.cell (p := ⟨g, o + j * 5 + 3, none⟩) HGL.out).trans d4; have w5 := (HB4.out.cell (p := ⟨g, o + j * 5 + 4, none⟩) HGL.out).trans d5; clear hb4 ho4)
              | (at_builtin; (refine app_hold rfl (.tmp 43) (.tmp 48) rfl (w.heap.size + 2) _ (stH false (a, b, d) (s, t) D ++ [((a, b, d), (s, t))]) (some ⟨W4.heap.size, 0, none⟩) [((x', y', z1'), (m', v'))] 1 1 hb1 rfl rfl (HO4.out.below (newB _ _)) (hrd_one (by unfold Z5; simp)) hLL2 (by have := HA4.out.lt; simp; omega) ?_); intro V5 W5 ho5 hb5; rw [← HST.out] at ho5; obtain ⟨A5, c5', hv5, -, -, -⟩ := ho5.form; rw [hq5.out] at hv5; subst hv5; have HO5 := Lib.hid ho5; have HB5 : Hid (Below w.heap.size w W5) := Lib.hid ((nxA HB4.out _).trans (hb5.mono (by omega))); have HP5 := Lib.hid ((HP4.out.grow _).up hb5 (by omega)); have HA5 := Lib.hid ((HA4.out.grow _).up hb5 (by omega)); clear hb5 ho5))
            have hq51 : q5 ≤ j + 2 := by have h1 := hq5.out; have h2 := stH_len false (a, b, d) (s, t) (D ++ [((x', y', z1'), (m', v'))]); have h3 := hDl.out; rw [List.length_append] at h2; simp only [List.length_singleton] at h2; omega
            go_roundw
            case rel => exact ⟨j + 1, q5, c5', A5, by omega, by omega, by go_num, rfl, by rw [HSN.out, HAN.out], by rw [HSN.out]; exact hq5, by rw [HSN.out]; exact HO5, HP5, HA5, HB5⟩
            case measure => simp [intOf]; omega
          · have HST : Hid (stH false (a, b, d) (s, t) (D ++ [((x', y', z1'), (m', v'))]) = stH false (a, b, d) (s, t) D ++ [((x', y', z1'), (m', v'))]) := Lib.hid (by
              rw [HS0.out]
              unfold stH
              rw [any_snoc, hy0.out, decide_eq_false (fun h => hq0 (hlt2.out.1 h))]
              rfl)
            have HAN : Hid ((false || anyH (a, b, d) (D ++ [((x', y', z1'), (m', v'))])) = false) := Lib.hid (by
              rw [any_snoc, hy0.out, decide_eq_false (fun h => hq0 (hlt2.out.1 h))]
              rfl)
            go_wp2
            refine wp_region_below mixed (by kernel_rfl) ?_
            repeat (go_big_quiet_step (first
              | (go_at_call 40; exact HC.out _)))
            refine wpQuiet_nil ?_
            intro W3 hw'
            obtain ⟨⟨_, hb3⟩, hw''⟩ := hw'
            subst hw''
            obtain ⟨⟨c1, c2', c3, c4, c5⟩, hp3, ha3, ho3, hbb3⟩ := HC5.out W3 hb3
            have HP3 := Lib.hid hp3
            have HA3 := Lib.hid ha3
            have HO3 := Lib.hid ho3
            have HB3 := Lib.hid hbb3
            clear hp3 ha3 ho3 hbb3 hb3 k1 k2 k3 r1 r2 r3
            go_wp2_with (at_builtin; (refine app_hold rfl (.tmp 43) (.tmp 48) rfl (w.heap.size + 2) _ (stH false (a, b, d) (s, t) D) (some ⟨W3.heap.size, 0, none⟩) [((x', y', z1'), (m', v'))] 1 1 hb1 rfl rfl (HO3.out.below (newB _ _)) (hrd_one (by unfold Z5; simp)) hLL (by have := HA3.out.lt; simp; omega) ?_); intro V5 W5 ho5 hb5; rw [← HST.out] at ho5; obtain ⟨A5, c5', hv5, -, -, -⟩ := ho5.form; rw [hq5.out] at hv5; subst hv5; have HO5 := Lib.hid ho5; have HB5 : Hid (Below w.heap.size w W5) := Lib.hid ((nxA HB3.out _).trans (hb5.mono (by omega))); have HP5 := Lib.hid ((HP3.out.grow _).up hb5 (by omega)); have HA5 := Lib.hid ((HA3.out.grow _).up hb5 (by omega)); clear hb5 ho5)
            have hq51 : q5 = q + 1 := by have h1 := hq5.out; rw [HST.out, List.length_append, hL.out] at h1; exact h1.symm
            go_roundw
            case rel => exact ⟨j + 1, q5, c5', A5, by omega, by omega, by go_num, rfl, by rw [HSN.out, HAN.out], by rw [HSN.out]; exact hq5, by rw [HSN.out]; exact HO5, HP5, HA5, HB5⟩
            case measure => simp [intOf]; omega
    · have hjn : j = n := by omega
      have hDE : Hid (delH l (a, b, d) = D) := Lib.hid (by rw [← hD.out, List.take_of_length_le (by rw [hn.out]; omega)])
      by_cases hdn : (z || y0) = true
      · have HE : Hid (setH l (a, b, d) (s, t) = stH z (a, b, d) (s, t) D) := Lib.hid (by
          unfold setH stH
          rw [hz.out, hDE.out, hy0.out]
          cases z with
          | true => rfl
          | false =>
            obtain rfl : y0 = true := by simpa using hdn
            rfl)
        rw [hdn]
        go_wp2
        go_ret
        exact ⟨⟨_, rfl, by rw [HE.out]; exact hO.out.low (by omega)⟩, hB.out⟩
      · obtain ⟨rfl, rfl⟩ : z = false ∧ y0 = false := by simpa using hdn
        have HS0 : Hid (stH false (a, b, d) (s, t) D = D) := Lib.hid (by unfold stH; rw [hy0.out]; rfl)
        have HE : Hid (setH l (a, b, d) (s, t) = stH false (a, b, d) (s, t) D ++ [((a, b, d), (s, t))]) := Lib.hid (by
          unfold setH
          rw [hz.out, hDE.out, HS0.out, if_neg (by decide), ins_none hy0.out])
        have u0 := hP.out.cell 0 rfl
        have u1 := hP.out.cell 1 rfl
        have u2 := hP.out.cell 2 rfl
        have u3 := hA.out.cell 0 rfl
        have u4 := hA.out.cell 1 rfl
        have hb2' : Hid (([((a, b, d), (s, t))] : List Hd).length = 1) := Lib.hid rfl
        have hLL : Hid ((stH false (a, b, d) (s, t) D).length + 1 ≤ 1000000) := Lib.hid (by have := hL.out; have := hm.out; omega)
        go_wp2_with (at_builtin; (refine app_hold rfl (.tmp 52) (.tmp 56) rfl (w.heap.size + 2) _ (stH false (a, b, d) (s, t) D) (some ⟨WR.heap.size, 0, none⟩) [((a, b, d), (s, t))] 1 1 hb2' rfl rfl (hO.out.below (newB _ _)) (hrd_one (by unfold Z5; simp)) hLL (by have := hA.out.lt; simp; omega) ?_); intro V4 W4 ho4 hb4; have HO4 := Lib.hid ho4; have HB4 : Hid (Below w.heap.size w W4) := Lib.hid ((nxA hB.out _).trans (hb4.mono (by omega))); clear hb4 ho4)
        go_ret
        exact ⟨⟨_, rfl, by rw [HE.out]; exact HO4.out.low (by omega)⟩, HB4.out⟩
end Go.Proofs.YthclgccgkdijbaaDoor
