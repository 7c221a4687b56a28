/- AmountShrinks walked. -/
import Derived.Test.YtbddgdicnonadaaDoorAmountFitsW
import Derived.Test.YtbddgdicnonadaaDoorAopen
import Derived.Test.YtbddgdicnonadaaDoorAmountTurnsW
namespace Go.Proofs.YtbddgdicnonadaaDoor
set_option linter.unusedVariables false
set_option linter.unusedSimpArgs false
open Go.RowKit
theorem compat_yes (s : ByteArray) (k u h : Int) (A : Option Addr) (n c : Nat) (l : List P2) (w : World) (hV : Vars w) (hl : ARd w A l) (hn : Hid (l.length = n)) (hm : Hid (n ≤ 1000)) (hr : Hid (Cmp k u l)) :
    Calls Tryd.prog 23 #[ra s k u h, .slice A n c] w fun e w' => e = .returned (.bool true) ∧ Below w.heap.size w w' := compat_is s k u h A n c l w hV hl hn hm ⟨fun _ => rfl, fun _ => hr.out⟩
theorem compat_not (s : ByteArray) (k u h : Int) (A : Option Addr) (n c : Nat) (l : List P2) (w : World) (hV : Vars w) (hl : ARd w A l) (hn : Hid (l.length = n)) (hm : Hid (n ≤ 1000)) (hr : Hid (¬ Cmp k u l)) :
    Calls Tryd.prog 23 #[ra s k u h, .slice A n c] w fun e w' => e = .returned (.bool false) ∧ Below w.heap.size w w' := compat_is s k u h A n c l w hV hl hn hm ⟨fun h => absurd h hr.out, fun h => by cases h⟩
theorem ard_if {W : World} {g o c k : Nat} {l : List P2} {inst : Decidable (c = k)} (h : ARd W (some ⟨g, o, none⟩) l) (hz : c = k → l.drop k = []) : ARd W (@ite (Option Addr) (c = k) inst (some ⟨g, o, none⟩) (some ⟨g, o + k * 2, none⟩)) (l.drop k) := by
  by_cases e : c = k
  · rw [hz e]; exact ARd.nil _ _
  · rw [if_neg e]
    have h := h.drop k
    simpa [add_at] using h
theorem getD_put {l : List P2} {q : Nat} (h : q < l.length) (p : P2) (i : Nat) : (l.take q ++ p :: l.drop (q + 1)).getD i default = if i = q then p else l.getD i default := by
  have e : l.take q ++ p :: l.drop (q + 1) = l.set q p := by rw [List.set_eq_take_append_cons_drop, if_pos h]
  rw [e, List.getD_eq_getElem?_getD, List.getElem?_set]
  by_cases hq : i = q
  · subst hq; simp [h]
  · rw [if_neg (fun e => hq e.symm), if_neg hq, List.getD_eq_getElem?_getD]
theorem split_at {l : List P2} {q : Nat} (h : q < l.length) : l = l.take q ++ l.getD q default :: l.drop (q + 1) := by
  have e : l.getD q default = l[q] := by rw [List.getD_eq_getElem?_getD, List.getElem?_eq_getElem h]; rfl
  rw [e, ← List.drop_eq_getElem_cons h, List.take_append_drop]
theorem OwnA.rd {w : World} {base g n c : Nat} {l : List P2} (h : OwnA w base (.slice (some ⟨g, 0, none⟩) n c) l) : ARd w (some ⟨g, 0, none⟩) l := by
  obtain ⟨A, c', e, _, hr, _⟩ := h.form
  injection e with e1 _ _
  rw [e1]
  exact hr
theorem OwnA.frz {w : World} {base g n c : Nat} {l : List P2} (h : OwnA w base (.slice (some ⟨g, 0, none⟩) n c) l) (j : Nat) : w.frozen? ⟨g, j, none⟩ = false := by
  obtain ⟨A, c', e, _, _, _⟩ := h.form
  injection e with _ e2 _
  subst e2
  exact h.frozenAt j
theorem ARd.two {w : World} {g : Nat} {l : List P2} (h : ARd w (some ⟨g, 0, none⟩) l) {q : Nat} (hq : q < l.length) {x y : Int} (hxy : l.getD q default = (x, y)) : w.cell? ⟨g, q * 2, none⟩ = some (.int .i64 x) ∧ w.cell? ⟨g, q * 2 + 1, none⟩ = some (.int .i64 y) := by
  obtain ⟨b, o, hA, _, hc⟩ := h (by rintro rfl; simp at hq)
  obtain ⟨rfl, rfl⟩ : g = b ∧ 0 = o := by simpa using hA
  have := hc q hq
  rw [hxy] at this
  simpa using this
theorem app_copy {w : World} {ops : Array Oper} {rest : List Oper} {o : Oper} {a : Act} {Q : Exit → Act → World → Prop} (hgd : Region.wanted o (yielded ops a.tmps) = true) (s y : Operand)
    (ho : o.op = .call { callee := .builtin .append, args := #[s, y], argTypes := #[33, 33] })
    (base : Nat) (V : Value) (A : Option Addr) (ys : List P2) (n c : Nat) (hn : Hid (ys.length = n)) (hp : 0 < n) (hv : a.eval s = V) (hx : a.eval y = .slice A n c)
    (hd : OwnA w base V []) (hs : ARd w A ys) (hm : Hid (n ≤ 1000)) (hbase : base ≤ w.heap.size)
    (h : ∀ g' c' w', Hid (OwnA w' base (.slice (some ⟨g', 0, none⟩) n c') ys) → base ≤ g' → Hid (Below base w w') → wpList Tryd.prog ops Q rest (a.put o.dst (.slice (some ⟨g', 0, none⟩) n c')) w') :
    wpList Tryd.prog ops Q (o :: rest) a w :=
  app_am hgd s y ho base V [] A ys n c hn hv hx hd hs (by have := hm.out; show _ ≤ _; simp; omega) hbase fun V' w' h1 h2 => by
    rw [List.nil_append] at h1
    obtain ⟨A', c', rfl, _, _, hg⟩ := h1.form
    have hn' := hn.out
    obtain ⟨g', rfl, hb, _⟩ := hg (by omega)
    rw [hn'] at h1 ⊢
    exact h g' c' w' h1 hb h2
theorem ard_put {W : World} {g q : Nat} {l : List P2} (h : ARd W (some ⟨g, 0, none⟩) l) (hq : q < l.length) (x y : Int) : ARd ((W.setCell ⟨g, q * 2, none⟩ (.int .i64 x)).setCell ⟨g, q * 2 + 1, none⟩ (.int .i64 y)) (some ⟨g, 0, none⟩) (l.take q ++ (x, y) :: l.drop (q + 1)) := fun _ => by
  obtain ⟨b, o, hA, hb, hc⟩ := h (by rintro rfl; simp at hq)
  obtain ⟨rfl, rfl⟩ : g = b ∧ 0 = o := by simpa using hA
  have hlen : (l.take q ++ (x, y) :: l.drop (q + 1)).length = l.length := by rw [List.length_append, List.length_cons, List.length_take, List.length_drop]; omega
  refine ⟨g, 0, rfl, by simpa using hb, fun i hi => ?_⟩
  rw [hlen] at hi
  rw [getD_put hq]
  obtain ⟨h1, h2⟩ := hc i hi
  have ne : ∀ {a b : Nat}, ¬ a = b → (⟨g, a, none⟩ : Addr) ≠ ⟨g, b, none⟩ := fun h e => h (congrArg Addr.off e)
  by_cases e : i = q
  · subst e
    rw [if_pos rfl]
    simp only [Nat.zero_add] at h1 h2 ⊢
    refine ⟨?_, ?_⟩
    · rw [World.cell?_setCell_other _ _ _ _ (ne (by omega)), World.cell?_setCell_same _ _ _ h1]
    · exact World.cell?_setCell_same _ _ _ (by rw [World.cell?_setCell_other _ _ _ _ (ne (by omega))]; exact h2)
  · rw [if_neg e]
    simp only [Nat.zero_add] at h1 h2 ⊢
    refine ⟨?_, ?_⟩
    · rw [World.cell?_setCell_other _ _ _ _ (ne (by omega)), World.cell?_setCell_other _ _ _ _ (ne (by omega)), h1]
    · rw [World.cell?_setCell_other _ _ _ _ (ne (by omega)), World.cell?_setCell_other _ _ _ _ (ne (by omega)), h2]
set_option maxHeartbeats 4000000 in
theorem AmountShrinks_walk (s0 : ByteArray) (a0 b0 c0 : Int) (A1 : Option Addr) (n1 c1 : Nat) (x1 : List (Int × Int)) (a2 : Int) (a3 b3 : Int) (w : World) (hV : Vars w) (wa0 : (Lit.int .i64 a0).wf = true) (wb0 : (Lit.int .i64 b0).wf = true) (wc0 : (Lit.int .i64 c0).wf = true) (w1 : InA w A1 n1 c1 x1) (w2 : (Lit.int .i64 a2).wf = true) (wa3 : (Lit.int .i64 a3).wf = true) (wb3 : (Lit.int .i64 b3).wf = true) :
    Calls Tryd.prog 7 #[.agg #[.string s0, .int .i64 a0, .int .i64 b0, .int .i64 c0], .slice A1 n1 c1, .int .i64 a2, .agg #[.int .i64 a3, .int .i64 b3]] w fun e w' => e = .returned (.bool true) ∧ Below w.heap.size w w' := by
  have HV : Hid (∀ W, Below (T2 w s0 a0 b0 c0 a3 b3).heap.size (T2 w s0 a0 b0 c0 a3 b3) W → Vars W) := fun W hW => hV.below (nx (new2 w _ _) hW)
  have hn : Hid (x1.length = n1) := w1.len
  by_cases h60 : 60 < (n1 : Int)
  · clear hn hV w1 wa0 wb0 wc0 w2 wa3 wb3
    go_enter Tryd.func7, Tryd.ntmps7
    go_wp2_with (first
      | (go_at_call 12; refine (awake_K (Below.refl _ _) HV).mono ?_; rintro e W1 ⟨rfl, hb1⟩))
    go_ret
    exact ⟨rfl, dn2 hb1⟩
  · by_cases hlo : a2 < 0
    · clear hn hV w1 wa0 wb0 wc0 w2 wa3 wb3
      go_enter Tryd.func7, Tryd.ntmps7
      go_wp2_with (first
        | (go_at_call 12; refine (awake_K (Below.refl _ _) HV).mono ?_; rintro e W1 ⟨rfl, hb1⟩))
      go_ret
      exact ⟨rfl, dn2 hb1⟩
    · by_cases hhi : (n1 : Int) ≤ a2
      · clear hn hV w1 wa0 wb0 wc0 w2 wa3 wb3
        go_enter Tryd.func7, Tryd.ntmps7
        go_wp2_with (first
          | (go_at_call 12; refine (awake_K (Below.refl _ _) HV).mono ?_; rintro e W1 ⟨rfl, hb1⟩))
        go_ret
        exact ⟨rfl, dn2 hb1⟩
      · have hm : Hid (n1 ≤ 1000) := by show _ ≤ _; omega
        obtain ⟨q, rfl⟩ := Int.eq_ofNat_of_zero_le (a := a2) (by omega)
        have hqn : q < n1 := by omega
        obtain ⟨g, o, x, y, rfl, hg, hxy, _, _⟩ := w1.rd.at_ (i := q) (by have := hn.out; omega)
        have HL : Hid (∀ W, Below (T2 w s0 a0 b0 c0 a3 b3).heap.size (T2 w s0 a0 b0 c0 a3 b3) W → ARd W (some ⟨g, o, none⟩) x1) := fun W hW => w1.rd.below (nx (new2 w _ _) hW)
        have hfit : (n1 : Int) ≤ (c1 : Int) := by have := w1.fit; omega
        have h60' : (n1 : Int) ≤ 60 := by omega
        have hlo' : (0 : Int) ≤ (q : Int) := by omega
        have hhi' : (q : Int) < (n1 : Int) := by omega
        by_cases hC : Cmp a0 b0 x1
        · have H1 := Lib.hid hC
          have e5 : IntKind.i64.wrap ((q : Int) + 1) = (q : Int) + 1 := by rw [IntKind.wrap_i64]; omega
          have g1 : (q : Int) + 1 ≤ (n1 : Int) := by omega
          have g2 : (q : Int) + 1 ≤ (c1 : Int) := by omega
          have g3 : (q : Int) ≤ (c1 : Int) := by omega
          have g4 : (0 : Int) ≤ (q : Int) + 1 := by omega
          have g5 : (q : Int) ≤ (n1 : Int) := by omega
          have htl : Hid ((x1.take q).length = q) := by have := hn.out; show _ = _; rw [List.length_take]; omega
          have hdl : Hid ((x1.drop (q + 1)).length = n1 - (q + 1)) := by have := hn.out; show _ = _; rw [List.length_drop]; omega
          have hn2 : Hid ((x1.take q ++ x1.drop (q + 1)).length = n1 - 1) := by have := htl.out; have := hdl.out; show _ = _; rw [List.length_append]; omega
          have hm2 : Hid (n1 - 1 ≤ 1000) := by show _ ≤ _; omega
          have HL0 : Hid (([] : List P2).length + q ≤ 1000000) := by show _ ≤ _; simp; omega
          have HL2 : Hid (([] ++ x1.take q).length + (n1 - (q + 1)) ≤ 1000000) := by have := htl.out; show _ ≤ _; rw [List.nil_append]; omega
          have HN0 : Hid (0 < n1) := by show _ < _; omega
          have HIF : Hid (c1 = q + 1 → x1.drop (q + 1) = []) := fun e => List.drop_eq_nil_of_le (by have := hn.out; have := w1.fit; omega)
          have hsp : x1 = x1.take q ++ (x, y) :: x1.drop (q + 1) := by have h := split_at (l := x1) (q := q) (by have := hn.out; omega); rw [hxy.out] at h; exact h
          have HLess : Hid (Cmp a0 b0 (x1.take q ++ x1.drop (q + 1))) := by
            have h := hC
            rw [hsp, show x1.take q ++ (x, y) :: x1.drop (q + 1) = x1.take q ++ [(x, y)] ++ x1.drop (q + 1) by simp] at h
            exact h.less
          cases hcv : cvr a0 b0 x y a3 b3 with
          | true =>
            have HPut : Hid (Cmp a0 b0 (x1.take q ++ (a3, b3) :: x1.drop (q + 1))) := by
              have h := hC
              rw [hsp] at h
              exact h.lower hcv
            have hcv := Lib.hid hcv
            clear hV w1 wa0 wb0 wc0 w2 wa3 wb3 h60 hlo hhi hC hsp
            go_enter Tryd.func7, Tryd.ntmps7
            go_wp2_with (first
              | (go_at_call 23; refine (compat_yes s0 a0 b0 c0 (some ⟨g, o, none⟩) n1 c1 x1 _ (HV.out _ (Below.refl _ _)) (HL.out _ (Below.refl _ _)) hn hm H1).mono ?_; rintro e W0 ⟨rfl, hb0⟩; have HB00 := Lib.hid hb0; obtain ⟨hc0, hf0⟩ := bcell hb0))
            have HO0 := Lib.hid (ownA_a W0 _ rfl)
            have HB0 := Lib.hid (bdD (newB W0 oE))
            have HL9 := Lib.hid (HL.out _ HB00.out)
            have KP : Hid (∀ W, Below W0.heap.size W0 W → Below W0.heap.size W0 W) := fun W hW => hW
            go_region_held3 (fun W => Below W0.heap.size W0 W)
              (first
                | exact Below.refl _ _
                | exact bdD (Below.refl _ _)
                | exact HB1.out
                | exact HB2.out
                | exact nxA (by assumption) _)
              (first
                | (have _t := HB1; clear _t; refine step_app_form rfl (.tmp 35) (.tmp 39) rfl W0.heap.size _ ([] ++ x1.take q) _ (x1.drop (q + 1)) (n1 - (q + 1)) (c1 - (q + 1)) hdl rfl rfl HO1.out (ard_if (HL9.out.below HB1.out) HIF.out) HL2 HB1.out.size (x1.take q ++ x1.drop (q + 1)) rfl (n1 - 1) hn2 ?_; intro A2 c2 W2 HR2 hb2; have HB2 := Lib.hid (HB1.out.trans hb2.out); clear hb2)
                | (refine step_app_am rfl (.tmp 31) (.tmp 34) rfl W0.heap.size _ [] (some ⟨g, o, none⟩) (x1.take q) q c1 htl rfl rfl HO0.out ((HL9.out.below HB0.out).take q) HL0 HB0.out.size ?_; intro V1 W1 ho1 hb1 _; have HO1 := Lib.hid ho1; have HB1 := Lib.hid (HB0.out.trans hb1); clear ho1 hb1))
            clear hc0 hf0
            generalize hAD : (if c1 = q + 1 then some (⟨g, o, none⟩ : Addr) else some ⟨g, o + (q + 1) * 2, none⟩) = AD
            clear hAD
            have HBT := Lib.hid (nx HB00.out HB2.out)
            have HV2 := Lib.hid (HV.out _ HBT.out)
            have HL3 := Lib.hid (HL.out _ HBT.out)
            have KR : Hid (∀ W, Below W2.heap.size W2 W → S4 W w.heap.size s0 a0 b0 c0 ∧ E2 W (w.heap.size + 1) a3 b3) := fun W hW => (keep2 (nx HBT.out hW)).2
            have hd3 : Hid (OwnA (W2.alloc oE) W2.heap.size (.slice (some ⟨W2.heap.size, 0, none⟩) 0 0) []) := OwnA.empty W2 W2.heap.size (Nat.le_refl _)
            have HBE := Lib.hid (newB W2 oE)
            go_wp2_with (at_builtin; (refine app_copy rfl (.tmp 41) (.tmp 42) rfl W2.heap.size _ (some ⟨g, o, none⟩) x1 n1 c1 hn HN0.out rfl rfl hd3.out (HL3.out.below HBE.out) hm HBE.out.size ?_); intro g3 c3 W3 HO3 hg3 hb3; have HB3 := Lib.hid (HBE.out.trans hb3.out); clear hb3)
            obtain ⟨g9, o9, x9, y9, hA9, hg9, hxy9, d1, d2⟩ := HL3.out.at_ (i := q) (by have := hn.out; omega)
            obtain ⟨rfl, rfl⟩ : g = g9 ∧ o = o9 := by simpa using hA9
            obtain ⟨rfl, rfl⟩ : x = x9 ∧ y = y9 := by have h := hxy.out.symm.trans hxy9.out; simpa using h
            have hE := Lib.hid (show S2 W2 g (o + q * 2) x y from ⟨d1, d2⟩)
            have KE : Hid (∀ W, Below W3.heap.size W3 W → Below W3.heap.size W3 W ∧ S4 W w.heap.size s0 a0 b0 c0 ∧ E2 W (w.heap.size + 1) a3 b3 ∧ S2 W g (o + q * 2) x y) := fun W hW => ⟨hW, (KR.out _ (nx HB3.out hW)).1, (KR.out _ (nx HB3.out hW)).2, S2.of (nx HB3.out hW) hg9 hE.out⟩
            clear hA9 d1 d2
            go_region_held3 (fun W => Below W3.heap.size W3 W ∧ S4 W w.heap.size s0 a0 b0 c0 ∧ E2 W (w.heap.size + 1) a3 b3 ∧ S2 W g (o + q * 2) x y)
              (first
                | exact KE.out _ (Below.refl _ _)
                | exact KE.out _ (bdD (Below.refl _ _))
                | (go_split_ands; exact KE.out _ (nx (by assumption) hb4)))
              (first
                | (go_at_call 18; (with_reducible refine (amCovers_is s0 a0 b0 c0 x y a3 b3 _ hcv).mono ?_); rintro e W4 ⟨rfl, hb4⟩))
            all_goals (
              go_split_ands
              have HB4 := Lib.hid (show Below W3.heap.size W3 W4 by assumption)
              have HO4 := Lib.hid (HO3.out.below HB4.out)
              have HR4 := Lib.hid HO4.out.rd
              obtain ⟨f0, f1⟩ : W4.frozen? ⟨g3, q * 2, none⟩ = false ∧ W4.frozen? ⟨g3, q * 2 + 1, none⟩ = false := ⟨HO4.out.frz _, HO4.out.frz _⟩
              obtain ⟨k0, k1⟩ : W4.cell? ⟨g3, q * 2, none⟩ = some (.int .i64 x) ∧ W4.cell? ⟨g3, q * 2 + 1, none⟩ = some (.int .i64 y) := HR4.out.two (by have := hn.out; omega) hxy.out
              have HR5 := Lib.hid (ard_put HR4.out (q := q) (by have := hn.out; omega) a3 b3)
              have HB5 := Lib.hid (((nx HB3.out HB4.out).setCell (p := ⟨g3, q * 2, none⟩) hg3 (.int .i64 a3)).setCell (p := ⟨g3, q * 2 + 1, none⟩) hg3 (.int .i64 b3))
              have HN5 : Hid ((x1.take q ++ (a3, b3) :: x1.drop (q + 1)).length = n1) := by have := htl.out; have := hdl.out; show _ = _; rw [List.length_append, List.length_cons]; omega
              clear HR4
              go_wp2_with (first
                | (have _t := HB7; clear _t; go_at_call 23; (with_reducible refine (compat_yes s0 a0 b0 c0 (some ⟨g3, 0, none⟩) n1 c3 (x1.take q ++ (a3, b3) :: x1.drop (q + 1)) _ (HV2.out.below HB7.out) (HR5.out.below (nx hb6 hb7)) HN5 hm HPut).mono ?_); rintro e W8 ⟨rfl, hb8⟩; have HB8 := Lib.hid (nx HB7.out hb8))
                | (have _t := HB6; clear _t; go_at_call 23; (with_reducible refine (compat_yes s0 a0 b0 c0 A2 (n1 - 1) c2 (x1.take q ++ x1.drop (q + 1)) _ (HV2.out.below HB6.out) (HR2.out.below HB6.out) hn2 hm2 HLess).mono ?_); rintro e W7 ⟨rfl, hb7⟩; have HB7 := Lib.hid (nx HB6.out hb7); clear i0 i1 i2 i3; obtain ⟨i0, i1, i2, i3⟩ := (KR.out _ HB7.out).1)
                | (go_at_call 12; (with_reducible refine (awake_any _ (HV2.out.below HB5.out)).mono ?_); rintro e W6 ⟨rfl, hb6⟩; have HB6 := Lib.hid (nx HB5.out hb6); obtain ⟨i0, i1, i2, i3⟩ := (KR.out _ HB6.out).1))
              go_ret
              exact ⟨rfl, dn2 (nx HBT.out HB8.out)⟩)
          | false =>
            have hcv := Lib.hid hcv
            clear hV w1 wa0 wb0 wc0 w2 wa3 wb3 h60 hlo hhi hC hsp
            go_enter Tryd.func7, Tryd.ntmps7
            go_wp2_with (first
              | (go_at_call 23; refine (compat_yes s0 a0 b0 c0 (some ⟨g, o, none⟩) n1 c1 x1 _ (HV.out _ (Below.refl _ _)) (HL.out _ (Below.refl _ _)) hn hm H1).mono ?_; rintro e W0 ⟨rfl, hb0⟩; have HB00 := Lib.hid hb0; obtain ⟨hc0, hf0⟩ := bcell hb0))
            have HO0 := Lib.hid (ownA_a W0 _ rfl)
            have HB0 := Lib.hid (bdD (newB W0 oE))
            have HL9 := Lib.hid (HL.out _ HB00.out)
            have KP : Hid (∀ W, Below W0.heap.size W0 W → Below W0.heap.size W0 W) := fun W hW => hW
            go_region_held3 (fun W => Below W0.heap.size W0 W)
              (first
                | exact Below.refl _ _
                | exact bdD (Below.refl _ _)
                | exact HB1.out
                | exact HB2.out
                | exact nxA (by assumption) _)
              (first
                | (have _t := HB1; clear _t; refine step_app_form rfl (.tmp 35) (.tmp 39) rfl W0.heap.size _ ([] ++ x1.take q) _ (x1.drop (q + 1)) (n1 - (q + 1)) (c1 - (q + 1)) hdl rfl rfl HO1.out (ard_if (HL9.out.below HB1.out) HIF.out) HL2 HB1.out.size (x1.take q ++ x1.drop (q + 1)) rfl (n1 - 1) hn2 ?_; intro A2 c2 W2 HR2 hb2; have HB2 := Lib.hid (HB1.out.trans hb2.out); clear hb2)
                | (refine step_app_am rfl (.tmp 31) (.tmp 34) rfl W0.heap.size _ [] (some ⟨g, o, none⟩) (x1.take q) q c1 htl rfl rfl HO0.out ((HL9.out.below HB0.out).take q) HL0 HB0.out.size ?_; intro V1 W1 ho1 hb1 _; have HO1 := Lib.hid ho1; have HB1 := Lib.hid (HB0.out.trans hb1); clear ho1 hb1))
            clear hc0 hf0
            generalize hAD : (if c1 = q + 1 then some (⟨g, o, none⟩ : Addr) else some ⟨g, o + (q + 1) * 2, none⟩) = AD
            clear hAD
            have HBT := Lib.hid (nx HB00.out HB2.out)
            have HV2 := Lib.hid (HV.out _ HBT.out)
            have HL3 := Lib.hid (HL.out _ HBT.out)
            have KR : Hid (∀ W, Below W2.heap.size W2 W → S4 W w.heap.size s0 a0 b0 c0 ∧ E2 W (w.heap.size + 1) a3 b3) := fun W hW => (keep2 (nx HBT.out hW)).2
            have hd3 : Hid (OwnA (W2.alloc oE) W2.heap.size (.slice (some ⟨W2.heap.size, 0, none⟩) 0 0) []) := OwnA.empty W2 W2.heap.size (Nat.le_refl _)
            have HBE := Lib.hid (newB W2 oE)
            go_wp2_with (at_builtin; (refine app_copy rfl (.tmp 41) (.tmp 42) rfl W2.heap.size _ (some ⟨g, o, none⟩) x1 n1 c1 hn HN0.out rfl rfl hd3.out (HL3.out.below HBE.out) hm HBE.out.size ?_); intro g3 c3 W3 HO3 hg3 hb3; have HB3 := Lib.hid (HBE.out.trans hb3.out); clear hb3)
            obtain ⟨g9, o9, x9, y9, hA9, hg9, hxy9, d1, d2⟩ := HL3.out.at_ (i := q) (by have := hn.out; omega)
            obtain ⟨rfl, rfl⟩ : g = g9 ∧ o = o9 := by simpa using hA9
            obtain ⟨rfl, rfl⟩ : x = x9 ∧ y = y9 := by have h := hxy.out.symm.trans hxy9.out; simpa using h
            have hE := Lib.hid (show S2 W2 g (o + q * 2) x y from ⟨d1, d2⟩)
            have KE : Hid (∀ W, Below W3.heap.size W3 W → Below W3.heap.size W3 W ∧ S4 W w.heap.size s0 a0 b0 c0 ∧ E2 W (w.heap.size + 1) a3 b3 ∧ S2 W g (o + q * 2) x y) := fun W hW => ⟨hW, (KR.out _ (nx HB3.out hW)).1, (KR.out _ (nx HB3.out hW)).2, S2.of (nx HB3.out hW) hg9 hE.out⟩
            clear hA9 d1 d2
            go_region_held3 (fun W => Below W3.heap.size W3 W ∧ S4 W w.heap.size s0 a0 b0 c0 ∧ E2 W (w.heap.size + 1) a3 b3 ∧ S2 W g (o + q * 2) x y)
              (first
                | exact KE.out _ (Below.refl _ _)
                | exact KE.out _ (bdD (Below.refl _ _))
                | (go_split_ands; exact KE.out _ (nx (by assumption) hb4)))
              (first
                | (go_at_call 18; (with_reducible refine (amCovers_is s0 a0 b0 c0 x y a3 b3 _ hcv).mono ?_); rintro e W4 ⟨rfl, hb4⟩))
            all_goals (
              go_split_ands
              have HB4 := Lib.hid (show Below W3.heap.size W3 W4 by assumption)
              have HO4 := Lib.hid (HO3.out.below HB4.out)
              have HR4 := Lib.hid HO4.out.rd
              have HR5 := HR4
              have HB5 := Lib.hid (nx HB3.out HB4.out)
              have HN5 := hn
              go_wp2_with (first
                | (have _t := HB7; clear _t; go_at_call 23; (with_reducible refine (compat_yes s0 a0 b0 c0 (some ⟨g3, 0, none⟩) n1 c3 x1 _ (HV2.out.below HB7.out) (HR5.out.below (nx hb6 hb7)) HN5 hm H1).mono ?_); rintro e W8 ⟨rfl, hb8⟩; have HB8 := Lib.hid (nx HB7.out hb8))
                | (have _t := HB6; clear _t; go_at_call 23; (with_reducible refine (compat_yes s0 a0 b0 c0 A2 (n1 - 1) c2 (x1.take q ++ x1.drop (q + 1)) _ (HV2.out.below HB6.out) (HR2.out.below HB6.out) hn2 hm2 HLess).mono ?_); rintro e W7 ⟨rfl, hb7⟩; have HB7 := Lib.hid (nx HB6.out hb7); clear i0 i1 i2 i3; obtain ⟨i0, i1, i2, i3⟩ := (KR.out _ HB7.out).1)
                | (go_at_call 12; (with_reducible refine (awake_any _ (HV2.out.below HB5.out)).mono ?_); rintro e W6 ⟨rfl, hb6⟩; have HB6 := Lib.hid (nx HB5.out hb6); obtain ⟨i0, i1, i2, i3⟩ := (KR.out _ HB6.out).1))
              go_ret
              exact ⟨rfl, dn2 (nx HBT.out HB8.out)⟩)
        · have H1 := Lib.hid hC
          clear hV w1 wa0 wb0 wc0 w2 wa3 wb3 h60 hlo hhi hC
          go_enter Tryd.func7, Tryd.ntmps7
          go_wp2_with (first
            | (go_at_call 23; refine (compat_not s0 a0 b0 c0 (some ⟨g, o, none⟩) n1 c1 x1 _ (HV.out _ (Below.refl _ _)) (HL.out _ (Below.refl _ _)) hn hm H1).mono ?_; rintro e W0 ⟨rfl, hb0⟩)
            | (go_at_call 12; refine (awake_K hb0 HV).mono ?_; rintro e W1 ⟨rfl, hb1⟩))
          go_ret
          exact ⟨rfl, dn2 (nx hb0 hb1)⟩
end Go.Proofs.YtbddgdicnonadaaDoor
