/- AmountTurns walked. -/
import Derived.Test.YtbddgdicnonadaaDoorAmountFitsW
import Derived.Test.YtbddgdicnonadaaDoorAopen
import Derived.Test.YtbddgdicnonadaaDoorAmountCompatibleW
namespace Go.Proofs.YtbddgdicnonadaaDoor
set_option linter.unusedVariables false
set_option linter.unusedSimpArgs false
open Go.RowKit
abbrev TR (w : World) (s : ByteArray) (k u h : Int) : World := w.alloc (.cells #[.string s, .int .i64 k, .int .i64 u, .int .i64 h] 23)
theorem size_TR (w : World) (s : ByteArray) (k u h : Int) : (TR w s k u h).heap.size = w.heap.size + 1 := by simp [TR]
theorem keepR {w W : World} {s : ByteArray} {k u h : Int} (hW : Below (TR w s k u h).heap.size (TR w s k u h) W) : Below (TR w s k u h).heap.size (TR w s k u h) W ∧ S4 W w.heap.size s k u h :=
  ⟨hW, S4.of hW (by simp [TR]) ⟨by simp [TR], by simp [TR], by simp [TR], by simp [TR]⟩⟩
set_option maxHeartbeats 2000000 in
theorem AmountTurns_walk (s0 : ByteArray) (a0 b0 c0 : Int) (A1 : Option Addr) (n1 c1 : Nat) (x1 : List (Int × Int)) (a2 : Int) (w : World) (hV : Vars w) (wa0 : (Lit.int .i64 a0).wf = true) (wb0 : (Lit.int .i64 b0).wf = true) (wc0 : (Lit.int .i64 c0).wf = true) (w1 : InA w A1 n1 c1 x1) (w2 : (Lit.int .i64 a2).wf = true) :
    Calls Tryd.prog 8 #[.agg #[.string s0, .int .i64 a0, .int .i64 b0, .int .i64 c0], .slice A1 n1 c1, .int .i64 a2] w fun e w' => e = .returned (.bool true) ∧ Below w.heap.size w w' := by
  have HV : Hid (∀ W, Below (TR w s0 a0 b0 c0).heap.size (TR w s0 a0 b0 c0) W → Vars W) := fun W hW => hV.below (nx (newB w _) hW)
  have hn : Hid (x1.length = n1) := w1.len
  by_cases h60 : 60 < (n1 : Int)
  · clear hn hV w1 wa0 wb0 wc0 w2
    go_enter Tryd.func8, Tryd.ntmps8
    go_wp2_with (first
      | (go_at_call 12; refine (awake_K (Below.refl _ _) HV).mono ?_; rintro e W1 ⟨rfl, hb1⟩))
    go_ret
    exact ⟨rfl, dn1 hb1⟩
  · have h60' : (n1 : Int) ≤ 60 := by omega
    by_cases h0 : n1 = 0
    · subst h0
      clear hn hV w1 wa0 wb0 wc0 w2 h60 h60'
      go_enter Tryd.func8, Tryd.ntmps8
      go_wp2_with (first
        | (go_at_call 12; refine (awake_K (Below.refl _ _) HV).mono ?_; rintro e W1 ⟨rfl, hb1⟩))
      go_ret
      exact ⟨rfl, dn1 hb1⟩
    · obtain ⟨g, o, _, _, rfl, _, _, _, _⟩ := w1.rd.at_ (i := 0) (by have := hn.out; omega)
      have HL : Hid (∀ W, Below (TR w s0 a0 b0 c0).heap.size (TR w s0 a0 b0 c0) W → ARd W (some ⟨g, o, none⟩) x1) := fun W hW => w1.rd.below (nx (newB w _) hW)
      have hfit : (n1 : Int) ≤ (c1 : Int) := by have := w1.fit; omega
      obtain ⟨v, hv⟩ : ∃ v, a2.tmod (n1 : Int) = v := ⟨_, rfl⟩
      have hv1 : -(n1 : Int) < v ∧ v < (n1 : Int) := by
        have hp : (0 : Int) < (n1 : Int) := by omega
        rcases Int.le_total 0 a2 with h | h
        · have h1 := Int.emod_nonneg a2 (b := (n1 : Int)) (by omega)
          have h2 := Int.emod_lt_of_pos a2 hp
          rw [← Int.tmod_eq_emod_of_nonneg h, hv] at h1 h2
          omega
        · have e : (-a2).tmod (n1 : Int) = -v := by rw [Int.neg_tmod, hv]
          have h1 := Int.emod_nonneg (-a2) (b := (n1 : Int)) (by omega)
          have h2 := Int.emod_lt_of_pos (-a2) hp
          rw [← Int.tmod_eq_emod_of_nonneg (by omega), e] at h1 h2
          omega
      have hv2 : IntKind.i64.wrap v = v := by rw [IntKind.wrap_i64]; omega
      have hz : ¬ ((n1 : Int) = 0) := by omega
      have hz' : ((n1 : Int) == 0) = false := by simp; omega
      have key : ∀ q : Nat, q < n1 → True := fun _ _ => trivial
      obtain ⟨r1, h1⟩ := bool_of (Cmp a0 b0 x1)
      have HO0 := Lib.hid (ownA_a (TR w s0 a0 b0 c0) _ (size_TR w s0 a0 b0 c0))
      have HB0 := Lib.hid (bdD (newB (TR w s0 a0 b0 c0) oE))
      have hm : Hid (n1 ≤ 1000) := by show _ ≤ _; omega
      by_cases hneg : v < 0
      · obtain ⟨q, hq⟩ := Int.eq_ofNat_of_zero_le (a := v + (n1 : Int)) (by omega)
        have hq1 : IntKind.i64.wrap (v + (n1 : Int)) = (q : Int) := by rw [hq, IntKind.wrap_i64]; omega
        have hqn : q < n1 := by omega
        have g1 : (q : Int) ≤ (n1 : Int) := by omega
        have g2 : (q : Int) ≤ (c1 : Int) := by omega
        have g3 : (0 : Int) ≤ (q : Int) := by omega
        have g4 : ¬ (c1 = q) := by omega
        have HD : Hid (∀ W, Below (TR w s0 a0 b0 c0).heap.size (TR w s0 a0 b0 c0) W → ARd W (some ⟨g, o + q * 2, none⟩) (x1.drop q)) := fun W hW => by
          have h := (HL.out W hW).drop q
          simpa [add_at] using h
        have htl : Hid ((x1.take q).length = q) := by have := hn.out; show _ = _; rw [List.length_take]; omega
        have hdl : Hid ((x1.drop q).length = n1 - q) := by have := hn.out; show _ = _; rw [List.length_drop]; omega
        have hn2 : Hid ((x1.drop q ++ x1.take q).length = n1) := by have := htl.out; have := hdl.out; show _ = _; rw [List.length_append]; omega
        have HL0 : Hid (([] : List P2).length + (n1 - q) ≤ 1000000) := by show _ ≤ _; simp; omega
        have HL2 : Hid (([] ++ x1.drop q).length + q ≤ 1000000) := by have := hdl.out; show _ ≤ _; rw [List.nil_append]; omega
        have h2 : Hid (Cmp a0 b0 (x1.drop q ++ x1.take q) ↔ r1 = true) := by show _ ↔ _; rw [Cmp.turns]; exact h1.out
        clear hV w1 wa0 wb0 wc0 w2 h60 hv1 h0 key
        go_enter Tryd.func8, Tryd.ntmps8
        go_wp2
        go_region_held3 (fun W => Below (TR w s0 a0 b0 c0).heap.size (TR w s0 a0 b0 c0) W ∧ S4 W w.heap.size s0 a0 b0 c0)
          (first
            | exact keepR (Below.refl _ _)
            | exact keepR (bdD (Below.refl _ _))
            | exact keepR HB1.out
            | exact keepR HB2.out
            | (go_split_ands; exact keepR (nxA (by assumption) _)))
          (first
            | (have _t := HB1; clear _t; refine step_app_form rfl (.tmp 32) (.tmp 35) rfl (TR w s0 a0 b0 c0).heap.size _ ([] ++ x1.drop q) (some ⟨g, o, none⟩) (x1.take q) q c1 htl rfl rfl HO1.out ((HL.out _ HB1.out).take q) HL2 HB1.out.size (x1.drop q ++ x1.take q) rfl n1 hn2 ?_; intro A2 c2 W2 HR2 hb2; have HB2 := Lib.hid (HB1.out.trans hb2.out); clear hb2)
            | (refine step_app_am rfl (.tmp 28) (.tmp 31) rfl (TR w s0 a0 b0 c0).heap.size _ [] (some ⟨g, o + q * 2, none⟩) (x1.drop q) (n1 - q) (c1 - q) hdl rfl rfl HO0.out (HD.out _ HB0.out) HL0 HB0.out.size ?_; intro V1 W1 ho1 hb1 _; have HO1 := Lib.hid ho1; have HB1 := Lib.hid (HB0.out.trans hb1); clear ho1 hb1))
        go_split_ands
        have HV2 := Lib.hid (HV.out _ HB2.out)
        have HL3 := Lib.hid (HL.out _ HB2.out)
        have KR : Hid (∀ W, Below W2.heap.size W2 W → Below W2.heap.size W2 W ∧ S4 W w.heap.size s0 a0 b0 c0) := fun W hW => ⟨hW, S4.of hW (by have h := HB2.out.size; rw [size_TR] at h; omega) (keepR HB2.out).2⟩
        go_wp2
        go_region_held3 (fun W => Below W2.heap.size W2 W ∧ S4 W w.heap.size s0 a0 b0 c0)
          (first
            | exact KR.out _ (Below.refl _ _)
            | exact KR.out _ (bdD (Below.refl _ _))
            | (go_split_ands; exact KR.out _ (nx (by assumption) hb5)))
          (first
            | (go_at_call 12; go_split_ands; (with_reducible refine (awake_any _ (HV2.out.below ?_)).mono ?_); (· assumption); rintro e W5 ⟨rfl, hb5⟩)
            | (go_at_call 23; go_split_ands; (with_reducible refine (compat_is s0 a0 b0 c0 A2 n1 c2 (x1.drop q ++ x1.take q) _ (HV2.out.below ?_) (HR2.out.below ?_) hn2 hm h2).mono ?_); (· assumption); (· assumption); rintro e W5 ⟨rfl, hb5⟩)
            | (go_at_call 23; go_split_ands; (with_reducible refine (compat_is s0 a0 b0 c0 (some ⟨g, o, none⟩) n1 c1 x1 _ (HV2.out.below ?_) (HL3.out.below ?_) hn hm h1).mono ?_); (· assumption); (· assumption); rintro e W5 ⟨rfl, hb5⟩))
        all_goals (go_wp2; go_ret; go_split_ands; exact ⟨by simp, nx (dn1 HB2.out) (by assumption)⟩)
      · obtain ⟨q, rfl⟩ := Int.eq_ofNat_of_zero_le (a := v) (by omega)
        have hqn : q < n1 := by omega
        have g1 : (q : Int) ≤ (n1 : Int) := by omega
        have g2 : (q : Int) ≤ (c1 : Int) := by omega
        have g3 : (0 : Int) ≤ (q : Int) := by omega
        have g4 : ¬ (c1 = q) := by omega
        have HD : Hid (∀ W, Below (TR w s0 a0 b0 c0).heap.size (TR w s0 a0 b0 c0) W → ARd W (some ⟨g, o + q * 2, none⟩) (x1.drop q)) := fun W hW => by
          have h := (HL.out W hW).drop q
          simpa [add_at] using h
        have htl : Hid ((x1.take q).length = q) := by have := hn.out; show _ = _; rw [List.length_take]; omega
        have hdl : Hid ((x1.drop q).length = n1 - q) := by have := hn.out; show _ = _; rw [List.length_drop]; omega
        have hn2 : Hid ((x1.drop q ++ x1.take q).length = n1) := by have := htl.out; have := hdl.out; show _ = _; rw [List.length_append]; omega
        have HL0 : Hid (([] : List P2).length + (n1 - q) ≤ 1000000) := by show _ ≤ _; simp; omega
        have HL2 : Hid (([] ++ x1.drop q).length + q ≤ 1000000) := by have := hdl.out; show _ ≤ _; rw [List.nil_append]; omega
        have h2 : Hid (Cmp a0 b0 (x1.drop q ++ x1.take q) ↔ r1 = true) := by show _ ↔ _; rw [Cmp.turns]; exact h1.out
        clear hV w1 wa0 wb0 wc0 w2 h60 hv1 h0 key
        go_enter Tryd.func8, Tryd.ntmps8
        go_wp2
        go_region_held3 (fun W => Below (TR w s0 a0 b0 c0).heap.size (TR w s0 a0 b0 c0) W ∧ S4 W w.heap.size s0 a0 b0 c0)
          (first
            | exact keepR (Below.refl _ _)
            | exact keepR (bdD (Below.refl _ _))
            | exact keepR HB1.out
            | exact keepR HB2.out
            | (go_split_ands; exact keepR (nxA (by assumption) _)))
          (first
            | (have _t := HB1; clear _t; refine step_app_form rfl (.tmp 32) (.tmp 35) rfl (TR w s0 a0 b0 c0).heap.size _ ([] ++ x1.drop q) (some ⟨g, o, none⟩) (x1.take q) q c1 htl rfl rfl HO1.out ((HL.out _ HB1.out).take q) HL2 HB1.out.size (x1.drop q ++ x1.take q) rfl n1 hn2 ?_; intro A2 c2 W2 HR2 hb2; have HB2 := Lib.hid (HB1.out.trans hb2.out); clear hb2)
            | (refine step_app_am rfl (.tmp 28) (.tmp 31) rfl (TR w s0 a0 b0 c0).heap.size _ [] (some ⟨g, o + q * 2, none⟩) (x1.drop q) (n1 - q) (c1 - q) hdl rfl rfl HO0.out (HD.out _ HB0.out) HL0 HB0.out.size ?_; intro V1 W1 ho1 hb1 _; have HO1 := Lib.hid ho1; have HB1 := Lib.hid (HB0.out.trans hb1); clear ho1 hb1))
        go_split_ands
        have HV2 := Lib.hid (HV.out _ HB2.out)
        have HL3 := Lib.hid (HL.out _ HB2.out)
        have KR : Hid (∀ W, Below W2.heap.size W2 W → Below W2.heap.size W2 W ∧ S4 W w.heap.size s0 a0 b0 c0) := fun W hW => ⟨hW, S4.of hW (by have h := HB2.out.size; rw [size_TR] at h; omega) (keepR HB2.out).2⟩
        go_wp2
        go_region_held3 (fun W => Below W2.heap.size W2 W ∧ S4 W w.heap.size s0 a0 b0 c0)
          (first
            | exact KR.out _ (Below.refl _ _)
            | exact KR.out _ (bdD (Below.refl _ _))
            | (go_split_ands; exact KR.out _ (nx (by assumption) hb5)))
          (first
            | (go_at_call 12; go_split_ands; (with_reducible refine (awake_any _ (HV2.out.below ?_)).mono ?_); (· assumption); rintro e W5 ⟨rfl, hb5⟩)
            | (go_at_call 23; go_split_ands; (with_reducible refine (compat_is s0 a0 b0 c0 A2 n1 c2 (x1.drop q ++ x1.take q) _ (HV2.out.below ?_) (HR2.out.below ?_) hn2 hm h2).mono ?_); (· assumption); (· assumption); rintro e W5 ⟨rfl, hb5⟩)
            | (go_at_call 23; go_split_ands; (with_reducible refine (compat_is s0 a0 b0 c0 (some ⟨g, o, none⟩) n1 c1 x1 _ (HV2.out.below ?_) (HL3.out.below ?_) hn hm h1).mono ?_); (· assumption); (· assumption); rintro e W5 ⟨rfl, hb5⟩))
        all_goals (go_wp2; go_ret; go_split_ands; exact ⟨by simp, nx (dn1 HB2.out) (by assumption)⟩)
end Go.Proofs.YtbddgdicnonadaaDoor
