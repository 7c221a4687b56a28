/- FormulaMinimal walked. -/
import Derived.Test.YtecipjjnbikheaaFlw
import Derived.Test.YtecipjjnbikheaaFow
namespace Go.Proofs.Ytecipjjnbikheaa
open Go.RowKit
set_option linter.unusedVariables false
set_option linter.unusedSimpArgs false
theorem prn_yes {e : Ex} {L : List A3} {S : List Bool} (h : e.hld L S = true) : prn e L S = prnG e L L.length (cutS L.length S) := by unfold prn; rw [if_pos h]
theorem prn_hld {e : Ex} {L : List A3} {S : List Bool} (h : e.hld L S = true) : e.hld L (prn e L S) = true := by
  rw [prn_yes h]; exact prnG_hld _ _ (by rw [cutS_hld]; exact h)
theorem prn_in {e : Ex} {L : List A3} {S : List Bool} (h : e.hld L S = true) {i : Nat} (hi : (prn e L S).getD i false = true) : S.getD i false = true := by
  rw [prn_yes h] at hi
  have h1 := prnG_sub e L L.length _ i hi
  unfold cutS at h1
  rw [map_getD, Bool.and_eq_true] at h1
  exact h1.2
theorem prn_less {e : Ex} {L : List A3} {S : List Bool} (h : e.hld L S = true) {i : Nat} (hl : i < L.length) (hi : (prn e L S).getD i false = true) : e.hld L ((prn e L S).set i false) = false := by
  rw [prn_yes h] at hi ⊢
  exact prnG_min L.length _ i hl hi
theorem own_lit0 (w : World) : OwnB (w.alloc (.cells #[] 4)) w.heap.size (.slice (some ⟨w.heap.size, 0, none⟩) 0 0) [] := World.ownsRow_lit (base := w.heap.size) (e := 4) (size := 1) w #[] 0 (Nat.le_refl _) (by simp [maxLen]) (by simp)
set_option maxHeartbeats 8000000 in
set_option maxRecDepth 100000 in
theorem FormulaMinimal_walk (k0 : Int) (s0 : ByteArray) (m0 u0 : Int) (A0 : Option Addr) (n0 c0 : Nat) (e0 : Ex) (A1 : Option Addr) (n1 c1 : Nat) (x1 : List Bool) (w : World) (T0 : TIn (Lo w.heap.size) w ⟨k0, s0, m0, u0, A0, n0, c0⟩ e0) (w1 : InB w A1 n1 c1 x1) :
    Calls Try.prog 8 #[xe k0 s0 m0 u0 A0 n0 c0, .slice A1 n1 c1] w fun x w' => x = .returned (.bool true) ∧ Below w.heap.size w w' := by
  have HT := Lib.hid T0
  have HS := Lib.hid w1.si
  have hn1 := w1.big
  have HK0 := Lib.hid (Blk.new w [.int .i64 k0, .string s0, .int .i64 m0, .int .i64 u0, .slice A0 n0 c0] 28 rfl)
  have MA := Lib.hid trivial
  have HB0 := Lib.hid (newB w (.cells #[.int .i64 k0, .string s0, .int .i64 m0, .int .i64 u0, .slice A0 n0 c0] 28))
  clear T0 w1
  by_cases hv : Vex e0
  · obtain ⟨L, hL0⟩ := VL.ex hv
    have hL := Lib.hid hL0
    obtain ⟨N, hN⟩ : ∃ N, Hid (L.length = N) := ⟨_, rfl⟩
    have hN8 : N ≤ 8 := by have h1 := hL0.n8; have h2 := hN.out; omega
    obtain ⟨r, hr⟩ : ∃ r, Hid (e0.hld L x1 = r) := ⟨_, rfl⟩
    clear hv hL0
    cases r with
    | false =>
      go_enter Try.func8, Try.ntmps8
      go_wp2_with (first
        | (go_at_call 16; refine (holds8_yes k0 s0 m0 u0 A0 n0 c0 A1 n1 c1 _ (HT.out.grow _) (HS.out.below HB0.out) hL hr).mono ?_; rintro x W1 ⟨rfl, hb1⟩; have HB1 := Lib.hid (nx HB0.out hb1); clear hb1)
        | (go_at_call 15; refine (awake8_any _).mono ?_; rintro x W2 ⟨rfl, hb2⟩; have HB2 := Lib.hid (nx HB1.out hb2); clear hb2))
      go_ret
      exact ⟨rfl, HB2.out⟩
    | true =>
      obtain ⟨X, hX⟩ : ∃ X, Hid (prn e0 L x1 = X) := ⟨_, rfl⟩
      have hXN : Hid (X.length = N) := by show _ = _; rw [← hX.out, prn_len, hN.out]
      have hXh : Hid (e0.hld L X = true) := by show _ = _; rw [← hX.out]; exact prn_hld hr.out
      have hXi : Hid (∀ i, X.getD i false = true → x1.getD i false = true) := Lib.hid (fun i hi => by rw [← hX.out] at hi; exact prn_in hr.out hi)
      have hXl : Hid (∀ i, i < N → X.getD i false = true → e0.hld L (X.set i false) = false) := Lib.hid (fun i h1 h2 => by rw [← hX.out] at h2 ⊢; exact prn_less hr.out (by rw [hN.out]; exact h1) h2)
      go_enter Try.func8, Try.ntmps8
      go_wp2_with (first
        | (go_at_call 16; clear MA; refine (holds8_yes k0 s0 m0 u0 A0 n0 c0 A1 n1 c1 _ (HT.out.grow _) (HS.out.below HB0.out) hL hr).mono ?_; rintro x W1 ⟨rfl, hb1⟩; have hk := HK0.out.up hb1 (by simp); have x0 := hk.cell 0 rfl; have x1' := hk.cell 1 rfl; have x2 := hk.cell 2 rfl; have x3 := hk.cell 3 rfl; have x4 := hk.cell 4 rfl; have HK1 := Lib.hid hk; have HB1 := Lib.hid (nx HB0.out hb1); have HT1 := Lib.hid (TIn.up HT.out HB1.out); clear hk hb1)
        | (go_at_call 25; refine (prune8_yes k0 s0 m0 u0 A0 n0 c0 A1 n1 c1 _ HT1.out (HS.out.below HB1.out) hL hX).mono ?_; rintro x W2 ⟨⟨A2, c2, rfl, hbr, hc2⟩, hb1⟩; rw [hXN.out]; have HP2 := Lib.hid hbr; have HK2 := Lib.hid (HK1.out.up hb1 HK1.out.lt); have HB2 := Lib.hid (nx HB1.out hb1); clear hb1 hbr hc2)
        | (go_at_call 15; refine (awake8_any _).mono ?_; rintro x W3 ⟨rfl, hb1⟩; have hk := HK2.out.up hb1 HK2.out.lt; clear x0 x1' x2 x3 x4; have x0 := hk.cell 0 rfl; have x1' := hk.cell 1 rfl; have x2 := hk.cell 2 rfl; have x3 := hk.cell 3 rfl; have x4 := hk.cell 4 rfl; have HK3 := Lib.hid hk; have HB3 := Lib.hid (nx HB2.out hb1); have HP3 := Lib.hid (HP2.out.below hb1); clear hk hb1)
        | (go_at_call 16; refine (holds8_yes k0 s0 m0 u0 A0 n0 c0 A2 N c2 _ (TIn.up HT.out HB3.out) ⟨hXN.out, HP3.out, by omega⟩ hL hXh).mono ?_; rintro x W4 ⟨rfl, hb1⟩; have HK4 := Lib.hid (HK3.out.up hb1 HK3.out.lt); have HB4 := Lib.hid (nx HB3.out hb1); have HP4 := Lib.hid (HP3.out.below hb1); clear hb1))
      go_loopw [6] (fun i wr => ∃ (j : Nat), j ≤ N ∧ i = .int .i64 j ∧ Hid (Below W4.heap.size W4 wr)) (fun i _ => N - (intOf i).toNat)
      case atStart => exact ⟨0, by omega, rfl, Below.refl _ _⟩
      case round =>
        obtain ⟨j, hj, rfl, hB⟩ := hrel
        by_cases hlt : (j : Int) < (N : Int)
        · have e5 : IntKind.i64.wrap ((j : Int) + 1) = (j : Int) + 1 := by rw [IntKind.wrap_i64]; omega
          have HPr := Lib.hid (HP4.out.below hB.out)
          obtain ⟨g, o, v, hA2, hg, hv, p1⟩ := HPr.out.at_ (i := j) (by have := hXN.out; omega)
          subst hA2
          cases v with
          | false =>
            go_wp2
            exact ⟨⟨j + 1, by omega, by go_num, hB⟩, by simp [intOf]; omega⟩
          | true =>
            have hx1 := hXi.out j hv.out
            have hjn : j < n1 := by
              have h1 := HS.out.sn
              by_cases h2 : j < n1
              · exact h2
              · rw [getD_out (by omega)] at hx1; cases hx1
            have hles : Hid (e0.hld L (X.set j false) = false) := hXl.out j (by omega) hv.out
            have hap : Hid ((([] : List Bool).length + N ≤ 1000000)) := by show _ ≤ _; simp; omega
            have HBr := Lib.hid (HB4.out.trans (hB.out.mono HB4.out.size))
            have hXne : Hid (X ≠ []) := Lib.hid (fun e => by have := hXN.out; rw [e] at this; simp at this; omega)
            go_upto_region 11 with (at_builtin; go_loud (refine app_bools rfl (.tmp 35) (.tmp 36) rfl wr.heap.size _ [] (some ⟨g, o, none⟩) X N c2 hXN rfl rfl (own_lit0 wr) (HPr.out.below (newB wr _)) hap (newB wr _).size ?_; intro V5 w5 ho5 hb5; rw [List.nil_append] at ho5; obtain ⟨g5, c5, hV5, hg5b, hg5l, hc5, hf5⟩ := ho5.own hXne.out; rw [hXN.out] at hV5; subst hV5; have q1 := hc5 j (by have := hXN.out; omega); have HO5 := Lib.hid ho5; have HB5 := Lib.hid ((newB wr _).trans hb5); have HG5 := Lib.hid hg5b; clear ho5 hb5 hc5))
            have HO6 := Lib.hid (HO5.out.set j false)
            have HB6 : Hid (Below wr.heap.size wr (w5.setCell ⟨g5, j, none⟩ (.bool false))) := Lib.hid (HB5.out.setCell (p := ⟨g5, j, none⟩) HG5.out _)
            go_upto_region 12 with fail
            generalize w5.setCell ⟨g5, j, none⟩ (.bool false) = W6 at HO6 HB6 ⊢
            have HBw6 := Lib.hid (HBr.out.trans (HB6.out.mono HBr.out.size))
            have hk6 := (HK4.out.up hB.out HK4.out.lt).up HB6.out (HK4.out.up hB.out HK4.out.lt).lt
            clear x0 x1' x2 x3 x4 p1 q1 hf5 hg5l
            have x0 := hk6.cell 0 rfl
            have x1' := hk6.cell 1 rfl
            have x2 := hk6.cell 2 rfl
            have x3 := hk6.cell 3 rfl
            have x4 := hk6.cell 4 rfl
            obtain ⟨g2, o2, v2, hA1, hg2, hv2, d1⟩ := (HS.out.sr.below HBw6.out).at_ (i := j) (by have := HS.out.sn; omega)
            have hv2t : v2 = true := hv2.out.symm.trans hx1
            subst hv2t
            subst hA1
            have dj : decide (n1 ≤ j) = false := decide_eq_false (by omega)
            have HSI : Hid (SI W6 (X.set j false) (some ⟨g5, 0, none⟩) N) := Lib.hid ⟨by rw [List.length_set, hXN.out], by
              obtain ⟨A', c', hV, h1, h2⟩ := HO6.out.form
              injection hV with q1
              rw [q1]
              exact h2, by omega⟩
            clear hk6
            go_wp2_with (go_at_call 16; refine (holds8_yes k0 s0 m0 u0 A0 n0 c0 (some ⟨g5, 0, none⟩) N c5 _ (TIn.up HT.out HBw6.out) HSI.out hL hles).mono ?_; rintro x W7 ⟨rfl, hb7⟩; have HB7 := Lib.hid (hB.out.trans ((nx HB6.out hb7).mono hB.out.size)); clear hb7)
            exact ⟨⟨j + 1, by omega, by go_num, HB7⟩, by simp [intOf]; omega⟩
        · go_wp2
          go_ret
          exact ⟨rfl, HB4.out.trans (hB.out.mono HB4.out.size)⟩
  · have hn := Lib.hid hv
    clear hv
    go_enter Try.func8, Try.ntmps8
    go_wp2_with (first
      | (go_at_call 16; refine (holds8_no k0 s0 m0 u0 A0 n0 c0 A1 n1 c1 _ (HT.out.grow _) (HS.out.below HB0.out) hn).mono ?_; rintro x W1 ⟨rfl, hb1⟩; have HB1 := Lib.hid (nx HB0.out hb1); clear hb1)
      | (go_at_call 15; refine (awake8_any _).mono ?_; rintro x W2 ⟨rfl, hb2⟩; have HB2 := Lib.hid (nx HB1.out hb2); clear hb2))
    go_ret
    exact ⟨rfl, HB2.out⟩
end Go.Proofs.Ytecipjjnbikheaa
