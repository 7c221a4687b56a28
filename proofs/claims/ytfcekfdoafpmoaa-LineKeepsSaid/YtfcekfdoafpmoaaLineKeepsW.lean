/- LineKeeps walked. -/
import Derived.Test.YtfcekfdoafpmoaaJaw
import Derived.Test.YtfcekfdoafpmoaaJl
import Derived.Test.YtfcekfdoafpmoaaJopen
namespace Go.Proofs.Ytfcekfdoafpmoaa
open Go.RowKit
set_option linter.unusedVariables false
set_option linter.unusedSimpArgs false

theorem vl_big (A : Option Addr) (n c : Nat) (w : World) (hb : 8 < (n : Int)) :
    Calls Try.prog 13 #[.slice A n c] w fun e w' => e = .returned (.bool false) ∧ Below w.heap.size w w' := by
  go_enter Try.func13, Try.ntmps13
  go_wp2
  go_ret
  exact ⟨rfl, Below.refl _ _⟩
set_option maxHeartbeats 1000000 in
theorem ins_big (A : Option Addr) (n c : Nat) (x y z m v p u : Int) (w : World) (hb : 8 < (n : Int)) :
    Calls Try.prog 15 #[.slice A n c, wag x y z m v p u] w fun e w' => e = .returned (.tuple #[.slice none 0 0, .int .i64 0, .int .i64 2]) ∧ Below w.heap.size w w' := by
  have HB0 := Lib.hid (newB w (.cells #[.int .i64 x, .int .i64 y, .int .i64 z, .int .i64 m, .int .i64 v, .int .i64 p, .int .i64 u] 28))
  have HC := Lib.hid (fun W => vl_big A n c W hb)
  clear hb
  go_enter Try.func15, Try.ntmps15
  go_wp2_with (go_at_call 13; refine (HC.out _).mono ?_; rintro e W1 ⟨rfl, hb1⟩; have HB1 := Lib.hid (nx HB0.out hb1); clear hb1)
  exact bodyPost_ret (v := .tuple #[.slice none 0 0, .int .i64 0, .int .i64 2]) (by simp [results, Try.results15, go_sem]) rfl ⟨rfl, HB1.out⟩
set_option maxHeartbeats 8000000 in
set_option maxRecDepth 20000 in
theorem keeps_no (A0 : Option Addr) (n0 c0 : Nat) (a1 b1 c1 d1 e1 f1 g1 code : Int) (w : World) (h0 : Hid (code ≠ 0))
    (HI : Hid (∀ W, Below w.heap.size w W → Calls Try.prog 15 #[.slice A0 n0 c0, wag a1 b1 c1 d1 e1 f1 g1] W fun e w' => e = .returned (.tuple #[.slice none 0 0, .int .i64 0, .int .i64 code]) ∧ Below W.heap.size W w')) :
    Calls Try.prog 6 #[.slice A0 n0 c0, wag a1 b1 c1 d1 e1 f1 g1] w fun e w' => e = .returned (.bool true) ∧ Below w.heap.size w w' := by
  have HB0 := Lib.hid (newB w (.cells #[.int .i64 a1, .int .i64 b1, .int .i64 c1, .int .i64 d1, .int .i64 e1, .int .i64 f1, .int .i64 g1] 28))
  have hc := h0.out
  have hcd : (code == 0) = false := by simpa using hc
  clear h0 hc
  go_enter Try.func6, Try.ntmps6
  go_wp2_with (first
    | (go_at_call 15; (with_reducible refine (HI.out _ HB0.out).mono ?_); rintro e W1 ⟨rfl, hb1⟩; have HB1 := Lib.hid (nx HB0.out hb1); clear hb1)
    | (go_at_call 10; (with_reducible refine (awakeW_any _).mono ?_); rintro e W2 ⟨rfl, hb2⟩; have HB2 := Lib.hid (nx HB1.out hb2); clear hb2))
  go_ret
  exact ⟨rfl, HB2.out⟩
set_option maxHeartbeats 8000000 in
set_option maxRecDepth 20000 in
theorem LineKeeps_walk (A0 : Option Addr) (n0 c0 : Nat) (x0 : List Wt) (a1 b1 c1 d1 e1 f1 g1 : Int) (w : World) (w0 : InW w A0 n0 c0 x0) (wa1 : (Lit.int .i64 a1).wf = true) (wb1 : (Lit.int .i64 b1).wf = true) (wc1 : (Lit.int .i64 c1).wf = true) (wd1 : (Lit.int .i64 d1).wf = true) (we1 : (Lit.int .i64 e1).wf = true) (wf1 : (Lit.int .i64 f1).wf = true) (wg1 : (Lit.int .i64 g1).wf = true) :
    Calls Try.prog 6 #[.slice A0 n0 c0, .agg #[.int .i64 a1, .int .i64 b1, .int .i64 c1, .int .i64 d1, .int .i64 e1, .int .i64 f1, .int .i64 g1]] w fun e w' => e = .returned (.bool true) ∧ Below w.heap.size w w' := by
  have HR := Lib.hid w0.rd
  have hn : Hid (x0.length = n0) := w0.len
  have hfit : n0 ≤ c0 := w0.fit
  clear w0 wa1 wb1 wc1 wd1 we1 wf1 wg1
  by_cases hbig : 8 < (n0 : Int)
  · exact keeps_no A0 n0 c0 a1 b1 c1 d1 e1 f1 g1 2 w (Lib.hid (by decide)) (Lib.hid (fun W _ => ins_big A0 n0 c0 a1 b1 c1 d1 e1 f1 g1 W hbig))
  · have hm : Hid (n0 ≤ 1000) := Lib.hid (by omega)
    by_cases hcd : inC x0 ((a1, b1, c1), (d1, e1), f1, g1) = 0
    · obtain ⟨h1, h2, h3, h4, h5⟩ := inC_0 hcd
      have hg0 : g1 = 0 := h3
      subst hg0
      have hc := Lib.hid hcd
      obtain ⟨k, hk⟩ : ∃ k, Hid (posW x0 ((a1, b1, c1), (d1, e1), f1, 0) = k) := ⟨_, Lib.hid rfl⟩
      have hkn : k ≤ n0 := by rw [← hk.out, ← hn.out]; exact posW_le _ _
      have hno : Hid (∀ x ∈ x0, x.1 ≠ (a1, b1, c1)) := Lib.hid (findW_neg.1 (by rw [show findW x0 (a1, b1, c1) = -1 from h4]; omega))
      obtain ⟨X, hX⟩ : ∃ X, Hid (putW x0 ((a1, b1, c1), (d1, e1), f1, 0) k = X) := ⟨_, Lib.hid rfl⟩
      have hXl : Hid (X.length = n0 + 1) := Lib.hid (by rw [← hX.out, putW_len (by rw [hn.out]; exact hkn), hn.out])
      obtain ⟨D, hD⟩ : ∃ D, Hid (x0.take k ++ (x0.drop k).map bump = D) := ⟨_, Lib.hid rfl⟩
      have hXD : Hid (delW X (a1, b1, c1) = D) := Lib.hid (by rw [← hX.out, ← hD.out]; exact delW_put hno.out)
      have hDl : Hid (D.length = n0) := Lib.hid (by rw [← hD.out, keep_len (by rw [hn.out]; exact hkn), hn.out])
      have hXf : Hid (findW X (a1, b1, c1) = (k : Int)) := Lib.hid (by rw [← hX.out]; exact findW_put (by rw [hn.out]; exact hkn) hno.out)
      have hm1 : Hid (n0 + 1 ≤ 1000) := Lib.hid (by omega)
      have hDi : Hid (∀ i, i < n0 → D.getD i default = if i < k then x0.getD i default else bump (x0.getD i default)) := Lib.hid (fun i hi => by rw [← hD.out]; exact keep_at (by rw [hn.out]; exact hi))
      have hps : Hid (∀ i, i < n0 → 0 ≤ (x0.getD i default).2.2.2 ∧ (x0.getD i default).2.2.2 ≤ 3) := Lib.hid (fun i hi => (vW_num (h1.2.1 _ (getD_memW (by rw [hn.out]; exact hi)))).2.2)
      obtain ⟨W0, hW0⟩ : ∃ W0, Hid (w.alloc (.cells #[.int .i64 a1, .int .i64 b1, .int .i64 c1, .int .i64 d1, .int .i64 e1, .int .i64 f1, .int .i64 0] 28) = W0) := ⟨_, rfl⟩
      have HB0 : Hid (Below w.heap.size w W0) := Lib.hid (by rw [← hW0.out]; exact newB _ _)
      have HK0 : Hid (Blk W0 w.heap.size [.int .i64 a1, .int .i64 b1, .int .i64 c1, .int .i64 d1, .int .i64 e1, .int .i64 f1, .int .i64 0]) := Lib.hid (by rw [← hW0.out]; exact Blk.new w [.int .i64 a1, .int .i64 b1, .int .i64 c1, .int .i64 d1, .int .i64 e1, .int .i64 f1, .int .i64 0] _ rfl)
      have hlt1 : decide ((n0 : Int) < ((n0 + 1 : Nat) : Int)) = true := decide_eq_true (by omega)
      have hRem : Hid (∀ (W : World) (A : Option Addr) (c : Nat), WRd W A X → Calls Try.prog 18 #[.slice A (n0 + 1) c, .agg #[.int .i64 a1, .int .i64 b1, .int .i64 c1]] W fun e w' => (∃ A' c', e = .returned (.tuple #[.slice A' n0 c', .bool true]) ∧ WRd w' A' D) ∧ Below W.heap.size W w') := Lib.hid (fun W A c h => (rem_is A (n0 + 1) c X a1 b1 c1 W h hXl hm1 hXD hDl).mono fun e w' ⟨⟨A', c', he, ho⟩, hb⟩ => ⟨⟨A', c', by rw [he, hlt1], own_rdW ho hDl⟩, hb⟩)
      clear h1 h2 h3 h4 h5 hcd hlt1
      go_enter Try.func6, Try.ntmps6
      go_upto_region 1 with fail
      rw [hW0.out]
      have i0 := HK0.out.cell 0 rfl
      have i1 := HK0.out.cell 1 rfl
      have i2 := HK0.out.cell 2 rfl
      have i3 := HK0.out.cell 3 rfl
      have i4 := HK0.out.cell 4 rfl
      have i5 := HK0.out.cell 5 rfl
      have i6 := HK0.out.cell 6 rfl
      go_wp2_with (first
        | (go_at_call 15; (with_reducible refine (ins_ok A0 n0 c0 x0 a1 b1 c1 d1 e1 f1 _ (HR.out.below HB0.out) hn hm hfit hc hk).mono ?_); rintro e W1 ⟨⟨A1, cc1, rfl, ho1⟩, hb1⟩; rw [hX.out] at ho1; have HX1 := Lib.hid (own_rdW ho1 hXl); have HB1 := Lib.hid hb1; have HK1 := Lib.hid (HK0.out.up hb1 HK0.out.lt); clear hb1 ho1 i0 i1 i2 i3 i4 i5 i6; have i0 := HK1.out.cell 0 rfl; have i1 := HK1.out.cell 1 rfl; have i2 := HK1.out.cell 2 rfl)
        | (go_at_call 18; (with_reducible refine (hRem.out _ _ _ HX1.out).mono ?_); rintro e W2 ⟨⟨A2, cc2, rfl, hr2⟩, hb2⟩; have HD2 := Lib.hid hr2; have HX2 := Lib.hid (HX1.out.below hb2); have HB2 := Lib.hid (nx HB1.out hb2); have HK2 := Lib.hid (HK1.out.up hb2 HK1.out.lt); clear hb2 hr2)
        | (go_at_call 10; (with_reducible refine (awakeW_any _).mono ?_); rintro e W3 ⟨rfl, hb3⟩; have HD3 := Lib.hid (HD2.out.below hb3); have HX3 := Lib.hid (HX2.out.below hb3); have HB3 := Lib.hid (nx HB2.out hb3); have HK3 := Lib.hid (HK2.out.up hb3 HK2.out.lt); clear hb3 i0 i1 i2; have i0 := HK3.out.cell 0 rfl; have i1 := HK3.out.cell 1 rfl; have i2 := HK3.out.cell 2 rfl)
        | (go_at_call 20; (with_reducible refine (find_is _ (n0 + 1) _ X a1 b1 c1 _ HX3.out hXl hm1 hXf).mono ?_); rintro e W4 ⟨rfl, hb4⟩; have HD4 := Lib.hid (HD3.out.below hb4); have HB4 := Lib.hid (nx HB3.out hb4); clear hb4))
      clear hno hX hXl hD hXD hXf hm1 hRem HX3 i0 i1 i2 HK3 HK2 HK1 hk hc
      go_loopw [10] (fun i wr => ∃ (j : Nat), j ≤ n0 ∧ i = .int .i64 j ∧ Hid (Below W4.heap.size W4 wr)) (fun i _ => n0 - (intOf i).toNat)
      case atStart => exact ⟨0, by omega, rfl, Below.refl _ _⟩
      case round =>
        obtain ⟨j, hj, rfl, hB⟩ := hrel
        by_cases hlt : (j : Int) < (n0 : Int)
        · have hjn : j < n0 := by omega
          obtain ⟨g, o, x, y, z, m, v, p, u, rfl, hg, hx, c1, c2, c3, c4, c5, c6, c7⟩ := (HR.out.below (nx HB0.out (nx HB4.out hB.out))).at_ (i := j) (by rw [hn.out]; exact hjn)
          obtain ⟨g2, o2, x2, y2, z2, m2, v2, p2, u2, rfl, hg2, hx2, d1, d2, d3, d4, d5, d6, d7⟩ := (HD4.out.below hB.out).at_ (i := j) (by rw [hDl.out]; exact hjn)
          have e5 : IntKind.i64.wrap ((j : Int) + 1) = (j : Int) + 1 := by rw [IntKind.wrap_i64]; omega
          have hu := hps.out j hjn
          rw [hx.out] at hu
          have e8 : IntKind.i64.wrap (u + 1) = u + 1 := by have h1 := hu.1; have h2 := hu.2; dsimp only at h1 h2; rw [IntKind.wrap_i64]; omega
          have hDj := hDi.out j hjn
          rw [hx.out, hx2.out] at hDj
          have hne : ∀ W : World, (binOp .neq 28 (wag x y z m v p u) (wag x y z m v p u)).run Try.prog W = .ok (.bool false) W := fun W => by rw [neqWait]; simp
          clear hx hx2 hu
          by_cases hjk : j < k
          · rw [if_pos hjk] at hDj
            simp only [Prod.mk.injEq] at hDj
            obtain ⟨⟨rfl, rfl, rfl⟩, ⟨rfl, rfl⟩, rfl, rfl⟩ := hDj
            have q1 : ¬ (k : Int) ≤ (j : Int) := by omega
            have q2 : decide ((k : Int) ≤ (j : Int)) = false := decide_eq_false q1
            have q3 : decide (k ≤ j) = false := decide_eq_false (by omega)
            go_wp2
            go_quiet (fail)
            go_wp2
            go_roundw
            case rel => exact ⟨j + 1, by omega, by go_num, Lib.hid (bdN (nxA hB.out _) _)⟩
            case measure => simp [intOf]; omega
          · rw [if_neg hjk] at hDj
            simp only [bump, Prod.mk.injEq] at hDj
            obtain ⟨⟨rfl, rfl, rfl⟩, ⟨rfl, rfl⟩, rfl, rfl⟩ := hDj
            have q1 : (k : Int) ≤ (j : Int) := by omega
            have q2 : decide ((k : Int) ≤ (j : Int)) = true := decide_eq_true q1
            have q3 : decide (k ≤ j) = true := decide_eq_true (by omega)
            have q4 : k ≤ j := by omega
            have q5 : (u + 1 != u) = true := bne_iff_ne.2 (by omega)
            have q6 : decide (u < u + 1) = true := decide_eq_true (by omega)
            go_wp2
            go_quiet (fail)
            go_wp2
            go_roundw
            case rel => exact ⟨j + 1, by omega, by go_num, Lib.hid (bdN (nxA hB.out _) _)⟩
            case measure => simp [intOf]; omega
        · go_wp2
          go_ret
          exact ⟨rfl, nx HB0.out (nx HB4.out hB.out)⟩
    · obtain ⟨code, hc⟩ : ∃ code, Hid (inC x0 ((a1, b1, c1), (d1, e1), f1, g1) = code) := ⟨_, Lib.hid rfl⟩
      exact keeps_no A0 n0 c0 a1 b1 c1 d1 e1 f1 g1 code w (Lib.hid (by rw [← hc.out]; exact hcd)) (Lib.hid (fun W hW => ins_err A0 n0 c0 x0 a1 b1 c1 d1 e1 f1 g1 W (HR.out.below hW) hn hm hc (Lib.hid (by rw [← hc.out]; exact hcd))))
end Go.Proofs.Ytfcekfdoafpmoaa
