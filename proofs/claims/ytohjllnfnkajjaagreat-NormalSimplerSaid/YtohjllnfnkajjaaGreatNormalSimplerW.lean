/- NormalSimpler walked. -/
import Derived.Test.YtohjllnfnkajjaaGreatQ11
namespace Go.Proofs.YtohjllnfnkajjaaGreat
open Go.RowKit
set_option linter.unusedVariables false
set_option linter.unusedSimpArgs false
set_option maxHeartbeats 1000000 in
set_option maxRecDepth 8000 in
theorem rnodes9 {e : Ex} (k : Int) (s : ByteArray) (m u : Int) (A : Option Addr) (n c : Nat) (w : World) (hT : TIn (Lo w.heap.size) w ⟨k, s, m, u, A, n, c⟩ e) (hv : Vex e) {v : Nat} (hc : Hid (e.cnt = v)) :
    Calls Tryz.prog 23 #[xe k s m u A n c] w fun r w' => r = .returned (.int .i64 (v : Int)) ∧ Below w.heap.size w w' :=
  refNodes_is k s m u A n c w hT (Lib.hid (by unfold rnN; rw [if_pos (show lim 1 0 e = true from decide_eq_true (by have h1 := hv.1; have h2 := hv.2.1; omega))]; exact hc.out))
set_option maxHeartbeats 1000000 in
set_option maxRecDepth 8000 in
theorem rdepth9 {e : Ex} (k : Int) (s : ByteArray) (m u : Int) (A : Option Addr) (n c : Nat) (w : World) (hT : TIn (Lo w.heap.size) w ⟨k, s, m, u, A, n, c⟩ e) (hv : Vex e) {v : Nat} (hc : Hid (e.dp = v)) :
    Calls Tryz.prog 24 #[xe k s m u A n c] w fun r w' => r = .returned (.int .i64 (v : Int)) ∧ Below w.heap.size w w' := by
  have HT := Lib.hid hT
  clear hT
  obtain ⟨x, hx⟩ : ∃ x, Hid (szN 1 e = x) := ⟨_, rfl⟩
  obtain ⟨y, hy⟩ : ∃ y, Hid (szD 1 e = y) := ⟨_, rfl⟩
  have h1 : Hid ((1 : Int) = ((1 : Nat) : Int)) := rfl
  have hl : 1 + e.dp ≤ 5 ∧ e.cnt ≤ 24 := by have h1 := hv.1; have h2 := hv.2.1; omega
  have hyv : Hid (y = v) := Lib.hid (by have h2 := hy.out; have h3 := (sz_yes hl).2; have h4 := hc.out; omega)
  have hng : ¬ 24 < (x : Int) := by have h2 := hx.out; have h3 := (sz_yes hl).1; omega
  clear hl hv
  go_enter Tryz.func24, Tryz.ntmps24
  go_wp2_with (go_at_call 43; refine (size_all e k s m u A n c 1 _ _ x y (Lib.hid (HT.out.grow _)) (by omega) (by omega) h1 hx hy).mono ?_; rintro r W1 ⟨rfl, hb1⟩; have HB1 := Lib.hid (dn1 hb1); clear hb1)
  go_ret
  have e1 := hyv.out
  subst e1
  exact ⟨rfl, HB1.out⟩
set_option maxHeartbeats 8000000 in
set_option maxRecDepth 20000 in
theorem NormalSimpler_walk (A0 : Option Addr) (n0 c0 : Nat) (x0 : List Int) (w : World) (w0 : InI w A0 n0 c0 x0) :
    Calls Tryz.prog 5 #[.slice A0 n0 c0] w fun x w' => x = .returned (.bool true) ∧ Below w.heap.size w w' := by
  have HI := Lib.hid w0
  clear w0
  by_cases hn : (n0 : Int) ≤ 300
  · have hd : decide ((n0 : Int) ≤ 300) = true := decide_eq_true hn
    have hn3 : n0 ≤ 300 := by omega
    go_enter Tryz.func5, Tryz.ntmps5
    go_upto_region 4 with (first
      | (go_at_call 11; refine (light_is A0 n0 c0 _).mono ?_; rintro e W1 ⟨rfl, rfl⟩; rw [hd])
      | (go_at_call 12; refine (made_is x0 A0 n0 c0 _ HI.out hn3).mono ?_; rintro x W1 ⟨⟨k1, s1, m1, u1, A1, n1, c1, e, L, rfl, ht, hL0⟩, hb⟩; have HT1 := Lib.hid (ht.grow (.cells #[.int .i64 k1, .string s1, .int .i64 m1, .int .i64 u1, .slice A1 n1 c1] 28)); have HK1 := Lib.hid (Blk.new W1 [.int .i64 k1, .string s1, .int .i64 m1, .int .i64 u1, .slice A1 n1 c1] 28 rfl); have HB1 := Lib.hid (nxA hb (.cells #[.int .i64 k1, .string s1, .int .i64 m1, .int .i64 u1, .slice A1 n1 c1] 28)); have HL := Lib.hid hL0; clear hb ht hL0))
    obtain ⟨gd, hgd⟩ : ∃ gd, W1.heap.size = gd := ⟨_, rfl⟩
    rw [hgd] at HK1 ⊢
    generalize W1.alloc (.cells #[.int .i64 k1, .string s1, .int .i64 m1, .int .i64 u1, .slice A1 n1 c1] 28) = W2 at HT1 HK1 HB1 ⊢
    clear hgd HI hn hd hn3
    have hvx := HL.out.1
    have hvs := HL.out.smp
    have hsm : Hid (smp9 e = smp e) := Lib.hid (smp9_yes hvx)
    have hss : Hid (smp9 (smp e) = smp e) := Lib.hid (by rw [smp9_yes hvs]; exact smp_idem HL.out.tr)
    have hr1 : Hid (vexB (smp e) = true) := Lib.hid (vexB_iff.2 hvs)
    have hq1 : Hid ((impB (smp e) e && impB e (smp e)) = true) := Lib.hid (by rw [(impB_smp HL.out).1, (impB_smp HL.out).2]; rfl)
    have hs1 : Hid (sameB (smp9 (smp e)) (smp e) = true) := Lib.hid (by rw [hss.out]; exact sameB_iff.2 rfl)
    obtain ⟨a, ha⟩ : ∃ a, Hid ((smp e).cnt = a) := ⟨_, Lib.hid rfl⟩
    obtain ⟨b, hb⟩ : ∃ b, Hid (e.cnt = b) := ⟨_, Lib.hid rfl⟩
    obtain ⟨a2, ha2⟩ : ∃ a, Hid ((smp e).dp = a) := ⟨_, Lib.hid rfl⟩
    obtain ⟨b2, hb2'⟩ : ∃ b, Hid (e.dp = b) := ⟨_, Lib.hid rfl⟩
    have hab : a ≤ b := by have h1 := smp_cnt e; have h2 := ha.out; have h3 := hb.out; omega
    have hab' : (a : Int) ≤ (b : Int) := by omega
    have hab2 : a2 ≤ b2 := by have h1 := smp_dp e; have h2 := ha2.out; have h3 := hb2'.out; omega
    have hab2' : (a2 : Int) ≤ (b2 : Int) := by omega
    have HVX := Lib.hid hvx
    have HVS := Lib.hid hvs
    clear hvx hvs
    obtain ⟨y0, y1, y2, y3, y4⟩ := HK1.out.s5
    go_upto_region 5 with (go_at_call 20; refine (psimp_is (e := e) k1 s1 m1 u1 A1 n1 c1 _ HT1.out).mono ?_; rintro x W3 ⟨⟨k3, s3, m3, u3, A3, n3, c3, rfl, ht⟩, hb⟩; rw [hsm.out] at ht; have HT3 := Lib.hid (ht.grow (.cells #[.int .i64 k3, .string s3, .int .i64 m3, .int .i64 u3, .slice A3 n3 c3] 28)); have HK3 := Lib.hid (Blk.new W3 [.int .i64 k3, .string s3, .int .i64 m3, .int .i64 u3, .slice A3 n3 c3] 28 rfl); have HB3 := Lib.hid (nxA hb (.cells #[.int .i64 k3, .string s3, .int .i64 m3, .int .i64 u3, .slice A3 n3 c3] 28)); clear hb ht)
    obtain ⟨gs, hgs⟩ : ∃ gs, W3.heap.size = gs := ⟨_, rfl⟩
    rw [hgs] at HK3 ⊢
    generalize W3.alloc (.cells #[.int .i64 k3, .string s3, .int .i64 m3, .int .i64 u3, .slice A3 n3 c3] 28) = W4 at HT3 HK3 HB3 ⊢
    have HK14 := Lib.hid (HK1.out.up HB3.out HK1.out.lt)
    have HT14 := Lib.hid (HT1.out.up HB3.out)
    have HALL : Hid (∀ W, Below W4.heap.size W4 W → Below W4.heap.size W4 W ∧ S5 W gd k1 s1 m1 u1 A1 n1 c1 ∧ S5 W gs k3 s3 m3 u3 A3 n3 c3) := Lib.hid (fun W h => ⟨h, (HK14.out.up h HK14.out.lt).s5, (HK3.out.up h HK3.out.lt).s5⟩)
    have HALT : Hid (∀ W, Below W4.heap.size W4 W → TIn (Lo W.heap.size) W ⟨k1, s1, m1, u1, A1, n1, c1⟩ e) := Lib.hid (fun W h => HT14.out.up h)
    have HALS : Hid (∀ W, Below W4.heap.size W4 W → TIn (Lo W.heap.size) W ⟨k3, s3, m3, u3, A3, n3, c3⟩ (smp e)) := Lib.hid (fun W h => HT3.out.up h)
    clear hgs HT1 HK1 HT3 HK3 HK14 HT14 y0 y1 y2 y3 y4
    go_region_held3 (fun W => Below W4.heap.size W4 W ∧ S5 W gd k1 s1 m1 u1 A1 n1 c1 ∧ S5 W gs k3 s3 m3 u3 A3 n3 c3)
    (first
      | exact HALL.out _ (Below.refl _ _)
      | exact HALL.out _ (bdD (Below.refl _ _))
      | (go_split_ands; exact HALL.out _ (nx (by assumption) hb1)))
    (first
      | (go_at_call 7; (with_reducible refine (awake9_any _).mono ?_); rintro x W6 ⟨rfl, hb1⟩)
      | (go_at_call 21; go_split_ands; (with_reducible refine (refValidExpr_is k3 s3 m3 u3 A3 n3 c3 _ (HALS.out _ ?_) hr1).mono ?_); (· assumption); rintro x W7 ⟨rfl, hb1⟩)
      | (go_at_call 22; go_split_ands; (with_reducible refine (reqv_is k3 s3 m3 u3 A3 n3 c3 k1 s1 m1 u1 A1 n1 c1 _ (HALS.out _ ?_) (HALT.out _ ?_) hq1).mono ?_); (· assumption); (· assumption); rintro x W8 ⟨rfl, hb1⟩)
      | (go_at_call 23; go_split_ands; (with_reducible refine (rnodes9 k3 s3 m3 u3 A3 n3 c3 _ (HALS.out _ ?_) HVS.out ha).mono ?_); (· assumption); rintro x W9 ⟨rfl, hb1⟩)
      | (go_at_call 23; go_split_ands; (with_reducible refine (rnodes9 k1 s1 m1 u1 A1 n1 c1 _ (HALT.out _ ?_) HVX.out hb).mono ?_); (· assumption); rintro x W10 ⟨rfl, hb1⟩)
      | (go_at_call 24; go_split_ands; (with_reducible refine (rdepth9 k3 s3 m3 u3 A3 n3 c3 _ (HALS.out _ ?_) HVS.out ha2).mono ?_); (· assumption); rintro x W11 ⟨rfl, hb1⟩)
      | (go_at_call 24; go_split_ands; (with_reducible refine (rdepth9 k1 s1 m1 u1 A1 n1 c1 _ (HALT.out _ ?_) HVX.out hb2').mono ?_); (· assumption); rintro x W12 ⟨rfl, hb1⟩)
      | (go_at_call 20; go_split_ands; (with_reducible refine (psimp_is k3 s3 m3 u3 A3 n3 c3 _ (HALS.out _ ?_)).mono ?_); (· assumption); rintro x W13 ⟨⟨k6, s6, m6, u6, A6, n6, c6, rfl, ht⟩, hb1⟩; have HT6 := Lib.hid ht; have HS6 := Lib.hid (HALS.out _ (nx (by assumption) hb1)); clear ht)
      | (go_at_call 25; (refine (sx_all (smp9 (smp e)) (smp e) k6 s6 m6 u6 A6 n6 c6 k3 s3 m3 u3 A3 n3 c3 _ true HT6 HS6 hs1).mono ?_); rintro x W14 ⟨rfl, hb1⟩))
    all_goals (go_split_ands; go_wp2; go_ret; exact ⟨by simp, nx (nx HB1.out HB3.out) (by assumption)⟩)
  · have hd : decide ((n0 : Int) ≤ 300) = false := decide_eq_false hn
    go_enter Tryz.func5, Tryz.ntmps5
    go_wp2_with (first
      | (go_at_call 11; refine (light_is A0 n0 c0 _).mono ?_; rintro e W1 ⟨rfl, rfl⟩; rw [hd])
      | (go_at_call 7; refine (awake9_any _).mono ?_; rintro x W8 ⟨rfl, hb⟩; have HB8 := Lib.hid hb; clear hb))
    go_ret
    exact ⟨by simp, HB8.out⟩
end Go.Proofs.YtohjllnfnkajjaaGreat
