/- HoldersGets walked. -/
import Derived.Test.YthclgccgkdijbaaDoorHaw
import Derived.Test.YthclgccgkdijbaaDoorHmd
import Derived.Test.YthclgccgkdijbaaDoorHopen
namespace Go.Proofs.YthclgccgkdijbaaDoor
open Go.RowKit
set_option linter.unusedVariables false
set_option linter.unusedSimpArgs false

theorem ra_cells {W : World} {g : Nat} {s : ByteArray} {k u h : Int} (b : Blk W g [.string s, .int .i64 k, .int .i64 u, .int .i64 h]) : RS4 W g s k u h := RS4.of b
theorem set_len9 {k u : Int} {D : List Hd} (h : VH k u D) (p : Pr3) (a : P2) : (setH D p a).length ≤ 900 := by
  have h1 := setH_len D p a
  have h2 := h.2.1
  omega
set_option maxHeartbeats 16000000 in
set_option maxRecDepth 20000 in
theorem HoldersGets_walk (a0 : Int) (A1 : Option Addr) (n1 c1 : Nat) (x1 : List Int) (a2 : Int) (a3 : Int) (a4 : Int) (w : World) (hV : Vars w) (w0 : (Lit.int .i64 a0).wf = true) (w1 : InI w A1 n1 c1 x1) (w2 : (Lit.int .i64 a2).wf = true) (w3 : (Lit.int .i64 a3).wf = true) (w4 : (Lit.int .i64 a4).wf = true) :
    Calls Tryd.prog 5 #[.int .i64 a0, .slice A1 n1 c1, .int .i64 a2, .int .i64 a3, .int .i64 a4] w fun e w' => e = .returned (.bool true) ∧ Below w.heap.size w w' := by
  have HV := Lib.hid hV
  have HI := Lib.hid w1.rd
  have hn : Hid (x1.length = n1) := w1.len
  have hwf : Hid (∀ x ∈ x1, (Lit.int .i64 x).wf = true) := Lib.hid w1.wf
  have hw0 : Hid ((Lit.int .i64 a0).wf = true) := w0
  have hw2 : Hid ((Lit.int .i64 a2).wf = true) := w2
  have hw3 : Hid ((Lit.int .i64 a3).wf = true) := w3
  have hw4 : Hid ((Lit.int .i64 a4).wf = true) := w4
  have mixed : Tryd.prog.follows .mixedOrders = true := by kernel_rfl
  clear hV w0 w1 w2 w3 w4
  by_cases h300 : (n1 : Int) ≤ 300
  case neg =>
    clear hn hwf hw0 hw2 hw3 hw4 HI
    go_enter Tryd.func5, Tryd.ntmps5
    go_wp2_with (first
      | (go_at_call 22; refine (light_no A1 n1 c1 _ h300).mono ?_; rintro e W1 ⟨rfl, rfl⟩)
      | (go_at_call 11; refine (awakeH_any _ HV.out).mono ?_; rintro e W1 ⟨rfl, hb1⟩; have HB1 := Lib.hid hb1; clear hb1))
    go_ret
    exact ⟨rfl, HB1.out⟩
  have hn3 : Hid (n1 ≤ 300) := Lib.hid (by omega)
  obtain ⟨p1, p2, p3, hpx⟩ : ∃ p1 p2 p3, Hid (pcN a2 = (p1, p2, p3)) := ⟨_, _, _, Lib.hid rfl⟩
  obtain ⟨q1, q2, q3, hqx⟩ : ∃ q1 q2 q3, Hid (pcN a4 = (q1, q2, q3)) := ⟨_, _, _, Lib.hid rfl⟩
  have tok : True := trivial
  have tok2 : True := trivial
  go_enter Tryd.func5, Tryd.ntmps5
  go_upto_region 4 with (first
    | (go_at_call 22; refine (light_yes A1 n1 c1 _ h300).mono ?_; rintro e W1 ⟨rfl, rfl⟩)
    | (go_at_call 23; refine (resource_any a0 _ hw0).mono ?_; rintro e W1 ⟨⟨s, k, u, h, hsh, rfl⟩, hb1⟩; have HSH := Lib.hid hsh; have HB1 := Lib.hid hb1; clear hb1 hsh))
  obtain ⟨WA, hWA⟩ : ∃ WA, Hid (W1.alloc (.cells #[.string s, .int .i64 k, .int .i64 u, .int .i64 h] 23) = WA) := ⟨_, Lib.hid rfl⟩
  have HKA : Hid (Blk WA W1.heap.size [.string s, .int .i64 k, .int .i64 u, .int .i64 h]) := Lib.hid (by rw [← hWA.out]; exact Blk.new W1 _ _ rfl)
  have HBA : Hid (Below w.heap.size w WA) := Lib.hid (by rw [← hWA.out]; exact nxA HB1.out _)
  rw [hWA.out]
  obtain ⟨D, hD⟩ : ∃ D, Hid (madeL k u x1 = D) := ⟨_, Lib.hid rfl⟩
  have HOK : Hid (VH k u D) := Lib.hid (by rw [← hD.out]; exact (made_ok HSH.out x1).1)
  obtain ⟨q, hq⟩ : ∃ q, Hid (D.length = q) := ⟨_, Lib.hid rfl⟩
  have hq9 : Hid (q ≤ 900) := Lib.hid (by have := HOK.out.2.1; rw [hq.out] at this; omega)
  obtain ⟨m, v, hav⟩ : ∃ m v, Hid (amN k u a3 = (m, v)) := ⟨_, _, Lib.hid rfl⟩
  have HMD : Hid (∀ W, Below WA.heap.size WA W → Calls Tryd.prog 24 #[ra s k u h, .slice A1 n1 c1] W fun e w' => (∃ A' c', e = .returned (.slice A' q c') ∧ HRd w' A' D) ∧ Below W.heap.size W w') := Lib.hid (fun W hW => (made_is s k u h A1 n1 c1 x1 W (HI.out.below (nx HBA.out hW)) hn hn3 hwf HSH).mono fun e w' ⟨⟨V, hV, ho⟩, hb⟩ => by
    rw [hD.out] at ho
    obtain ⟨A', c', hv, -, hr, -⟩ := ho.form
    exact ⟨⟨A', c', by rw [hV, hv, hq.out], hr⟩, hb⟩)
  obtain ⟨E, hE⟩ : ∃ E, Hid (setH D (p1, p2, p3) (m, v) = E) := ⟨_, Lib.hid rfl⟩
  obtain ⟨r, hr⟩ : ∃ r, Hid (E.length = r) := ⟨_, Lib.hid rfl⟩
  obtain ⟨F, hF⟩ : ∃ F, Hid (setH E (p1, p2, p3) (0, 0) = F) := ⟨_, Lib.hid rfl⟩
  obtain ⟨t, ht⟩ : ∃ t, Hid (F.length = t) := ⟨_, Lib.hid rfl⟩
  have hr9 : Hid (r ≤ 900) := Lib.hid (by have := set_len9 HOK.out (p1, p2, p3) (m, v); rw [hE.out, hr.out] at this; exact this)
  have ht9 : Hid (t ≤ 1000) := Lib.hid (by have h1 := setH_len E (p1, p2, p3) (0, 0); rw [hF.out, ht.out, hr.out] at h1; have := hr9.out; omega)
  have HS1 : Hid (∀ (W : World) (A2 : Option Addr) (c2 : Nat), HRd W A2 D → Calls Tryd.prog 20 #[.slice A2 q c2, .agg #[.int .i64 p1, .int .i64 p2, .int .i64 p3], .agg #[.int .i64 m, .int .i64 v]] W fun e w' => (∃ A' c', e = .returned (.slice A' r c') ∧ HRd w' A' E) ∧ Below W.heap.size W w') := Lib.hid (fun W A2 c2 h => (hset_is A2 q c2 D p1 p2 p3 m v W h hq hq9).mono fun e w' ⟨⟨V, hV, ho⟩, hb⟩ => by
    rw [hE.out] at ho
    obtain ⟨A', c', hv, -, hr', -⟩ := ho.form
    exact ⟨⟨A', c', by rw [hV, hv, hr.out], hr'⟩, hb⟩)
  have HS2 : Hid (∀ (W : World) (A2 : Option Addr) (c2 : Nat), HRd W A2 E → Calls Tryd.prog 20 #[.slice A2 r c2, .agg #[.int .i64 p1, .int .i64 p2, .int .i64 p3], .agg #[.int .i64 0, .int .i64 0]] W fun e w' => (∃ A' c', e = .returned (.slice A' t c') ∧ HRd w' A' F) ∧ Below W.heap.size W w') := Lib.hid (fun W A2 c2 h => (hset_is A2 r c2 E p1 p2 p3 0 0 W h hr hr9).mono fun e w' ⟨⟨V, hV, ho⟩, hb⟩ => by
    rw [hF.out] at ho
    obtain ⟨A', c', hv, -, hr', -⟩ := ho.form
    exact ⟨⟨A', c', by rw [hV, hv, ht.out], hr'⟩, hb⟩)
  have i0 := HKA.out.cell 0 rfl
  have i1 := HKA.out.cell 1 rfl
  have i2 := HKA.out.cell 2 rfl
  have i3 := HKA.out.cell 3 rfl
  clear hwf hn3 HI
  go_upto_region 6 with (first
    | (go_at_call 24; refine (HMD.out _ (Below.refl _ _)).mono ?_; rintro e W2 ⟨⟨A2, c2, rfl, hr2⟩, hb2⟩; have HRD2 := Lib.hid hr2; have HB2 := Lib.hid hb2; clear hb2 hr2)
    | (go_at_call 25; have _t := tok; refine (proc_fn a2 _ hw2 hpx).mono ?_; rintro e W3 ⟨rfl, hb3⟩; have HRD3 := Lib.hid (HRD2.out.below hb3); have HB3 := Lib.hid (nx HB2.out hb3); clear hb3 tok _t)
    | (go_at_call 25; refine (proc_fn a4 _ hw4 hqx).mono ?_; rintro e W4 ⟨rfl, hb4⟩; have HRD4 := Lib.hid (HRD3.out.below hb4); have HB4 := Lib.hid (nx HB3.out hb4); clear hb4))
  obtain ⟨WB, hWB⟩ : ∃ WB, Hid ((W4.alloc (.cells #[.int .i64 p1, .int .i64 p2, .int .i64 p3] 26)).alloc (.cells #[.int .i64 q1, .int .i64 q2, .int .i64 q3] 26) = WB) := ⟨_, Lib.hid rfl⟩
  have HPB : Hid (Blk WB W4.heap.size [.int .i64 p1, .int .i64 p2, .int .i64 p3]) := Lib.hid (by rw [← hWB.out]; exact (Blk.new W4 _ _ rfl).grow _)
  have HQB : Hid (Blk WB (W4.heap.size + 1) [.int .i64 q1, .int .i64 q2, .int .i64 q3]) := Lib.hid (by rw [← hWB.out]; exact Blk.new (W4.alloc _) _ _ (by simp))
  have HBB : Hid (Below WA.heap.size WA WB) := Lib.hid (by rw [← hWB.out]; exact nxA (nxA HB4.out _) _)
  have HRDB : Hid (HRd WB A2 D) := Lib.hid (by rw [← hWB.out]; exact HRD4.out.below (nxA (newB _ _) _))
  rw [hWB.out]
  have hka := HKA.out.up HBB.out HKA.out.lt
  have i0 := hka.cell 0 rfl
  have i1 := hka.cell 1 rfl
  have i2 := hka.cell 2 rfl
  have i3 := hka.cell 3 rfl
  clear hka HRD2 HRD3 HRD4 HB2 HB3 HB4
  go_upto_region 7 with (go_at_call 26; refine (amount_fn s k u h a3 _ hw3 HSH hav).mono ?_; rintro e W5 ⟨rfl, hb5⟩; have HB5 := Lib.hid hb5; clear hb5)
  obtain ⟨WC, hWC⟩ : ∃ WC, Hid (W5.alloc (.cells #[.int .i64 m, .int .i64 v] 30) = WC) := ⟨_, Lib.hid rfl⟩
  have HAC : Hid (Blk WC W5.heap.size [.int .i64 m, .int .i64 v]) := Lib.hid (by rw [← hWC.out]; exact Blk.new W5 _ _ rfl)
  have HBC : Hid (Below WB.heap.size WB WC) := Lib.hid (by rw [← hWC.out]; exact nxA HB5.out _)
  rw [hWC.out]
  have HXC : Hid (∀ W, Below WC.heap.size WC W → Blk W W4.heap.size [.int .i64 p1, .int .i64 p2, .int .i64 p3] ∧ Blk W (W4.heap.size + 1) [.int .i64 q1, .int .i64 q2, .int .i64 q3] ∧ Blk W W5.heap.size [.int .i64 m, .int .i64 v] ∧ HRd W A2 D ∧ Below w.heap.size w W) := Lib.hid (fun W hW => ⟨HPB.out.up (nx HBC.out hW) HPB.out.lt, HQB.out.up (nx HBC.out hW) HQB.out.lt, HAC.out.up hW HAC.out.lt, HRDB.out.below (nx HBC.out hW), nx HBA.out (nx HBB.out (nx HBC.out hW))⟩)
  have hx := HXC.out _ (Below.refl _ _)
  have j0 := hx.1.cell 0 rfl
  have j1 := hx.1.cell 1 rfl
  have j2 := hx.1.cell 2 rfl
  have j3 := hx.2.2.1.cell 0 rfl
  have j4 := hx.2.2.1.cell 1 rfl
  clear hx i0 i1 i2 i3
  go_upto_region 9 with (first
    | (go_at_call 20; have _t := tok2; refine (HS1.out _ A2 c2 (HXC.out _ (Below.refl _ _)).2.2.2.1).mono ?_; rintro e W6 ⟨⟨A6, c6, rfl, hr6⟩, hb6⟩; have HRD6 := Lib.hid hr6; have HB6 := Lib.hid hb6; have hx6 := HXC.out _ hb6; have l0 := hx6.1.cell 0 rfl; have l1 := hx6.1.cell 1 rfl; have l2 := hx6.1.cell 2 rfl; clear hb6 hr6 hx6 tok2 _t)
    | (go_at_call 20; refine (HS2.out _ A6 c6 HRD6.out).mono ?_; rintro e W7 ⟨⟨A7, c7, rfl, hr7⟩, hb7⟩; have HRD7 := Lib.hid hr7; have HRD67 := Lib.hid (HRD6.out.below hb7); have HB7 := Lib.hid (nx HB6.out hb7); clear hb7 hr7))
  clear j0 j1 j2 j3 j4 l0 l1 l2
  have hx := HXC.out _ HB7.out
  have r1 : ∀ P : NxW W7, P.W.cell? ⟨W4.heap.size, 0, none⟩ = some (.int .i64 p1) := NxW.cell (hx.1.cell 0 rfl)
  have r2 : ∀ P : NxW W7, P.W.cell? ⟨W4.heap.size, 1, none⟩ = some (.int .i64 p2) := NxW.cell (hx.1.cell 1 rfl)
  have r3 : ∀ P : NxW W7, P.W.cell? ⟨W4.heap.size, 2, none⟩ = some (.int .i64 p3) := NxW.cell (hx.1.cell 2 rfl)
  have r4 : ∀ P : NxW W7, P.W.cell? ⟨W4.heap.size + 1, 0, none⟩ = some (.int .i64 q1) := NxW.cell (hx.2.1.cell 0 rfl)
  have r5 : ∀ P : NxW W7, P.W.cell? ⟨W4.heap.size + 1, 1, none⟩ = some (.int .i64 q2) := NxW.cell (hx.2.1.cell 1 rfl)
  have r6 : ∀ P : NxW W7, P.W.cell? ⟨W4.heap.size + 1, 2, none⟩ = some (.int .i64 q3) := NxW.cell (hx.2.1.cell 2 rfl)
  have r7 : ∀ P : NxW W7, P.W.cell? ⟨W5.heap.size, 0, none⟩ = some (.int .i64 m) := NxW.cell (hx.2.2.1.cell 0 rfl)
  have r8 : ∀ P : NxW W7, P.W.cell? ⟨W5.heap.size, 1, none⟩ = some (.int .i64 v) := NxW.cell (hx.2.2.1.cell 1 rfl)
  have HRDX := Lib.hid hx.2.2.2.1
  clear hx
  have hq10 : Hid (q ≤ 1000) := Lib.hid (by have := hq9.out; omega)
  have hr10 : Hid (r ≤ 1000) := Lib.hid (by have := hr9.out; omega)
  have hg1 : Hid (getH E (p1, p2, p3) = (m, v)) := Lib.hid (by rw [← hE.out]; exact get_set _ _ _)
  have hg2 : Hid (getH F (p1, p2, p3) = (0, 0)) := Lib.hid (by rw [← hF.out]; exact get_set _ _ _)
  have HC1 := Lib.hid (fun P : NxW W7 => Calls.nx_of P (awakeH_any P.W (HV.out.below (nx (HXC.out _ HB7.out).2.2.2.2 P.hb))))
  have HC2 := Lib.hid (fun P : NxW W7 => Calls.nx_of P (hget_is A6 r c6 E p1 p2 p3 P.W (HRD67.out.below P.hb) hr hr10 hg1))
  have HC3 := Lib.hid (fun P : NxW W7 => Calls.nx_of P (hget_is A7 t c7 F p1 p2 p3 P.W (HRD7.out.below P.hb) ht ht9 hg2))
  have HC4 := Lib.hid (fun P : NxW W7 => Calls.nx_of P (refZero_any 0 0 P.W))
  have hae : ∀ W : World, (binOp .eql 30 (.agg #[.int .i64 m, .int .i64 v]) (.agg #[.int .i64 m, .int .i64 v])).run Tryd.prog W = .ok (.bool true) W := fun W => by rw [eqAm]; simp
  obtain ⟨ε, hε⟩ : ∃ ε, Hid (decide (p1 = q1 ∧ p2 = q2 ∧ p3 = q3) = ε) := ⟨_, rfl⟩
  have he : ∀ W : World, (binOp .eql 26 (.agg #[.int .i64 p1, .int .i64 p2, .int .i64 p3]) (.agg #[.int .i64 q1, .int .i64 q2, .int .i64 q3])).run Tryd.prog W = .ok (.bool ε) W := fun W => by rw [← hε.out]; exact eqPr p1 p2 p3 q1 q2 q3 W
  have hz0 : zer 0 0 = true := by decide
  rw [hz0] at HC4
  clear hz0
  cases ε with
  | true =>
    refine wp_region_below mixed (by kernel_rfl) ?_
    repeat (go_big_quiet_step (first
      | (go_at_call 11; exact HC1.out _)
      | (go_at_call 14; first | with_reducible exact HC2.out _ | with_reducible exact HC3.out _)
      | (go_at_call 27; exact HC4.out _)))
    refine wpQuiet_nil ?_
    intro W9 hw'
    obtain ⟨⟨_, hb9⟩, hw''⟩ := hw'
    subst hw''
    have HB9 := Lib.hid (nx (HXC.out _ HB7.out).2.2.2.2 hb9)
    go_wp2
    go_ret
    exact ⟨rfl, HB9.out⟩
  | false =>
    have hpq : (p1, p2, p3) ≠ (q1, q2, q3) := fun h => by
      have h1 := of_decide_eq_false hε.out
      simp only [Prod.mk.injEq] at h
      exact h1 h
    obtain ⟨b1, b2, hg3⟩ : ∃ b1 b2, Hid (getH D (q1, q2, q3) = (b1, b2)) := ⟨_, _, Lib.hid rfl⟩
    have hg4 : Hid (getH E (q1, q2, q3) = (b1, b2)) := Lib.hid (by rw [← hE.out, get_set_other hpq]; exact hg3.out)
    have hg5 : Hid (getH F (q1, q2, q3) = (b1, b2)) := Lib.hid (by rw [← hF.out, get_set_other hpq]; exact hg4.out)
    have HC5 := Lib.hid (fun P : NxW W7 => Calls.nx_of P (hget_is A6 r c6 E q1 q2 q3 P.W (HRD67.out.below P.hb) hr hr10 hg4))
    have HC6 := Lib.hid (fun P : NxW W7 => Calls.nx_of P (hget_is A7 t c7 F q1 q2 q3 P.W (HRD7.out.below P.hb) ht ht9 hg5))
    have HC7 := Lib.hid (fun P : NxW W7 => Calls.nx_of P (refGet_is A2 q c2 D q1 q2 q3 P.W (HRDX.out.below P.hb) hq hq10 hg3))
    have hae2 : ∀ W : World, (binOp .eql 30 (.agg #[.int .i64 b1, .int .i64 b2]) (.agg #[.int .i64 b1, .int .i64 b2])).run Tryd.prog W = .ok (.bool true) W := fun W => by rw [eqAm]; simp
    clear hpq
    refine wp_region_below mixed (by kernel_rfl) ?_
    repeat (go_big_quiet_step (first
      | (go_at_call 11; exact HC1.out _)
      | (go_at_call 14; first | with_reducible exact HC2.out _ | with_reducible exact HC3.out _ | with_reducible exact HC5.out _ | with_reducible exact HC6.out _)
      | (go_at_call 15; exact HC7.out _)
      | (go_at_call 27; exact HC4.out _)))
    refine wpQuiet_nil ?_
    intro W9 hw'
    obtain ⟨⟨_, hb9⟩, hw''⟩ := hw'
    subst hw''
    have HB9 := Lib.hid (nx (HXC.out _ HB7.out).2.2.2.2 hb9)
    go_wp2
    go_ret
    exact ⟨rfl, HB9.out⟩
end Go.Proofs.YthclgccgkdijbaaDoor
