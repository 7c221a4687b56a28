/- HoldersShrinks walked. -/
import Derived.Test.YthclgccgkdijbaaDoorHaw
import Derived.Test.YthclgccgkdijbaaDoorHmd
import Derived.Test.YthclgccgkdijbaaDoorHopen
import Derived.Deep.CutRange
namespace Go.Proofs.YthclgccgkdijbaaDoor
open Go.RowKit
set_option linter.unusedVariables false
set_option linter.unusedSimpArgs false

set_option maxHeartbeats 16000000 in
set_option maxRecDepth 20000 in
theorem HoldersShrinks_walk (a0 : Int) (A1 : Option Addr) (n1 c1 : Nat) (x1 : List Int) (a2 : Int) (a3 : Int) (a4 : Int) (w : World) (hV : Vars w) (w0 : (Lit.int .i64 a0).wf = true) (w1 : InI w A1 n1 c1 x1) (w2 : (Lit.int .i64 a2).wf = true) (w3 : (Lit.int .i64 a3).wf = true) (w4 : (Lit.int .i64 a4).wf = true) :
    Calls Tryd.prog 9 #[.int .i64 a0, .slice A1 n1 c1, .int .i64 a2, .int .i64 a3, .int .i64 a4] w fun e w' => e = .returned (.bool true) ∧ Below w.heap.size w w' := by
  have HV := Lib.hid hV
  have HI := Lib.hid w1.rd
  have hn : Hid (x1.length = n1) := w1.len
  have hwf : Hid (∀ x ∈ x1, (Lit.int .i64 x).wf = true) := Lib.hid w1.wf
  have hw0 : Hid ((Lit.int .i64 a0).wf = true) := w0
  have hw2 : Hid ((Lit.int .i64 a2).wf = true) := w2
  have hw3 : Hid ((Lit.int .i64 a3).wf = true) := w3
  have hw4 : Hid ((Lit.int .i64 a4).wf = true) := w4
  have mixed : Tryd.prog.follows .mixedOrders = true := by kernel_rfl
  clear hV w0 w1 w2 w3 w4
  by_cases h300 : (n1 : Int) ≤ 300
  case neg =>
    clear hn hwf hw0 HI
    go_enter Tryd.func9, Tryd.ntmps9
    go_wp2_with (first
      | (go_at_call 22; refine (light_no A1 n1 c1 _ h300).mono ?_; rintro e W1 ⟨rfl, rfl⟩)
      | (go_at_call 11; refine (awakeH_any _ HV.out).mono ?_; rintro e W1 ⟨rfl, hb1⟩; have HB1 := Lib.hid hb1; clear hb1))
    go_ret
    exact ⟨rfl, HB1.out⟩
  have hn3 : Hid (n1 ≤ 300) := Lib.hid (by omega)
  obtain ⟨d1, d2, d3, hdx⟩ : ∃ p1 p2 p3, Hid (pcN a2 = (p1, p2, p3)) := ⟨_, _, _, Lib.hid rfl⟩
  obtain ⟨p1, p2, p3, hpx⟩ : ∃ p1 p2 p3, Hid (pcN a3 = (p1, p2, p3)) := ⟨_, _, _, Lib.hid rfl⟩
  go_enter Tryd.func9, Tryd.ntmps9
  go_upto_region 4 with (first
    | (go_at_call 22; refine (light_yes A1 n1 c1 _ h300).mono ?_; rintro e W1 ⟨rfl, rfl⟩)
    | (go_at_call 23; refine (resource_any a0 _ hw0).mono ?_; rintro e W1 ⟨⟨s, k, u, h, hsh, rfl⟩, hb1⟩; have HSH := Lib.hid hsh; have HB1 := Lib.hid hb1; clear hb1 hsh))
  obtain ⟨WA, hWA⟩ : ∃ WA, Hid (W1.alloc (.cells #[.string s, .int .i64 k, .int .i64 u, .int .i64 h] 23) = WA) := ⟨_, Lib.hid rfl⟩
  have HKA : Hid (Blk WA W1.heap.size [.string s, .int .i64 k, .int .i64 u, .int .i64 h]) := Lib.hid (by rw [← hWA.out]; exact Blk.new W1 _ _ rfl)
  have HBA : Hid (Below w.heap.size w WA) := Lib.hid (by rw [← hWA.out]; exact nxA HB1.out _)
  rw [hWA.out]
  have HMD : Hid (∀ W, Below WA.heap.size WA W → Calls Tryd.prog 24 #[ra s k u h, .slice A1 n1 c1] W fun e w' => (∃ A' c', e = .returned (.slice A' (madeL k u x1).length c') ∧ (madeL k u x1).length ≤ c' ∧ HRd w' A' (madeL k u x1)) ∧ Below W.heap.size W w') := Lib.hid (fun W hW => (made_is s k u h A1 n1 c1 x1 W (HI.out.below (nx HBA.out hW)) hn hn3 hwf HSH).mono fun e w' ⟨⟨V, hV, ho⟩, hb⟩ => by
    obtain ⟨A', c', hv, hc, hr, -⟩ := ho.form
    exact ⟨⟨A', c', by rw [hV, hv], hc, hr⟩, hb⟩)
  obtain ⟨D, hD⟩ : ∃ D, Hid (madeL k u x1 = D) := ⟨_, Lib.hid rfl⟩
  have HOK : Hid (VH k u D ∧ ∀ x ∈ D, x.1 ∈ pcs) := Lib.hid (by rw [← hD.out]; exact made_ok HSH.out x1)
  obtain ⟨q, hq⟩ : ∃ q, Hid (D.length = q) := ⟨_, Lib.hid rfl⟩
  have hq9 : Hid (q ≤ 900) := Lib.hid (by have := HOK.out.1.2.1; rw [hq.out] at this; omega)
  have hq10 : Hid (q ≤ 1000) := Lib.hid (by have := hq9.out; omega)
  rw [hD.out, hq.out] at HMD
  obtain ⟨E, hE⟩ : ∃ E, Hid (setH D (d1, d2, d3) (0, 0) = E) := ⟨_, Lib.hid rfl⟩
  obtain ⟨r, hr⟩ : ∃ r, Hid (E.length = r) := ⟨_, Lib.hid rfl⟩
  have hED : E = delH D (d1, d2, d3) := by rw [← hE.out, setH_zero]
  have hsub : List.Sublist E D := by rw [hED]; exact List.filter_sublist
  have HSUB := Lib.hid hsub
  have HVE : Hid (VH k u E) := Lib.hid (HOK.out.1.sub hsub)
  have hr9 : Hid (r ≤ 900) := Lib.hid (by have h1 := hsub.length_le; rw [hr.out, hq.out] at h1; have := hq9.out; omega)
  have hr10 : Hid (r ≤ 1000) := Lib.hid (by have := hr9.out; omega)
  clear hsub hED
  obtain ⟨m, v, hav⟩ : ∃ m v, Hid (amN k u a4 = (m, v)) := ⟨_, _, Lib.hid rfl⟩
  have HS1 : Hid (∀ (W : World) (A2 : Option Addr) (c2 : Nat), HRd W A2 D → Calls Tryd.prog 20 #[.slice A2 q c2, .agg #[.int .i64 d1, .int .i64 d2, .int .i64 d3], .agg #[.int .i64 0, .int .i64 0]] W fun e w' => (∃ A' c', e = .returned (.slice A' r c') ∧ r ≤ c' ∧ HRd w' A' E) ∧ Below W.heap.size W w') := Lib.hid (fun W A2 c2 h => (hset_is A2 q c2 D d1 d2 d3 0 0 W h hq hq9).mono fun e w' ⟨⟨V, hV, ho⟩, hb⟩ => by
    rw [hE.out] at ho
    obtain ⟨A', c', hv, hc, hr', -⟩ := ho.form
    rw [hr.out] at hc
    exact ⟨⟨A', c', by rw [hV, hv, hr.out], hc, hr'⟩, hb⟩)
  have i0 := HKA.out.cell 0 rfl
  have i1 := HKA.out.cell 1 rfl
  have i2 := HKA.out.cell 2 rfl
  have i3 := HKA.out.cell 3 rfl
  clear hwf hn3 HI
  go_upto_region 6 with (first
    | (go_at_call 24; refine (HMD.out _ (Below.refl _ _)).mono ?_; rintro e W2 ⟨⟨A2, c2, rfl, hc2, hr2⟩, hb2⟩; have HC2 := Lib.hid hc2; have HRD2 := Lib.hid hr2; have HB2 := Lib.hid hb2; clear hb2 hr2 hc2)
    | (go_at_call 25; refine (proc_fn a2 _ hw2 hdx).mono ?_; rintro e W3 ⟨rfl, hb3⟩; have HRD3 := Lib.hid (HRD2.out.below hb3); have HB3 := Lib.hid (nx HB2.out hb3); clear hb3)
    | (go_at_call 20; refine (HS1.out _ A2 c2 HRD3.out).mono ?_; rintro e WR ⟨⟨A6, c6, rfl, hc6, hr6⟩, hb6⟩; have HC6 := Lib.hid hc6; have HRE := Lib.hid hr6; have HRD := Lib.hid (HRD3.out.below hb6); have HBR := Lib.hid (nx HB3.out hb6); clear hb6 hr6 hc6))
  clear i0 i1 i2 i3 HRD2 HRD3 HB2 HB3
  have HKR := Lib.hid (HKA.out.up HBR.out HKA.out.lt)
  have HXS : Hid (∀ W, Below WR.heap.size WR W → RS4 W W1.heap.size s k u h) := Lib.hid (fun W hW => RS4.of (HKR.out.up hW HKR.out.lt))
  go_cut [14, 15] from 30 to 34 (fun bp ba wx => ∃ gp ga, bp = .pointer (some ⟨gp, 0, none⟩) ∧ ba = .pointer (some ⟨ga, 0, none⟩) ∧ TwoB wx WR.heap.size gp ga p1 p2 p3 m v ∧ Below WR.heap.size WR wx)
  case first =>
    have hcur : Below WR.heap.size WR WR := Below.refl _ _
    go_region_held3 (fun W => RS4 W W1.heap.size s k u h)
      (exact HXS.out _ (by repeat (first | with_reducible exact hcur | with_reducible exact Below.refl _ _ | with_reducible apply bdD | with_reducible apply nxA | with_reducible refine Below.setCell ?_ (p := ⟨_, _, none⟩) ?_ _ | (dsimp only; omega))))
      (first
        | (go_at_call 25; refine (proc_fn a3 _ hw3 hpx).mono ?_; rintro e W1 ⟨rfl, hbb⟩; have hc2 : Below WR.heap.size WR W1 := nx (by repeat (first | with_reducible exact hcur | with_reducible exact Below.refl _ _ | with_reducible apply bdD | with_reducible apply nxA | with_reducible refine Below.setCell ?_ (p := ⟨_, _, none⟩) ?_ _ | (dsimp only; omega))) hbb; (try have HPB := Lib.hid (blk_in (g := WR.heap.size) (cs := zP) hbb (by first | exact Blk.new WR zP _ rfl | exact (Blk.new WR zP _ rfl).grow _))); (try have HPB := Lib.hid (blk_in (g := WR.heap.size + 1) (cs := zP) hbb (by first | exact Blk.new (WR.alloc oA) zP _ (by simp)))); (try have HAB := Lib.hid (blk_in (g := WR.heap.size) (cs := zA) hbb (by first | exact Blk.new WR zA _ rfl | exact (Blk.new WR zA _ rfl).grow _))); (try have HAB := Lib.hid (blk_in (g := WR.heap.size + 1) (cs := zA) hbb (by first | exact Blk.new (WR.alloc oP) zA _ (by simp)))); clear hcur hbb; have hcur := hc2; clear hc2; have hs1 := hcur.size; (try have hlp := HPB.out.lt); (try have hla := HAB.out.lt))
        | (go_at_call 26; refine (amount_fn s k u h a4 _ hw4 HSH hav).mono ?_; rintro e W2 ⟨rfl, hbb⟩; have hc2 : Below WR.heap.size WR W2 := nx (by repeat (first | with_reducible exact hcur | with_reducible exact Below.refl _ _ | with_reducible apply bdD | with_reducible apply nxA | with_reducible refine Below.setCell ?_ (p := ⟨_, _, none⟩) ?_ _ | (dsimp only; omega))) hbb; (first | replace HPB := Lib.hid (blk_in hbb (by first | exact HPB.out | exact HPB.out.grow _ | exact (HPB.out.grow _).grow _)) | have HPB := Lib.hid (blk_in (g := W1.heap.size) (cs := zP) hbb (by first | exact Blk.new W1 zP _ rfl | exact (Blk.new W1 zP _ rfl).grow _)) | have HPB := Lib.hid (blk_in (g := W1.heap.size + 1) (cs := zP) hbb (by first | exact Blk.new (W1.alloc oA) zP _ (by simp))) | skip); (first | replace HAB := Lib.hid (blk_in hbb (by first | exact HAB.out | exact HAB.out.grow _ | exact (HAB.out.grow _).grow _)) | have HAB := Lib.hid (blk_in (g := W1.heap.size) (cs := zA) hbb (by first | exact Blk.new W1 zA _ rfl | exact (Blk.new W1 zA _ rfl).grow _)) | have HAB := Lib.hid (blk_in (g := W1.heap.size + 1) (cs := zA) hbb (by first | exact Blk.new (W1.alloc oP) zA _ (by simp))) | skip); clear hcur hbb; have hcur := hc2; clear hc2; have hs2 := hcur.size; (try (have hq := HPB.out; have u0 := hq.cell 0 rfl; have u1 := hq.cell 1 rfl; have u2 := hq.cell 2 rfl; have uf := hq.fz; have ul := hq.lt; clear hq)); (try (have hq := HAB.out; have y0 := hq.cell 0 rfl; have y1 := hq.cell 1 rfl; have yf := hq.fz; have yl := hq.lt; clear hq))))
    all_goals (go_wp2_with fail; go_meet; refine ⟨_, _, rfl, rfl, twoB_mk ?_ ?_ ?_ ?_, ?_⟩; (first | exact Nat.le_refl _ | omega); (first | exact Nat.le_refl _ | omega); (first | with_reducible exact blk_far (blk_far (blk_sets3 HPB.out _ _ _) (by omega)) (by omega) | with_reducible exact blk_sets3 HPB.out _ _ _ | with_reducible exact (blk_sets3 HPB.out _ _ _).grow _ | with_reducible exact Blk.new _ _ _ (by simp) | with_reducible exact (Blk.new _ _ _ (by simp)).grow _); (first | with_reducible exact blk_sets2 (blk_far (blk_far (blk_far HAB.out (by omega)) (by omega)) (by omega)) _ _ | with_reducible exact blk_sets2 HAB.out _ _ | with_reducible exact (blk_sets2 HAB.out _ _).grow _ | with_reducible exact Blk.new _ _ _ (by simp) | with_reducible exact (Blk.new _ _ _ (by simp)).grow _); exact (by repeat (first | with_reducible exact hcur | with_reducible exact Below.refl _ _ | with_reducible apply bdD | with_reducible apply nxA | with_reducible refine Below.setCell ?_ (p := ⟨_, _, none⟩) ?_ _ | (dsimp only; omega))))
  case rest =>
    obtain ⟨gp, ga, rfl, rfl, ⟨hgp, hga, hbp, hba⟩, hb5⟩ := hcut
    obtain ⟨WX, hWX⟩ : ∃ W, W = wc := ⟨_, rfl⟩
    subst hWX
    have HX : Hid (∀ W, Below WX.heap.size WX W → Blk W W1.heap.size [.string s, .int .i64 k, .int .i64 u, .int .i64 h] ∧ Blk W gp [.int .i64 p1, .int .i64 p2, .int .i64 p3] ∧ Blk W ga [.int .i64 m, .int .i64 v] ∧ HRd W A2 D ∧ HRd W A6 E ∧ Below w.heap.size w W ∧ Vars W) := Lib.hid (fun W hW => ⟨HKR.out.up (nx hb5 hW) HKR.out.lt, hbp.up hW hbp.lt, hba.up hW hba.lt, HRD.out.below (nx hb5 hW), HRE.out.below (nx hb5 hW), nx HBA.out (nx HBR.out (nx hb5 hW)), HV.out.below (nx HBA.out (nx HBR.out (nx hb5 hW)))⟩)
    have r1 : ∀ P : NxW WX, P.W.cell? ⟨gp, 0, none⟩ = some (.int .i64 p1) := NxW.cell (hbp.cell 0 rfl)
    have r2 : ∀ P : NxW WX, P.W.cell? ⟨gp, 1, none⟩ = some (.int .i64 p2) := NxW.cell (hbp.cell 1 rfl)
    have r3 : ∀ P : NxW WX, P.W.cell? ⟨gp, 2, none⟩ = some (.int .i64 p3) := NxW.cell (hbp.cell 2 rfl)
    clear hbp hba hb5 hgp hga
    have HC1 := Lib.hid (fun P : NxW WX => Calls.nx_of P (proc_fn a2 P.W hw2 hdx))
    obtain ⟨ε, hε⟩ : ∃ ε, Hid (decide (d1 = p1 ∧ d2 = p2 ∧ d3 = p3) = ε) := ⟨_, rfl⟩
    have he : ∀ W : World, (binOp .eql 26 (.agg #[.int .i64 d1, .int .i64 d2, .int .i64 d3]) (.agg #[.int .i64 p1, .int .i64 p2, .int .i64 p3])).run Tryd.prog W = .ok (.bool ε) W := fun W => by rw [← hε.out]; exact eqPr d1 d2 d3 p1 p2 p3 W
    obtain ⟨b1, hb1⟩ := bool_ex (RoomH k u D (p1, p2, p3) (m, v))
    obtain ⟨b2, hb2⟩ := bool_ex (RoomH k u E (p1, p2, p3) (m, v))
    have himp : b1 = true → b2 = true := fun h => hb2.out.1 ((hb1.out.2 h).shrink HSUB.out)
    have hvd : Hid (VH k u D ↔ true = true) := Lib.hid ⟨fun _ => rfl, fun _ => HOK.out.1⟩
    have hve : Hid (VH k u E ↔ true = true) := Lib.hid ⟨fun _ => rfl, fun _ => HVE.out⟩
    have HAW : Hid (∀ W, Below WX.heap.size WX W → Calls Tryd.prog 11 #[] W fun e w' => e = .returned (.bool true) ∧ Below W.heap.size W w') := Lib.hid (fun W hW => awakeH_any W (HX.out W hW).2.2.2.2.2.2)
    have HVD : Hid (∀ W, Below WX.heap.size WX W → Calls Tryd.prog 12 #[ra s k u h, .slice A2 q c2] W fun e w' => e = .returned (.bool true) ∧ Below W.heap.size W w') := Lib.hid (fun W hW => hvalid_is s k u h A2 q c2 D W (HX.out W hW).2.2.2.2.2.2 (HX.out W hW).2.2.2.1 hq hq10 hvd)
    have HVE2 : Hid (∀ W, Below WX.heap.size WX W → Calls Tryd.prog 12 #[ra s k u h, .slice A6 r c6] W fun e w' => e = .returned (.bool true) ∧ Below W.heap.size W w') := Lib.hid (fun W hW => hvalid_is s k u h A6 r c6 E W (HX.out W hW).2.2.2.2.2.2 (HX.out W hW).2.2.2.2.1 hr hr10 hve)
    have HRD1 : Hid (∀ W, Below WX.heap.size WX W → Calls Tryd.prog 28 #[ra s k u h, .slice A2 q c2, .agg #[.int .i64 p1, .int .i64 p2, .int .i64 p3], .agg #[.int .i64 m, .int .i64 v]] W fun e w' => e = .returned (.bool b1) ∧ Below W.heap.size W w') := Lib.hid (fun W hW => hroom_is s k u h A2 q c2 D p1 p2 p3 m v W (HX.out W hW).2.2.2.2.2.2 (HX.out W hW).2.2.2.1 hq HC2.out hq9 hb1)
    have HRD2 : Hid (∀ W, Below WX.heap.size WX W → Calls Tryd.prog 28 #[ra s k u h, .slice A6 r c6, .agg #[.int .i64 p1, .int .i64 p2, .int .i64 p3], .agg #[.int .i64 m, .int .i64 v]] W fun e w' => e = .returned (.bool b2) ∧ Below W.heap.size W w') := Lib.hid (fun W hW => hroom_is s k u h A6 r c6 E p1 p2 p3 m v W (HX.out W hW).2.2.2.2.2.2 (HX.out W hW).2.2.2.2.1 hr HC6.out hr9 hb2)
    clear hb1 hb2 hvd hve
    go_upto_region 7 with fail
    refine wp_region_below mixed (by kernel_rfl) ?_
    repeat (go_big_quiet_step (first
      | (go_at_call 25; exact HC1.out _)))
    refine wpQuiet_nil ?_
    intro W7 hw'
    obtain ⟨⟨_, hb7⟩, hw''⟩ := hw'
    subst hw''
    have HB7 := Lib.hid hb7
    have hx7 := HX.out _ hb7
    have j0 := hx7.1.cell 0 rfl
    have j1 := hx7.1.cell 1 rfl
    have j2 := hx7.1.cell 2 rfl
    have j3 := hx7.1.cell 3 rfl
    clear r1 r2 r3 hb7 hx7
    cases ε with
    | true =>
      clear himp
      go_wp2_with (first
        | (go_at_call 11; refine (HAW.out _ HB7.out).mono ?_; rintro e W8 ⟨rfl, hb8⟩; have HB8 := Lib.hid (nx HB7.out hb8); have hx8 := HX.out _ HB8.out; have l0 := hx8.1.cell 0 rfl; have l1 := hx8.1.cell 1 rfl; have l2 := hx8.1.cell 2 rfl; have l3 := hx8.1.cell 3 rfl; clear hb8 hx8)
        | (go_at_call 12; (with_reducible refine (HVE2.out _ HB8.out).mono ?_); rintro e W9 ⟨rfl, hb9⟩; have HB9 := Lib.hid (nx HB8.out hb9); clear hb9))
      go_ret
      exact ⟨rfl, (HX.out _ HB9.out).2.2.2.2.2.1⟩
    | false =>
      cases b1 with
      | false =>
        clear himp
        have tok : True := trivial
        have tok2 : True := trivial
        go_wp2_with (first
          | (go_at_call 11; refine (HAW.out _ HB7.out).mono ?_; rintro e W8 ⟨rfl, hb8⟩; have HB8 := Lib.hid (nx HB7.out hb8); clear hb8; have hx8 := HX.out _ HB8.out; have l80 := hx8.1.cell 0 rfl; have l81 := hx8.1.cell 1 rfl; have l82 := hx8.1.cell 2 rfl; have l83 := hx8.1.cell 3 rfl; have l84 := hx8.2.1.cell 0 rfl; have l85 := hx8.2.1.cell 1 rfl; have l86 := hx8.2.1.cell 2 rfl; have l87 := hx8.2.2.1.cell 0 rfl; have l88 := hx8.2.2.1.cell 1 rfl; clear hx8)
          | (go_at_call 12; have _t := tok; (with_reducible refine (HVD.out _ HB8.out).mono ?_); rintro e W9 ⟨rfl, hb9⟩; have HB9 := Lib.hid (nx HB8.out hb9); clear hb9 tok _t; have hx9 := HX.out _ HB9.out; have l90 := hx9.1.cell 0 rfl; have l91 := hx9.1.cell 1 rfl; have l92 := hx9.1.cell 2 rfl; have l93 := hx9.1.cell 3 rfl; have l94 := hx9.2.1.cell 0 rfl; have l95 := hx9.2.1.cell 1 rfl; have l96 := hx9.2.1.cell 2 rfl; have l97 := hx9.2.2.1.cell 0 rfl; have l98 := hx9.2.2.1.cell 1 rfl; clear hx9)
          | (go_at_call 12; (with_reducible refine (HVE2.out _ HB9.out).mono ?_); rintro e W10 ⟨rfl, hb10⟩; have HB10 := Lib.hid (nx HB9.out hb10); clear hb10; have hx10 := HX.out _ HB10.out; have l100 := hx10.1.cell 0 rfl; have l101 := hx10.1.cell 1 rfl; have l102 := hx10.1.cell 2 rfl; have l103 := hx10.1.cell 3 rfl; have l104 := hx10.2.1.cell 0 rfl; have l105 := hx10.2.1.cell 1 rfl; have l106 := hx10.2.1.cell 2 rfl; have l107 := hx10.2.2.1.cell 0 rfl; have l108 := hx10.2.2.1.cell 1 rfl; clear hx10)
          | (go_at_call 28; have _t := tok2; (with_reducible refine (HRD1.out _ HB10.out).mono ?_); rintro e W11 ⟨rfl, hb11⟩; have HB11 := Lib.hid (nx HB10.out hb11); clear hb11 tok2 _t; have hx11 := HX.out _ HB11.out; have l110 := hx11.1.cell 0 rfl; have l111 := hx11.1.cell 1 rfl; have l112 := hx11.1.cell 2 rfl; have l113 := hx11.1.cell 3 rfl; have l114 := hx11.2.1.cell 0 rfl; have l115 := hx11.2.1.cell 1 rfl; have l116 := hx11.2.1.cell 2 rfl; have l117 := hx11.2.2.1.cell 0 rfl; have l118 := hx11.2.2.1.cell 1 rfl; clear hx11))
        go_ret
        exact ⟨rfl, (HX.out _ HB11.out).2.2.2.2.2.1⟩
      | true =>
        obtain rfl : b2 = true := himp rfl
        clear himp
        have tok : True := trivial
        have tok2 : True := trivial
        go_wp2_with (first
          | (go_at_call 11; refine (HAW.out _ HB7.out).mono ?_; rintro e W8 ⟨rfl, hb8⟩; have HB8 := Lib.hid (nx HB7.out hb8); clear hb8; have hx8 := HX.out _ HB8.out; have l80 := hx8.1.cell 0 rfl; have l81 := hx8.1.cell 1 rfl; have l82 := hx8.1.cell 2 rfl; have l83 := hx8.1.cell 3 rfl; have l84 := hx8.2.1.cell 0 rfl; have l85 := hx8.2.1.cell 1 rfl; have l86 := hx8.2.1.cell 2 rfl; have l87 := hx8.2.2.1.cell 0 rfl; have l88 := hx8.2.2.1.cell 1 rfl; clear hx8)
          | (go_at_call 12; have _t := tok; (with_reducible refine (HVD.out _ HB8.out).mono ?_); rintro e W9 ⟨rfl, hb9⟩; have HB9 := Lib.hid (nx HB8.out hb9); clear hb9 tok _t; have hx9 := HX.out _ HB9.out; have l90 := hx9.1.cell 0 rfl; have l91 := hx9.1.cell 1 rfl; have l92 := hx9.1.cell 2 rfl; have l93 := hx9.1.cell 3 rfl; have l94 := hx9.2.1.cell 0 rfl; have l95 := hx9.2.1.cell 1 rfl; have l96 := hx9.2.1.cell 2 rfl; have l97 := hx9.2.2.1.cell 0 rfl; have l98 := hx9.2.2.1.cell 1 rfl; clear hx9)
          | (go_at_call 12; (with_reducible refine (HVE2.out _ HB9.out).mono ?_); rintro e W10 ⟨rfl, hb10⟩; have HB10 := Lib.hid (nx HB9.out hb10); clear hb10; have hx10 := HX.out _ HB10.out; have l100 := hx10.1.cell 0 rfl; have l101 := hx10.1.cell 1 rfl; have l102 := hx10.1.cell 2 rfl; have l103 := hx10.1.cell 3 rfl; have l104 := hx10.2.1.cell 0 rfl; have l105 := hx10.2.1.cell 1 rfl; have l106 := hx10.2.1.cell 2 rfl; have l107 := hx10.2.2.1.cell 0 rfl; have l108 := hx10.2.2.1.cell 1 rfl; clear hx10)
          | (go_at_call 28; have _t := tok2; (with_reducible refine (HRD1.out _ HB10.out).mono ?_); rintro e W11 ⟨rfl, hb11⟩; have HB11 := Lib.hid (nx HB10.out hb11); clear hb11 tok2 _t; have hx11 := HX.out _ HB11.out; have l110 := hx11.1.cell 0 rfl; have l111 := hx11.1.cell 1 rfl; have l112 := hx11.1.cell 2 rfl; have l113 := hx11.1.cell 3 rfl; have l114 := hx11.2.1.cell 0 rfl; have l115 := hx11.2.1.cell 1 rfl; have l116 := hx11.2.1.cell 2 rfl; have l117 := hx11.2.2.1.cell 0 rfl; have l118 := hx11.2.2.1.cell 1 rfl; clear hx11)
          | (go_at_call 28; (with_reducible refine (HRD2.out _ HB11.out).mono ?_); rintro e W12 ⟨rfl, hb12⟩; have HB12 := Lib.hid (nx HB11.out hb12); clear hb12))
        go_ret
        exact ⟨rfl, (HX.out _ HB12.out).2.2.2.2.2.1⟩
end Go.Proofs.YthclgccgkdijbaaDoor
