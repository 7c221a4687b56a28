/- HoldersGrow walked. -/
import Derived.Test.YthclgccgkdijbaaDoorHaw
import Derived.Test.YthclgccgkdijbaaDoorHmd
import Derived.Test.YthclgccgkdijbaaDoorHrv
import Derived.Test.YthclgccgkdijbaaDoorHopen
import Derived.Deep.CutRange
namespace Go.Proofs.YthclgccgkdijbaaDoor
open Go.RowKit
set_option linter.unusedVariables false
set_option linter.unusedSimpArgs false

set_option maxHeartbeats 16000000 in
set_option maxRecDepth 20000 in
theorem HoldersGrow_walk (a0 : Int) (A1 : Option Addr) (n1 c1 : Nat) (x1 : List Int)  (w : World) (hV : Vars w) (w0 : (Lit.int .i64 a0).wf = true) (w1 : InI w A1 n1 c1 x1)  :
    Calls Tryd.prog 10 #[.int .i64 a0, .slice A1 n1 c1] w fun e w' => e = .returned (.bool true) ∧ Below w.heap.size w w' := by
  have HV := Lib.hid hV
  have HI := Lib.hid w1.rd
  have hn : Hid (x1.length = n1) := w1.len
  have hwf : Hid (∀ x ∈ x1, (Lit.int .i64 x).wf = true) := Lib.hid w1.wf
  have hw0 : Hid ((Lit.int .i64 a0).wf = true) := w0
  have mixed : Tryd.prog.follows .mixedOrders = true := by kernel_rfl
  clear hV w0 w1
  by_cases h300 : (n1 : Int) ≤ 300
  case neg =>
    clear hn hwf hw0 HI
    go_enter Tryd.func10, Tryd.ntmps10
    go_wp2_with (first
      | (go_at_call 22; refine (light_no A1 n1 c1 _ h300).mono ?_; rintro e W1 ⟨rfl, rfl⟩)
      | (go_at_call 11; refine (awakeH_any _ HV.out).mono ?_; rintro e W1 ⟨rfl, hb1⟩; have HB1 := Lib.hid hb1; clear hb1))
    go_ret
    exact ⟨rfl, HB1.out⟩
  have hn3 : Hid (n1 ≤ 300) := Lib.hid (by omega)
  go_enter Tryd.func10, Tryd.ntmps10
  go_upto_region 4 with (first
    | (go_at_call 22; refine (light_yes A1 n1 c1 _ h300).mono ?_; rintro e W1 ⟨rfl, rfl⟩)
    | (go_at_call 23; refine (resource_any a0 _ hw0).mono ?_; rintro e W1 ⟨⟨s, k, u, h, hsh, rfl⟩, hb1⟩; have HSH := Lib.hid hsh; have HB1 := Lib.hid hb1; clear hb1 hsh))
  obtain ⟨WA, hWA⟩ : ∃ WA, Hid (W1.alloc (.cells #[.string s, .int .i64 k, .int .i64 u, .int .i64 h] 23) = WA) := ⟨_, Lib.hid rfl⟩
  have HKA : Hid (Blk WA W1.heap.size [.string s, .int .i64 k, .int .i64 u, .int .i64 h]) := Lib.hid (by rw [← hWA.out]; exact Blk.new W1 _ _ rfl)
  have HBA : Hid (Below w.heap.size w WA) := Lib.hid (by rw [← hWA.out]; exact nxA HB1.out _)
  rw [hWA.out]
  have HMD : Hid (∀ W, Below WA.heap.size WA W → Calls Tryd.prog 24 #[ra s k u h, .slice A1 n1 c1] W fun e w' => (∃ A' c', e = .returned (.slice A' (madeL k u x1).length c') ∧ (madeL k u x1).length ≤ c' ∧ HRd w' A' (madeL k u x1)) ∧ Below W.heap.size W w') := Lib.hid (fun W hW => (made_is s k u h A1 n1 c1 x1 W (HI.out.below (nx HBA.out hW)) hn hn3 hwf HSH).mono fun e w' ⟨⟨V, hV, ho⟩, hb⟩ => by
    obtain ⟨A', c', hv, hc, hr, -⟩ := ho.form
    exact ⟨⟨A', c', by rw [hV, hv], hc, hr⟩, hb⟩)
  have HK0 := HKA
  have hwf2 := hwf
  clear hwf
  go_upto_region 5 with fail
  go_wp2_with fail
  go_loopw [6, 7] (fun V i wr => ∃ (j q c2 : Nat) (A2 : Option Addr), j ≤ n1 ∧ i = .int .i64 j ∧ V = .slice A2 q c2 ∧ q ≤ c2 ∧ Hid ((madeL k u (x1.take j)).length = q) ∧ Hid (HRd wr A2 (madeL k u (x1.take j))) ∧ Hid (Below WA.heap.size WA wr)) (fun _ i _ => n1 - (intOf i).toNat)
  case atStart => exact ⟨0, 0, 0, none, by omega, rfl, rfl, by omega, Lib.hid (by rw [List.take_zero]; rfl), Lib.hid (by rw [List.take_zero]; exact HRd.nil _ _), Below.refl _ _⟩
  case round =>
    obtain ⟨j, q, c2, A2, hj, rfl, rfl, hqc, hL, hO, hB⟩ := hrel
    obtain ⟨WR, hWR⟩ : ∃ W, W = wr := ⟨_, rfl⟩
    subst hWR
    obtain ⟨D, hD⟩ : ∃ D, Hid (madeL k u (x1.take j) = D) := ⟨_, Lib.hid rfl⟩
    rw [hD.out] at hL hO
    have hok := made_ok HSH.out (x1.take j)
    rw [hD.out] at hok
    have HOK := Lib.hid hok
    clear hok
    have hq8 : Hid (q ≤ 900) := Lib.hid (by have h1 := HOK.out.1.2.1; rw [hL.out] at h1; omega)
    have hK := Lib.hid (HKA.out.up hB.out HKA.out.lt)
    by_cases hlt : (j : Int) < (n1 : Int)
    · have hlt' : j < n1 := by omega
      have e5 : IntKind.i64.wrap ((j : Int) + 1) = (j : Int) + 1 := by have := hn3.out; rw [IntKind.wrap_i64]; omega
      obtain ⟨g, o, rfl, hg, c1⟩ := (HI.out.below (nx HBA.out hB.out)).at_ (i := j) (by rw [hn.out]; exact hlt')
      obtain ⟨x, hx⟩ : ∃ x, Hid (x1.getD j 0 = x) := ⟨_, Lib.hid rfl⟩
      rw [hx.out] at c1
      have hwx : Hid ((Lit.int .i64 x).wf = true) := Lib.hid (by
        rw [← hx.out, List.getD_eq_getElem?_getD, List.getElem?_eq_getElem (by rw [hn.out]; exact hlt')]
        exact hwf2.out _ (List.getElem_mem _))
      have hwy : Hid ((Lit.int .i64 (x / 8)).wf = true) := Lib.hid (wf_divs hwx.out).2.1
      have hsn : Hid (madeL k u (x1.take (j + 1)) = stepM k u D x) := Lib.hid (by
        have h1 : x1.take (j + 1) = x1.take j ++ [x] := by
          rw [List.take_succ_eq_append_getElem (by rw [hn.out]; exact hlt')]
          congr 2
          rw [← hx.out, List.getD_eq_getElem?_getD, List.getElem?_eq_getElem (by rw [hn.out]; exact hlt')]
          rfl
        rw [h1, made_snoc, hD.out])
      obtain ⟨p1, p2, p3, hp⟩ : ∃ p1 p2 p3, Hid (pcN x = (p1, p2, p3)) := ⟨_, _, _, Lib.hid rfl⟩
      obtain ⟨m, v, ham⟩ : ∃ m v, Hid (amN k u (x / 8) = (m, v)) := ⟨_, _, Lib.hid rfl⟩
      have HXS : Hid (∀ W, Below WR.heap.size WR W → RS4 W W1.heap.size s k u h ∧ (W.cell? ⟨g, o + j, none⟩ = some (.int .i64 x))) := Lib.hid (fun W hW => ⟨RS4.of (hK.out.up hW hK.out.lt), (hW.cell (p := ⟨g, o + j, none⟩) hg).trans c1⟩)
      go_upto_region 8 with fail
      go_cut [8, 9] from 22 to 33 (fun bp ba wx => ∃ gp ga, bp = .pointer (some ⟨gp, 0, none⟩) ∧ ba = .pointer (some ⟨ga, 0, none⟩) ∧ TwoB wx WR.heap.size gp ga p1 p2 p3 m v ∧ Below WR.heap.size WR wx)
      case first =>
        have hcur : Below WR.heap.size WR WR := Below.refl _ _
        clear c1
        go_region_held3 (fun W => RS4 W W1.heap.size s k u h ∧ (W.cell? ⟨g, o + j, none⟩ = some (.int .i64 x)))
        (exact HXS.out _ (by repeat (first | with_reducible exact hcur | with_reducible exact Below.refl _ _ | with_reducible apply bdD | with_reducible apply nxA | with_reducible refine Below.setCell ?_ (p := ⟨_, _, none⟩) ?_ _ | (dsimp only; omega))))
        (first
          | (go_at_call 25; refine (proc_fn x _ hwx hp).mono ?_; rintro e W1 ⟨rfl, hbb⟩; have hc2 : Below WR.heap.size WR W1 := nx (by repeat (first | with_reducible exact hcur | with_reducible exact Below.refl _ _ | with_reducible apply bdD | with_reducible apply nxA | with_reducible refine Below.setCell ?_ (p := ⟨_, _, none⟩) ?_ _ | (dsimp only; omega))) hbb; (try have HPB := Lib.hid (blk_in (g := WR.heap.size) (cs := zP) hbb (by first | exact Blk.new WR zP _ rfl | exact (Blk.new WR zP _ rfl).grow _))); (try have HPB := Lib.hid (blk_in (g := WR.heap.size + 1) (cs := zP) hbb (by first | exact Blk.new (WR.alloc oA) zP _ (by simp)))); (try have HAB := Lib.hid (blk_in (g := WR.heap.size) (cs := zA) hbb (by first | exact Blk.new WR zA _ rfl | exact (Blk.new WR zA _ rfl).grow _))); (try have HAB := Lib.hid (blk_in (g := WR.heap.size + 1) (cs := zA) hbb (by first | exact Blk.new (WR.alloc oP) zA _ (by simp)))); clear hcur hbb; have hcur := hc2; clear hc2; have hs1 := hcur.size; (try have hlp := HPB.out.lt); (try have hla := HAB.out.lt))
          | (go_at_call 26; refine (amount_fn s k u h (x / 8) _ hwy HSH ham).mono ?_; rintro e W2 ⟨rfl, hbb⟩; have hc2 : Below WR.heap.size WR W2 := nx (by repeat (first | with_reducible exact hcur | with_reducible exact Below.refl _ _ | with_reducible apply bdD | with_reducible apply nxA | with_reducible refine Below.setCell ?_ (p := ⟨_, _, none⟩) ?_ _ | (dsimp only; omega))) hbb; (first | replace HPB := Lib.hid (blk_in hbb (by first | exact HPB.out | exact HPB.out.grow _ | exact (HPB.out.grow _).grow _)) | have HPB := Lib.hid (blk_in (g := W1.heap.size) (cs := zP) hbb (by first | exact Blk.new W1 zP _ rfl | exact (Blk.new W1 zP _ rfl).grow _)) | have HPB := Lib.hid (blk_in (g := W1.heap.size + 1) (cs := zP) hbb (by first | exact Blk.new (W1.alloc oA) zP _ (by simp))) | skip); (first | replace HAB := Lib.hid (blk_in hbb (by first | exact HAB.out | exact HAB.out.grow _ | exact (HAB.out.grow _).grow _)) | have HAB := Lib.hid (blk_in (g := W1.heap.size) (cs := zA) hbb (by first | exact Blk.new W1 zA _ rfl | exact (Blk.new W1 zA _ rfl).grow _)) | have HAB := Lib.hid (blk_in (g := W1.heap.size + 1) (cs := zA) hbb (by first | exact Blk.new (W1.alloc oP) zA _ (by simp))) | skip); clear hcur hbb; have hcur := hc2; clear hc2; have hs2 := hcur.size; (try (have hq := HPB.out; have u0 := hq.cell 0 rfl; have u1 := hq.cell 1 rfl; have u2 := hq.cell 2 rfl; have uf := hq.fz; have ul := hq.lt; clear hq)); (try (have hq := HAB.out; have y0 := hq.cell 0 rfl; have y1 := hq.cell 1 rfl; have yf := hq.fz; have yl := hq.lt; clear hq))))
        all_goals (go_wp2_with fail; go_meet; refine ⟨_, _, rfl, rfl, twoB_mk ?_ ?_ ?_ ?_, ?_⟩; (first | exact Nat.le_refl _ | omega); (first | exact Nat.le_refl _ | omega); (first | with_reducible exact blk_far (blk_far (blk_sets3 HPB.out _ _ _) (by omega)) (by omega) | with_reducible exact blk_sets3 HPB.out _ _ _ | with_reducible exact (blk_sets3 HPB.out _ _ _).grow _ | with_reducible exact Blk.new _ _ _ (by simp) | with_reducible exact (Blk.new _ _ _ (by simp)).grow _); (first | with_reducible exact blk_sets2 (blk_far (blk_far (blk_far HAB.out (by omega)) (by omega)) (by omega)) _ _ | with_reducible exact blk_sets2 HAB.out _ _ | with_reducible exact (blk_sets2 HAB.out _ _).grow _ | with_reducible exact Blk.new _ _ _ (by simp) | with_reducible exact (Blk.new _ _ _ (by simp)).grow _); exact (by repeat (first | with_reducible exact hcur | with_reducible exact Below.refl _ _ | with_reducible apply bdD | with_reducible apply nxA | with_reducible refine Below.setCell ?_ (p := ⟨_, _, none⟩) ?_ _ | (dsimp only; omega))))
      case rest =>
        obtain ⟨gp, ga, rfl, rfl, ⟨hgp, hga, hbp, hba⟩, hb5⟩ := hcut
        obtain ⟨WX, hWX⟩ : ∃ W, W = wc := ⟨_, rfl⟩
        subst hWX
        have HX : Hid (∀ W, Below WX.heap.size WX W → Blk W W1.heap.size [.string s, .int .i64 k, .int .i64 u, .int .i64 h] ∧ Blk W gp [.int .i64 p1, .int .i64 p2, .int .i64 p3] ∧ Blk W ga [.int .i64 m, .int .i64 v] ∧ HRd W A2 D ∧ Below WA.heap.size WA W ∧ Vars W) := Lib.hid (fun W hW => ⟨hK.out.up (nx hb5 hW) hK.out.lt, hbp.up hW hbp.lt, hba.up hW hba.lt, hO.out.below (nx hb5 hW), nx hB.out (nx hb5 hW), HV.out.below (nx HBA.out (nx hB.out (nx hb5 hW)))⟩)
        have hx0 := HX.out _ (Below.refl _ _)
        have j0 := hx0.1.cell 0 rfl
        have j1 := hx0.1.cell 1 rfl
        have j2 := hx0.1.cell 2 rfl
        have j3 := hx0.1.cell 3 rfl
        have j4 := hx0.2.1.cell 0 rfl
        have j5 := hx0.2.1.cell 1 rfl
        have j6 := hx0.2.1.cell 2 rfl
        have j7 := hx0.2.2.1.cell 0 rfl
        have j8 := hx0.2.2.1.cell 1 rfl
        clear hbp hba hb5 hgp hga hx0 c1 HXS
        have hok2 := (step_ok HSH.out HOK.out x).1
        by_cases hroom : RoomH k u D (p1, p2, p3) (m, v)
        · have hst : stepM k u D x = setH D (p1, p2, p3) (m, v) := by unfold stepM; rw [hp.out, ham.out, if_pos hroom]
          have HST := Lib.hid hst
          have HRM : Hid (∀ W : World, Vars W → HRd W A2 D → Calls Tryd.prog 28 #[ra s k u h, .slice A2 q c2, .agg #[.int .i64 p1, .int .i64 p2, .int .i64 p3], .agg #[.int .i64 m, .int .i64 v]] W fun e w' => e = .returned (.bool true) ∧ Below W.heap.size W w') := Lib.hid (fun W hv hh => hroom_is s k u h A2 q c2 D p1 p2 p3 m v W hv hh hL hqc hq8 (Lib.hid ⟨fun _ => rfl, fun _ => hroom⟩))
          obtain ⟨E, hE⟩ : ∃ E, Hid (setH D (p1, p2, p3) (m, v) = E) := ⟨_, Lib.hid rfl⟩
          obtain ⟨r, hr⟩ : ∃ r, Hid (E.length = r) := ⟨_, Lib.hid rfl⟩
          have HVE : Hid (VH k u E) := Lib.hid (by rw [hst, hE.out] at hok2; exact hok2)
          have hr10 : Hid (r ≤ 1000) := Lib.hid (by have h1 := HVE.out.2.1; rw [hr.out] at h1; omega)
          have HSN : Hid (madeL k u (x1.take (j + 1)) = E) := Lib.hid (by rw [hsn.out, HST.out, hE.out])
          have HSTC : Hid (∀ W : World, HRd W A2 D → Calls Tryd.prog 20 #[.slice A2 q c2, .agg #[.int .i64 p1, .int .i64 p2, .int .i64 p3], .agg #[.int .i64 m, .int .i64 v]] W fun e w' => (∃ A' c', e = .returned (.slice A' r c') ∧ r ≤ c' ∧ HRd w' A' E) ∧ Below W.heap.size W w') := Lib.hid (fun W hh => (hset_is A2 q c2 D p1 p2 p3 m v W hh hL hq8).mono fun e w' ⟨⟨V, hV, ho⟩, hb⟩ => by
            rw [hE.out] at ho
            obtain ⟨A', c', hv, hc, hr', -⟩ := ho.form
            rw [hr.out] at hc
            exact ⟨⟨A', c', by rw [hV, hv, hr.out], hc, hr'⟩, hb⟩)
          clear hroom hst hok2
          go_wp2_with (first
            | (go_at_call 28; refine (HRM.out _ (HX.out _ (Below.refl _ _)).2.2.2.2.2 (HX.out _ (Below.refl _ _)).2.2.2.1).mono ?_; rintro e W6 ⟨rfl, hb6⟩; have HB6 := Lib.hid hb6; have hx6 := HX.out _ hb6; have l4 := hx6.2.1.cell 0 rfl; have l5 := hx6.2.1.cell 1 rfl; have l6 := hx6.2.1.cell 2 rfl; have l7 := hx6.2.2.1.cell 0 rfl; have l8 := hx6.2.2.1.cell 1 rfl; clear hb6 hx6)
            | (go_at_call 20; refine (HSTC.out _ (HX.out _ HB6.out).2.2.2.1).mono ?_; rintro e W7 ⟨⟨A7, c7, rfl, hc7, hr7⟩, hb7⟩; have HC7 := Lib.hid hc7; have HRD7 := Lib.hid hr7; have HB7 := Lib.hid (nx HB6.out hb7); have hx7 := HX.out _ HB7.out; have y0 := hx7.1.cell 0 rfl; have y1 := hx7.1.cell 1 rfl; have y2 := hx7.1.cell 2 rfl; have y3 := hx7.1.cell 3 rfl; clear hb7 hr7 hx7 hc7)
            | (go_at_call 13; refine (refValid_yes s k u h A7 r c7 E _ HRD7.out hr hr10 HVE).mono ?_; rintro e W8 ⟨rfl, hb8⟩; have HRD8 := Lib.hid (HRD7.out.below hb8); have HB8 := Lib.hid (nx HB7.out hb8); clear hb8))
          go_roundw
          case rel => exact ⟨j + 1, r, c7, A7, by omega, by go_num, rfl, HC7.out, by rw [HSN.out]; exact hr, by rw [HSN.out]; exact HRD8, Lib.hid (HX.out _ HB8.out).2.2.2.2.1⟩
          case measure => simp [intOf]; omega
        · have hst : stepM k u D x = D := by unfold stepM; rw [hp.out, ham.out, if_neg hroom]
          have HST := Lib.hid hst
          have HVE : Hid (VH k u D) := Lib.hid HOK.out.1
          have hq10 : Hid (q ≤ 1000) := Lib.hid (by have := hq8.out; omega)
          have HSN : Hid (madeL k u (x1.take (j + 1)) = D) := Lib.hid (by rw [hsn.out, HST.out])
          have HRM : Hid (∀ W : World, Vars W → HRd W A2 D → Calls Tryd.prog 28 #[ra s k u h, .slice A2 q c2, .agg #[.int .i64 p1, .int .i64 p2, .int .i64 p3], .agg #[.int .i64 m, .int .i64 v]] W fun e w' => e = .returned (.bool false) ∧ Below W.heap.size W w') := Lib.hid (fun W hv hh => hroom_is s k u h A2 q c2 D p1 p2 p3 m v W hv hh hL hqc hq8 (Lib.hid ⟨fun h => absurd h hroom, fun h => by cases h⟩))
          clear hroom hst hok2
          go_wp2_with (first
            | (go_at_call 28; refine (HRM.out _ (HX.out _ (Below.refl _ _)).2.2.2.2.2 (HX.out _ (Below.refl _ _)).2.2.2.1).mono ?_; rintro e W6 ⟨rfl, hb6⟩; have HB6 := Lib.hid hb6; have hx6 := HX.out _ hb6; have y0 := hx6.1.cell 0 rfl; have y1 := hx6.1.cell 1 rfl; have y2 := hx6.1.cell 2 rfl; have y3 := hx6.1.cell 3 rfl; clear hb6 hx6)
            | (go_at_call 13; refine (refValid_yes s k u h A2 q c2 D _ (HX.out _ HB6.out).2.2.2.1 hL hq10 HVE).mono ?_; rintro e W8 ⟨rfl, hb8⟩; have HB8 := Lib.hid (nx HB6.out hb8); clear hb8))
          go_roundw
          case rel => exact ⟨j + 1, q, c2, A2, by omega, by go_num, rfl, hqc, by rw [HSN.out]; exact hL, by rw [HSN.out]; exact Lib.hid (HX.out _ HB8.out).2.2.2.1, Lib.hid (HX.out _ HB8.out).2.2.2.2.1⟩
          case measure => simp [intOf]; omega
    · have hjn : j = n1 := by omega
      have HDE : Hid (madeL k u x1 = D) := Lib.hid (by rw [← hD.out, List.take_of_length_le (by rw [hn.out]; omega)])
      rw [HDE.out, hL.out] at HMD
      have hq10 : Hid (q ≤ 1000) := Lib.hid (by have := hq8.out; omega)
      clear hjn
      go_wp2_with (first
        | (go_at_call 11; refine (awakeH_any _ (HV.out.below (nx HBA.out hB.out))).mono ?_; rintro e W8 ⟨rfl, hb8⟩; have HB8 := Lib.hid (nx hB.out hb8); have HRD8 := Lib.hid (hO.out.below hb8); have hx8 := HKA.out.up HB8.out HKA.out.lt; have l0 := hx8.cell 0 rfl; have l1 := hx8.cell 1 rfl; have l2 := hx8.cell 2 rfl; have l3 := hx8.cell 3 rfl; clear hb8 hx8)
        | (go_at_call 24; refine (HMD.out _ HB8.out).mono ?_; rintro e W9 ⟨⟨A9, c9, rfl, -, hr9⟩, hb9⟩; have HRD9 := Lib.hid hr9; have HRD89 := Lib.hid (HRD8.out.below hb9); have HB9 := Lib.hid (nx HB8.out hb9); clear hb9 hr9)
        | (go_at_call 19; refine (sameHolds_yes A2 A9 q c2 c9 D _ HRD89.out HRD9.out hL hq10).mono ?_; rintro e W10 ⟨rfl, hb10⟩; have HB10 := Lib.hid (nx HB9.out hb10); clear hb10))
      go_ret
      exact ⟨rfl, nx HBA.out HB10.out⟩
end Go.Proofs.YthclgccgkdijbaaDoor
