/- HoldersYield walked. -/
import Derived.Test.YthclgccgkdijbaaDoorHaw
import Derived.Test.YthclgccgkdijbaaDoorHmd
import Derived.Test.YthclgccgkdijbaaDoorHopen
import Derived.Deep.CutRange
namespace Go.Proofs.YthclgccgkdijbaaDoor
open Go.RowKit
set_option linter.unusedVariables false
set_option linter.unusedSimpArgs false

theorem agR_len9 {k u : Int} {l : List Hd} {p : Pr3} {a : P2} {L : List Pr3} (h : AgR k u l p a L) : L.length ≤ l.length := by
  by_cases hs : SenH k u l p a ∧ ¬ RoomH k u l p a
  · rw [← h.1 hs, prsH, List.length_map]
    exact Nat.le_trans (List.length_filter_le _ _) (delH_len l p)
  · rw [h.2 hs]
    exact Nat.zero_le _
theorem dels_snoc (l : List Hd) (ps : List Pr3) (p : Pr3) : delsH l (ps ++ [p]) = delH (delsH l ps) p := by simp [delsH]
theorem pcs_len : pcs.length ≤ 8 := by decide
set_option maxHeartbeats 16000000 in
set_option maxRecDepth 20000 in
theorem HoldersYield_walk (a0 : Int) (A1 : Option Addr) (n1 c1 : Nat) (x1 : List Int) (a2 : Int) (a3 : Int) (w : World) (hV : Vars w) (w0 : (Lit.int .i64 a0).wf = true) (w1 : InI w A1 n1 c1 x1) (w2 : (Lit.int .i64 a2).wf = true) (w3 : (Lit.int .i64 a3).wf = true) :
    Calls Tryd.prog 8 #[.int .i64 a0, .slice A1 n1 c1, .int .i64 a2, .int .i64 a3] w fun e w' => e = .returned (.bool true) ∧ Below w.heap.size w w' := by
  have HV := Lib.hid hV
  have HI := Lib.hid w1.rd
  have hn : Hid (x1.length = n1) := w1.len
  have hwf : Hid (∀ x ∈ x1, (Lit.int .i64 x).wf = true) := Lib.hid w1.wf
  have hw0 : Hid ((Lit.int .i64 a0).wf = true) := w0
  have hw2 : Hid ((Lit.int .i64 a2).wf = true) := w2
  have hw3 : Hid ((Lit.int .i64 a3).wf = true) := w3
  have mixed : Tryd.prog.follows .mixedOrders = true := by kernel_rfl
  clear hV w0 w1 w2 w3
  by_cases h300 : (n1 : Int) ≤ 300
  case neg =>
    clear hn hwf hw0 HI
    go_enter Tryd.func8, Tryd.ntmps8
    go_wp2_with (first
      | (go_at_call 22; refine (light_no A1 n1 c1 _ h300).mono ?_; rintro e W1 ⟨rfl, rfl⟩)
      | (go_at_call 11; refine (awakeH_any _ HV.out).mono ?_; rintro e W1 ⟨rfl, hb1⟩; have HB1 := Lib.hid hb1; clear hb1))
    go_ret
    exact ⟨rfl, HB1.out⟩
  have hn3 : Hid (n1 ≤ 300) := Lib.hid (by omega)
  obtain ⟨p1, p2, p3, hpx⟩ : ∃ p1 p2 p3, Hid (pcN a2 = (p1, p2, p3)) := ⟨_, _, _, Lib.hid rfl⟩
  go_enter Tryd.func8, Tryd.ntmps8
  go_upto_region 4 with (first
    | (go_at_call 22; refine (light_yes A1 n1 c1 _ h300).mono ?_; rintro e W1 ⟨rfl, rfl⟩)
    | (go_at_call 23; refine (resource_any a0 _ hw0).mono ?_; rintro e W1 ⟨⟨s, k, u, h, hsh, rfl⟩, hb1⟩; have HSH := Lib.hid hsh; have HB1 := Lib.hid hb1; clear hb1 hsh))
  obtain ⟨WA, hWA⟩ : ∃ WA, Hid (W1.alloc (.cells #[.string s, .int .i64 k, .int .i64 u, .int .i64 h] 23) = WA) := ⟨_, Lib.hid rfl⟩
  have HKA : Hid (Blk WA W1.heap.size [.string s, .int .i64 k, .int .i64 u, .int .i64 h]) := Lib.hid (by rw [← hWA.out]; exact Blk.new W1 _ _ rfl)
  have HBA : Hid (Below w.heap.size w WA) := Lib.hid (by rw [← hWA.out]; exact nxA HB1.out _)
  rw [hWA.out]
  have HMD : Hid (∀ W, Below WA.heap.size WA W → Calls Tryd.prog 24 #[ra s k u h, .slice A1 n1 c1] W fun e w' => (∃ A' c', e = .returned (.slice A' (madeL k u x1).length c') ∧ (madeL k u x1).length ≤ c' ∧ HRd w' A' (madeL k u x1)) ∧ Below W.heap.size W w') := Lib.hid (fun W hW => (made_is s k u h A1 n1 c1 x1 W (HI.out.below (nx HBA.out hW)) hn hn3 hwf HSH).mono fun e w' ⟨⟨V, hV, ho⟩, hb⟩ => by
    obtain ⟨A', c', hv, hc, hr, -⟩ := ho.form
    exact ⟨⟨A', c', by rw [hV, hv], hc, hr⟩, hb⟩)
  obtain ⟨D, hD⟩ : ∃ D, Hid (madeL k u x1 = D) := ⟨_, Lib.hid rfl⟩
  have HOK : Hid (VH k u D ∧ ∀ x ∈ D, x.1 ∈ pcs) := Lib.hid (by rw [← hD.out]; exact made_ok HSH.out x1)
  obtain ⟨q, hq⟩ : ∃ q, Hid (D.length = q) := ⟨_, Lib.hid rfl⟩
  have hq9 : Hid (q ≤ 900) := Lib.hid (by have := HOK.out.1.2.1; rw [hq.out] at this; omega)
  have hq10 : Hid (q ≤ 1000) := Lib.hid (by have := hq9.out; omega)
  rw [hD.out, hq.out] at HMD
  obtain ⟨m, v, hav⟩ : ∃ m v, Hid (amN k u a3 = (m, v)) := ⟨_, _, Lib.hid rfl⟩
  have hfit : fit k u m v = true := by have h1 := amN_fit a3 HSH.out; rw [hav.out] at h1; exact h1
  have hval : vpP (p1, p2, p3) = true := by have h1 := pcN_valid a2; rw [hpx.out] at h1; exact h1
  have hmem : (p1, p2, p3) ∈ pcs := by have h1 := pcN_mem a2; rw [hpx.out] at h1; exact h1
  have hsen : SenH k u D (p1, p2, p3) (m, v) := ⟨HOK.out.1, hval, hfit⟩
  have hl7 := room_len pcs_len HOK.out.1.2.2.2.1 HOK.out.2 hmem
  obtain ⟨L, hL⟩ := agR_ex k u D (p1, p2, p3) (m, v)
  obtain ⟨b1, hb1⟩ := bool_ex (RoomH k u D (p1, p2, p3) (m, v))
  have hLb : Hid ((b1 = true → L = []) ∧ (b1 = false → L ≠ [])) := Lib.hid (by
    refine ⟨fun hb => hL.out.2 (fun h => h.2 (hb1.out.2 hb)), fun hb h0 => ?_⟩
    have hnr : ¬ RoomH k u D (p1, p2, p3) (m, v) := fun h => by have := hb1.out.1 h; rw [hb] at this; cases this
    have h1 := hL.out.1 ⟨hsen, hnr⟩
    rw [h0] at h1
    exact room_iff HOK.out.1 hval hfit hl7 hnr (List.map_eq_nil_iff.1 h1))
  have HYI : Hid (RoomH k u (delsH D L) (p1, p2, p3) (m, v)) := Lib.hid (by
    by_cases hr : RoomH k u D (p1, p2, p3) (m, v)
    · rw [hL.out.2 (fun h => h.2 hr)]
      exact hr
    · rw [← hL.out.1 ⟨hsen, hr⟩]
      exact agnH_yield HOK.out.1 hval hfit hl7)
  clear hfit hval hmem hsen hl7
  obtain ⟨lq, hlq⟩ : ∃ lq, Hid (L.length = lq) := ⟨_, Lib.hid rfl⟩
  have hlq9 : Hid (lq ≤ 900) := Lib.hid (by have h1 := agR_len9 hL.out; rw [hlq.out, hq.out] at h1; have := hq9.out; omega)
  have i0 := HKA.out.cell 0 rfl
  have i1 := HKA.out.cell 1 rfl
  have i2 := HKA.out.cell 2 rfl
  have i3 := HKA.out.cell 3 rfl
  clear hwf hn3 HI
  go_upto_region 5 with (first
    | (go_at_call 24; refine (HMD.out _ (Below.refl _ _)).mono ?_; rintro e WR ⟨⟨A2, c2, rfl, hc2, hr2⟩, hb2⟩; have HC2 := Lib.hid hc2; have HRD := Lib.hid hr2; have HBR := Lib.hid hb2; clear hb2 hr2 hc2))
  clear i0 i1 i2 i3
  have HKR := Lib.hid (HKA.out.up HBR.out HKA.out.lt)
  have HXS : Hid (∀ W, Below WR.heap.size WR W → RS4 W W1.heap.size s k u h) := Lib.hid (fun W hW => RS4.of (HKR.out.up hW HKR.out.lt))
  go_cut [11, 12] from 25 to 29 (fun bp ba wx => ∃ gp ga, bp = .pointer (some ⟨gp, 0, none⟩) ∧ ba = .pointer (some ⟨ga, 0, none⟩) ∧ TwoB wx WR.heap.size gp ga p1 p2 p3 m v ∧ Below WR.heap.size WR wx)
  case first =>
    have hcur : Below WR.heap.size WR WR := Below.refl _ _
    go_region_held3 (fun W => RS4 W W1.heap.size s k u h)
      (exact HXS.out _ (by repeat (first | with_reducible exact hcur | with_reducible exact Below.refl _ _ | with_reducible apply bdD | with_reducible apply nxA | with_reducible refine Below.setCell ?_ (p := ⟨_, _, none⟩) ?_ _ | (dsimp only; omega))))
      (first
        | (go_at_call 25; refine (proc_fn a2 _ hw2 hpx).mono ?_; rintro e W1 ⟨rfl, hbb⟩; have hc2 : Below WR.heap.size WR W1 := nx (by repeat (first | with_reducible exact hcur | with_reducible exact Below.refl _ _ | with_reducible apply bdD | with_reducible apply nxA | with_reducible refine Below.setCell ?_ (p := ⟨_, _, none⟩) ?_ _ | (dsimp only; omega))) hbb; (try have HPB := Lib.hid (blk_in (g := WR.heap.size) (cs := zP) hbb (by first | exact Blk.new WR zP _ rfl | exact (Blk.new WR zP _ rfl).grow _))); (try have HPB := Lib.hid (blk_in (g := WR.heap.size + 1) (cs := zP) hbb (by first | exact Blk.new (WR.alloc oA) zP _ (by simp)))); (try have HAB := Lib.hid (blk_in (g := WR.heap.size) (cs := zA) hbb (by first | exact Blk.new WR zA _ rfl | exact (Blk.new WR zA _ rfl).grow _))); (try have HAB := Lib.hid (blk_in (g := WR.heap.size + 1) (cs := zA) hbb (by first | exact Blk.new (WR.alloc oP) zA _ (by simp)))); clear hcur hbb; have hcur := hc2; clear hc2; have hs1 := hcur.size; (try have hlp := HPB.out.lt); (try have hla := HAB.out.lt))
        | (go_at_call 26; refine (amount_fn s k u h a3 _ hw3 HSH hav).mono ?_; rintro e W2 ⟨rfl, hbb⟩; have hc2 : Below WR.heap.size WR W2 := nx (by repeat (first | with_reducible exact hcur | with_reducible exact Below.refl _ _ | with_reducible apply bdD | with_reducible apply nxA | with_reducible refine Below.setCell ?_ (p := ⟨_, _, none⟩) ?_ _ | (dsimp only; omega))) hbb; (first | replace HPB := Lib.hid (blk_in hbb (by first | exact HPB.out | exact HPB.out.grow _ | exact (HPB.out.grow _).grow _)) | have HPB := Lib.hid (blk_in (g := W1.heap.size) (cs := zP) hbb (by first | exact Blk.new W1 zP _ rfl | exact (Blk.new W1 zP _ rfl).grow _)) | have HPB := Lib.hid (blk_in (g := W1.heap.size + 1) (cs := zP) hbb (by first | exact Blk.new (W1.alloc oA) zP _ (by simp))) | skip); (first | replace HAB := Lib.hid (blk_in hbb (by first | exact HAB.out | exact HAB.out.grow _ | exact (HAB.out.grow _).grow _)) | have HAB := Lib.hid (blk_in (g := W1.heap.size) (cs := zA) hbb (by first | exact Blk.new W1 zA _ rfl | exact (Blk.new W1 zA _ rfl).grow _)) | have HAB := Lib.hid (blk_in (g := W1.heap.size + 1) (cs := zA) hbb (by first | exact Blk.new (W1.alloc oP) zA _ (by simp))) | skip); clear hcur hbb; have hcur := hc2; clear hc2; have hs2 := hcur.size; (try (have hq := HPB.out; have u0 := hq.cell 0 rfl; have u1 := hq.cell 1 rfl; have u2 := hq.cell 2 rfl; have uf := hq.fz; have ul := hq.lt; clear hq)); (try (have hq := HAB.out; have y0 := hq.cell 0 rfl; have y1 := hq.cell 1 rfl; have yf := hq.fz; have yl := hq.lt; clear hq))))
    all_goals (go_wp2_with fail; go_meet; refine ⟨_, _, rfl, rfl, twoB_mk ?_ ?_ ?_ ?_, ?_⟩; (first | exact Nat.le_refl _ | omega); (first | exact Nat.le_refl _ | omega); (first | with_reducible exact blk_far (blk_far (blk_sets3 HPB.out _ _ _) (by omega)) (by omega) | with_reducible exact blk_sets3 HPB.out _ _ _ | with_reducible exact (blk_sets3 HPB.out _ _ _).grow _ | with_reducible exact Blk.new _ _ _ (by simp) | with_reducible exact (Blk.new _ _ _ (by simp)).grow _); (first | with_reducible exact blk_sets2 (blk_far (blk_far (blk_far HAB.out (by omega)) (by omega)) (by omega)) _ _ | with_reducible exact blk_sets2 HAB.out _ _ | with_reducible exact (blk_sets2 HAB.out _ _).grow _ | with_reducible exact Blk.new _ _ _ (by simp) | with_reducible exact (Blk.new _ _ _ (by simp)).grow _); exact (by repeat (first | with_reducible exact hcur | with_reducible exact Below.refl _ _ | with_reducible apply bdD | with_reducible apply nxA | with_reducible refine Below.setCell ?_ (p := ⟨_, _, none⟩) ?_ _ | (dsimp only; omega))))
  case rest =>
    obtain ⟨gp, ga, rfl, rfl, ⟨hgp, hga, hbp, hba⟩, hb5⟩ := hcut
    obtain ⟨WX, hWX⟩ : ∃ W, W = wc := ⟨_, rfl⟩
    subst hWX
    have HX : Hid (∀ W, Below WX.heap.size WX W → Blk W W1.heap.size [.string s, .int .i64 k, .int .i64 u, .int .i64 h] ∧ Blk W gp [.int .i64 p1, .int .i64 p2, .int .i64 p3] ∧ Blk W ga [.int .i64 m, .int .i64 v] ∧ HRd W A2 D ∧ Below w.heap.size w W ∧ Vars W) := Lib.hid (fun W hW => ⟨HKR.out.up (nx hb5 hW) HKR.out.lt, hbp.up hW hbp.lt, hba.up hW hba.lt, HRD.out.below (nx hb5 hW), nx HBA.out (nx HBR.out (nx hb5 hW)), HV.out.below (nx HBA.out (nx HBR.out (nx hb5 hW)))⟩)
    have hx0 := HX.out _ (Below.refl _ _)
    have j0 := hx0.1.cell 0 rfl
    have j1 := hx0.1.cell 1 rfl
    have j2 := hx0.1.cell 2 rfl
    have j3 := hx0.1.cell 3 rfl
    have j4 := hx0.2.1.cell 0 rfl
    have j5 := hx0.2.1.cell 1 rfl
    have j6 := hx0.2.1.cell 2 rfl
    have j7 := hx0.2.2.1.cell 0 rfl
    have j8 := hx0.2.2.1.cell 1 rfl
    clear hbp hba hb5 hgp hga hx0
    go_wp2_with (go_at_call 30; refine (hagainst_is s k u h A2 q c2 D p1 p2 p3 m v _ (HX.out _ (Below.refl _ _)).2.2.2.2.2 (HX.out _ (Below.refl _ _)).2.2.2.1 hq HC2.out hq9 hL hlq).mono ?_; rintro e W6 ⟨⟨A6, c6, rfl, hp6⟩, hb6⟩; have HP6 := Lib.hid hp6; have HB6 := Lib.hid hb6; clear hb6 hp6)
    clear j0 j1 j2 j3 j4 j5 j6 j7 j8
    have HRD6 := Lib.hid (HX.out _ HB6.out).2.2.2.1
    go_loopw [14, 15] (fun V i wr => ∃ (j r c3 : Nat) (A3 : Option Addr), j ≤ lq ∧ i = .int .i64 j ∧ V = .slice A3 r c3 ∧ r ≤ c3 ∧ Hid ((delsH D (L.take j)).length = r) ∧ Hid (HRd wr A3 (delsH D (L.take j))) ∧ Hid (Below WX.heap.size WX wr) ∧ Hid (Below W6.heap.size W6 wr)) (fun _ i _ => lq - (intOf i).toNat)
    case atStart => exact ⟨0, q, c2, A2, by omega, rfl, rfl, HC2.out, Lib.hid (by rw [List.take_zero]; exact hq.out), Lib.hid (by rw [List.take_zero]; exact HRD6.out), HB6, Below.refl _ _⟩
    case round =>
      obtain ⟨j, r, c3, A3, hj, rfl, rfl, hrc, hdl, hrd, hB, hB6⟩ := hrel
      obtain ⟨WS, hWS⟩ : ∃ W, W = wr := ⟨_, rfl⟩
      subst hWS
      obtain ⟨D2, hD2⟩ : ∃ D2, Hid (delsH D (L.take j) = D2) := ⟨_, Lib.hid rfl⟩
      rw [hD2.out] at hdl hrd
      have hrq : r ≤ q := by have h1 := (delsH_sub (L.take j) D).length_le; rw [hD2.out, hdl.out, hq.out] at h1; exact h1
      have hr9 : Hid (r ≤ 900) := Lib.hid (by have := hq9.out; omega)
      by_cases hlt : (j : Int) < (lq : Int)
      · have hlt' : j < lq := by omega
        obtain ⟨g, o, x, y, z, rfl, hg, hx, e1, e2, e3⟩ := (HP6.out.below hB6.out).at_ (i := j) (by rw [hlq.out]; exact hlt')
        have e5 : IntKind.i64.wrap ((j : Int) + 1) = (j : Int) + 1 := by have := hlq9.out; rw [IntKind.wrap_i64]; omega
        obtain ⟨E2, hE2⟩ : ∃ E2, Hid (setH D2 (x, y, z) (0, 0) = E2) := ⟨_, Lib.hid rfl⟩
        have hsn : Hid (delsH D (L.take (j + 1)) = E2) := Lib.hid (by
          have h1 : L.take (j + 1) = L.take j ++ [(x, y, z)] := by
            rw [List.take_succ_eq_append_getElem (by rw [hlq.out]; exact hlt')]
            congr 2
            have h2 := hx.out
            rw [List.getD_eq_getElem?_getD, List.getElem?_eq_getElem (by rw [hlq.out]; exact hlt')] at h2
            exact h2
          rw [h1, dels_snoc, hD2.out, ← hE2.out, setH_zero])
        obtain ⟨r2, hr2⟩ : ∃ r2, Hid (E2.length = r2) := ⟨_, Lib.hid rfl⟩
        have HST : Hid (∀ W : World, HRd W A3 D2 → Calls Tryd.prog 21 #[.slice A3 r c3, .agg #[.int .i64 x, .int .i64 y, .int .i64 z], .agg #[.int .i64 0, .int .i64 0]] W fun e w' => (∃ A' c', e = .returned (.slice A' r2 c') ∧ r2 ≤ c' ∧ HRd w' A' E2) ∧ Below W.heap.size W w') := Lib.hid (fun W hh => (refSet_is A3 r c3 D2 x y z 0 0 W hh hdl hr9).mono fun e w' ⟨⟨V, hV, ho⟩, hb⟩ => by
          rw [hE2.out] at ho
          obtain ⟨A', c', hv, hc, hr', -⟩ := ho.form
          rw [hr2.out] at hc
          exact ⟨⟨A', c', by rw [hV, hv, hr2.out], hc, hr'⟩, hb⟩)
        go_wp2_with (go_at_call 21; refine (HST.out _ hrd.out).mono ?_; rintro e W7 ⟨⟨A7, c7, rfl, hc7, hr7⟩, hb7⟩; have HC7 := Lib.hid hc7; have HRD7 := Lib.hid hr7; have HB7 := Lib.hid (nx hB.out hb7); have HB67 := Lib.hid (nx hB6.out hb7); clear hb7 hr7 hc7)
        go_roundw
        case rel => exact ⟨j + 1, r2, c7, A7, by omega, by go_num, rfl, HC7.out, by rw [hsn.out]; exact hr2, by rw [hsn.out]; exact HRD7, HB7, HB67⟩
        case measure => simp [intOf]; omega
      · have hjl : j = lq := by omega
        have HDE : Hid (delsH D L = D2) := Lib.hid (by rw [← hD2.out, List.take_of_length_le (by rw [hlq.out]; omega)])
        have HYR : Hid (∀ W : World, Vars W → HRd W A3 D2 → Calls Tryd.prog 28 #[ra s k u h, .slice A3 r c3, .agg #[.int .i64 p1, .int .i64 p2, .int .i64 p3], .agg #[.int .i64 m, .int .i64 v]] W fun e w' => e = .returned (.bool true) ∧ Below W.heap.size W w') := Lib.hid (fun W hv hh => hroom_is s k u h A3 r c3 D2 p1 p2 p3 m v W hv hh hdl hrc hr9 (Lib.hid ⟨fun _ => rfl, fun _ => by rw [← HDE.out]; exact HYI.out⟩))
        have HXR : Hid (∀ W : World, Vars W → HRd W A2 D → Calls Tryd.prog 28 #[ra s k u h, .slice A2 q c2, .agg #[.int .i64 p1, .int .i64 p2, .int .i64 p3], .agg #[.int .i64 m, .int .i64 v]] W fun e w' => e = .returned (.bool b1) ∧ Below W.heap.size W w') := Lib.hid (fun W hv hh => hroom_is s k u h A2 q c2 D p1 p2 p3 m v W hv hh hq HC2.out hq9 hb1)
        have hlz : Hid (((lq : Int) == 0) = b1) := Lib.hid (by
          cases b1 with
          | true => have h1 := hLb.out.1 rfl; have h2 := hlq.out; rw [h1] at h2; rw [← h2]; rfl
          | false =>
            have h1 := hLb.out.2 rfl
            refine beq_eq_false_iff_ne.2 (fun h2 => h1 ?_)
            exact List.eq_nil_of_length_eq_zero (by rw [hlq.out]; omega))
        have hlz1 := hlz.out
        have hbe : ∀ W : World, (binOp .eql 4 (.bool b1) (.bool b1)).run Tryd.prog W = .ok (.bool true) W := fun W => by cases b1 <;> kernel_rfl
        have tok : True := trivial
        clear hjl
        go_wp2_with (first
          | (go_at_call 11; refine (awakeH_any _ (HX.out _ hB.out).2.2.2.2.2).mono ?_; rintro e W8 ⟨rfl, hb8⟩; have HB8 := Lib.hid (nx hB.out hb8); have HRD8 := Lib.hid (hrd.out.below hb8); clear hb8; have hx8 := HX.out _ HB8.out; have l80 := hx8.1.cell 0 rfl; have l81 := hx8.1.cell 1 rfl; have l82 := hx8.1.cell 2 rfl; have l83 := hx8.1.cell 3 rfl; have l84 := hx8.2.1.cell 0 rfl; have l85 := hx8.2.1.cell 1 rfl; have l86 := hx8.2.1.cell 2 rfl; have l87 := hx8.2.2.1.cell 0 rfl; have l88 := hx8.2.2.1.cell 1 rfl; clear hx8)
          | (go_at_call 28; have _t := tok; (with_reducible refine (HXR.out _ (HX.out _ HB8.out).2.2.2.2.2 (HX.out _ HB8.out).2.2.2.1).mono ?_); rintro e W9 ⟨rfl, hb9⟩; have HB9 := Lib.hid (nx HB8.out hb9); have HRD9 := Lib.hid (HRD8.out.below hb9); clear hb9 tok _t; have hx9 := HX.out _ HB9.out; have l90 := hx9.1.cell 0 rfl; have l91 := hx9.1.cell 1 rfl; have l92 := hx9.1.cell 2 rfl; have l93 := hx9.1.cell 3 rfl; have l94 := hx9.2.1.cell 0 rfl; have l95 := hx9.2.1.cell 1 rfl; have l96 := hx9.2.1.cell 2 rfl; have l97 := hx9.2.2.1.cell 0 rfl; have l98 := hx9.2.2.1.cell 1 rfl; clear hx9)
          | (go_at_call 28; (with_reducible refine (HYR.out _ (HX.out _ HB9.out).2.2.2.2.2 HRD9.out).mono ?_); rintro e W10 ⟨rfl, hb10⟩; have HB10 := Lib.hid (nx HB9.out hb10); clear hb10))
        go_ret
        exact ⟨rfl, (HX.out _ HB10.out).2.2.2.2.1⟩
end Go.Proofs.YthclgccgkdijbaaDoor
