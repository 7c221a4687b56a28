/- Contract of the law's made: grants made by numbers. -/
import Derived.Test.YthclgccgkdijbaaDoorHpa
import Derived.Test.YthclgccgkdijbaaDoorOpenI
import Derived.Deep.CutRange
namespace Go.Proofs.YthclgccgkdijbaaDoor
open Go.RowKit
open Go.Sort (grow)
set_option linter.unusedVariables false
set_option linter.unusedSimpArgs false

set_option maxHeartbeats 16000000 in
set_option maxRecDepth 20000 in
theorem made_is (s : ByteArray) (k u hm : Int) (A : Option Addr) (n c : Nat) (xs : List Int) (w : World) (hI : IRd w A xs) (hn : Hid (xs.length = n)) (hn3 : Hid (n ≤ 300)) (hwf : Hid (∀ x ∈ xs, (Lit.int .i64 x).wf = true)) (hsh : Hid (shp k u = true)) :
    Calls Tryd.prog 24 #[ra s k u hm, .slice A n c] w fun e w' => (∃ V, e = .returned V ∧ OwnH w' w.heap.size V (madeL k u xs)) ∧ Below w.heap.size w w' := by
  have HI := Lib.hid hI
  have HK0 := Lib.hid (Blk.new w [.string s, .int .i64 k, .int .i64 u, .int .i64 hm] 23 rfl)
  have mixed : Tryd.prog.follows .mixedOrders = true := by kernel_rfl
  clear hI
  go_enter Tryd.func24, Tryd.ntmps24
  go_wp2
  go_loopw [5, 6] (fun V i wr => ∃ (j q c2 : Nat) (A2 : Option Addr), j ≤ n ∧ i = .int .i64 j ∧ V = .slice A2 q c2 ∧ Hid ((madeL k u (xs.take j)).length = q) ∧ Hid (OwnH wr (w.heap.size + 1) (.slice A2 q c2) (madeL k u (xs.take j))) ∧ Hid (Blk wr w.heap.size [.string s, .int .i64 k, .int .i64 u, .int .i64 hm]) ∧ Hid (Below w.heap.size w wr)) (fun _ i _ => n - (intOf i).toNat)
  case atStart => exact ⟨0, 0, 0, none, by omega, rfl, rfl, Lib.hid (by rw [List.take_zero]; rfl), Lib.hid (by rw [List.take_zero]; exact OwnH.nil _ _), HK0, newB _ _⟩
  case round =>
    obtain ⟨j, q, c2, A2, hj, rfl, rfl, hL, hO, hK, hB⟩ := hrel
    obtain ⟨WR, hWR⟩ : ∃ W, W = wr := ⟨_, rfl⟩
    subst hWR
    obtain ⟨D, hD⟩ : ∃ D, Hid (madeL k u (xs.take j) = D) := ⟨_, Lib.hid rfl⟩
    rw [hD.out] at hL hO
    have hok := made_ok hsh.out (xs.take j)
    rw [hD.out] at hok
    have HOK := Lib.hid hok
    clear hok
    by_cases hlt : (j : Int) < (n : Int)
    · have hlt' : j < n := by omega
      have e5 : IntKind.i64.wrap ((j : Int) + 1) = (j : Int) + 1 := by have := hn3.out; rw [IntKind.wrap_i64]; omega
      obtain ⟨g, o, rfl, hg, c1⟩ := (HI.out.below hB.out).at_ (i := j) (by rw [hn.out]; exact hlt')
      obtain ⟨x, hx⟩ : ∃ x, Hid (xs.getD j 0 = x) := ⟨_, Lib.hid rfl⟩
      rw [hx.out] at c1
      have hwx : Hid ((Lit.int .i64 x).wf = true) := Lib.hid (by
        rw [← hx.out, List.getD_eq_getElem?_getD, List.getElem?_eq_getElem (by rw [hn.out]; exact hlt')]
        exact hwf.out _ (List.getElem_mem _))
      have hwy : Hid ((Lit.int .i64 (x / 8)).wf = true) := Lib.hid (wf_divs hwx.out).2.1
      have hsn : Hid (madeL k u (xs.take (j + 1)) = stepM k u D x) := Lib.hid (by
        have h1 : xs.take (j + 1) = xs.take j ++ [x] := by
          rw [List.take_succ_eq_append_getElem (by rw [hn.out]; exact hlt')]
          congr 2
          rw [← hx.out, List.getD_eq_getElem?_getD, List.getElem?_eq_getElem (by rw [hn.out]; exact hlt')]
          rfl
        rw [h1, made_snoc, hD.out])
      obtain ⟨p1, p2, p3, hp⟩ : ∃ p1 p2 p3, Hid (pcN x = (p1, p2, p3)) := ⟨_, _, _, Lib.hid rfl⟩
      obtain ⟨m, v, ham⟩ : ∃ m v, Hid (amN k u (x / 8) = (m, v)) := ⟨_, _, Lib.hid rfl⟩
      have HXS : Hid (∀ W, Below WR.heap.size WR W → RS4 W w.heap.size s k u hm ∧ (W.cell? ⟨g, o + j, none⟩ = some (.int .i64 x))) := Lib.hid (fun W hW => ⟨RS4.of (hK.out.up hW hK.out.lt), (hW.cell (p := ⟨g, o + j, none⟩) hg).trans c1⟩)
      go_upto_region 5 with fail
      go_cut [7, 8] from 15 to 26 (fun bp ba wx => ∃ gp ga, bp = .pointer (some ⟨gp, 0, none⟩) ∧ ba = .pointer (some ⟨ga, 0, none⟩) ∧ TwoB wx WR.heap.size gp ga p1 p2 p3 m v ∧ Below WR.heap.size WR wx)
      case first =>
        have hcur : Below WR.heap.size WR WR := Below.refl _ _
        clear c1
        go_region_held3 (fun W => RS4 W w.heap.size s k u hm ∧ (W.cell? ⟨g, o + j, none⟩ = some (.int .i64 x)))
        (exact HXS.out _ (by repeat (first | with_reducible exact hcur | with_reducible exact Below.refl _ _ | with_reducible apply bdD | with_reducible apply nxA | with_reducible refine Below.setCell ?_ (p := ⟨_, _, none⟩) ?_ _ | (dsimp only; omega))))
        (first
          | (go_at_call 25; refine (proc_fn x _ hwx hp).mono ?_; rintro e W1 ⟨rfl, hbb⟩; have hc2 : Below WR.heap.size WR W1 := nx (by repeat (first | with_reducible exact hcur | with_reducible exact Below.refl _ _ | with_reducible apply bdD | with_reducible apply nxA | with_reducible refine Below.setCell ?_ (p := ⟨_, _, none⟩) ?_ _ | (dsimp only; omega))) hbb; (try have HPB := Lib.hid (blk_in (g := WR.heap.size) (cs := zP) hbb (by first | exact Blk.new WR zP _ rfl | exact (Blk.new WR zP _ rfl).grow _))); (try have HPB := Lib.hid (blk_in (g := WR.heap.size + 1) (cs := zP) hbb (by first | exact Blk.new (WR.alloc oA) zP _ (by simp)))); (try have HAB := Lib.hid (blk_in (g := WR.heap.size) (cs := zA) hbb (by first | exact Blk.new WR zA _ rfl | exact (Blk.new WR zA _ rfl).grow _))); (try have HAB := Lib.hid (blk_in (g := WR.heap.size + 1) (cs := zA) hbb (by first | exact Blk.new (WR.alloc oP) zA _ (by simp)))); clear hcur hbb; have hcur := hc2; clear hc2; have hs1 := hcur.size; (try have hlp := HPB.out.lt); (try have hla := HAB.out.lt))
          | (go_at_call 26; refine (amount_fn s k u hm (x / 8) _ hwy hsh ham).mono ?_; rintro e W2 ⟨rfl, hbb⟩; have hc2 : Below WR.heap.size WR W2 := nx (by repeat (first | with_reducible exact hcur | with_reducible exact Below.refl _ _ | with_reducible apply bdD | with_reducible apply nxA | with_reducible refine Below.setCell ?_ (p := ⟨_, _, none⟩) ?_ _ | (dsimp only; omega))) hbb; (first | replace HPB := Lib.hid (blk_in hbb (by first | exact HPB.out | exact HPB.out.grow _ | exact (HPB.out.grow _).grow _)) | have HPB := Lib.hid (blk_in (g := W1.heap.size) (cs := zP) hbb (by first | exact Blk.new W1 zP _ rfl | exact (Blk.new W1 zP _ rfl).grow _)) | have HPB := Lib.hid (blk_in (g := W1.heap.size + 1) (cs := zP) hbb (by first | exact Blk.new (W1.alloc oA) zP _ (by simp))) | skip); (first | replace HAB := Lib.hid (blk_in hbb (by first | exact HAB.out | exact HAB.out.grow _ | exact (HAB.out.grow _).grow _)) | have HAB := Lib.hid (blk_in (g := W1.heap.size) (cs := zA) hbb (by first | exact Blk.new W1 zA _ rfl | exact (Blk.new W1 zA _ rfl).grow _)) | have HAB := Lib.hid (blk_in (g := W1.heap.size + 1) (cs := zA) hbb (by first | exact Blk.new (W1.alloc oP) zA _ (by simp))) | skip); clear hcur hbb; have hcur := hc2; clear hc2; have hs2 := hcur.size; (try (have hq := HPB.out; have u0 := hq.cell 0 rfl; have u1 := hq.cell 1 rfl; have u2 := hq.cell 2 rfl; have uf := hq.fz; have ul := hq.lt; clear hq)); (try (have hq := HAB.out; have y0 := hq.cell 0 rfl; have y1 := hq.cell 1 rfl; have yf := hq.fz; have yl := hq.lt; clear hq))))
        all_goals (go_wp2_with fail; go_meet; refine ⟨_, _, rfl, rfl, twoB_mk ?_ ?_ ?_ ?_, ?_⟩; (first | exact Nat.le_refl _ | omega); (first | exact Nat.le_refl _ | omega); (first | with_reducible exact blk_far (blk_far (blk_sets3 HPB.out _ _ _) (by omega)) (by omega) | with_reducible exact blk_sets3 HPB.out _ _ _ | with_reducible exact (blk_sets3 HPB.out _ _ _).grow _ | with_reducible exact Blk.new _ _ _ (by simp) | with_reducible exact (Blk.new _ _ _ (by simp)).grow _); (first | with_reducible exact blk_sets2 (blk_far (blk_far (blk_far HAB.out (by omega)) (by omega)) (by omega)) _ _ | with_reducible exact blk_sets2 HAB.out _ _ | with_reducible exact (blk_sets2 HAB.out _ _).grow _ | with_reducible exact Blk.new _ _ _ (by simp) | with_reducible exact (Blk.new _ _ _ (by simp)).grow _); exact (by repeat (first | with_reducible exact hcur | with_reducible exact Below.refl _ _ | with_reducible apply bdD | with_reducible apply nxA | with_reducible refine Below.setCell ?_ (p := ⟨_, _, none⟩) ?_ _ | (dsimp only; omega))))
      case rest =>
        obtain ⟨gp, ga, rfl, rfl, ⟨hgp, hga, hbp, hba⟩, hb5⟩ := hcut
        have HB5 := Lib.hid (nx hB.out hb5)
        have HK5 := Lib.hid (hK.out.up hb5 hK.out.lt)
        have HO5 := Lib.hid (hO.out.below hb5)
        obtain ⟨A3, c3, hv3, -, hrd3, -⟩ := HO5.out.form
        obtain ⟨rfl, rfl⟩ : A2 = A3 ∧ c2 = c3 := by rw [hL.out] at hv3; simpa using hv3
        have HRD5 := Lib.hid hrd3
        have HBP := Lib.hid hbp
        have HBA := Lib.hid hba
        have i0 := HK5.out.cell 0 rfl
        have i1 := HK5.out.cell 1 rfl
        have i2 := HK5.out.cell 2 rfl
        have i3 := HK5.out.cell 3 rfl
        have i4 := hbp.cell 0 rfl
        have i5 := hbp.cell 1 rfl
        have i6 := hbp.cell 2 rfl
        have i7 := hba.cell 0 rfl
        have i8 := hba.cell 1 rfl
        have hq8 : Hid (q ≤ 900) := Lib.hid (by have h1 := HOK.out.1.2.1; rw [hL.out] at h1; omega)
        clear hv3 hrd3 hbp hba hb5 c1 HXS
        have hgw := HK5.out.lt
        by_cases hroom : RoomH k u D (p1, p2, p3) (m, v)
        · have hst : Hid (stepM k u D x = setH D (p1, p2, p3) (m, v)) := Lib.hid (by unfold stepM; rw [hp.out, ham.out, if_pos hroom])
          have HRM : Hid (∀ W : World, HRd W A2 D → Calls Tryd.prog 29 #[ra s k u hm, .slice A2 q c2, .agg #[.int .i64 p1, .int .i64 p2, .int .i64 p3], .agg #[.int .i64 m, .int .i64 v]] W fun e w' => e = .returned (.bool true) ∧ Below W.heap.size W w') := Lib.hid (fun W h => refRoomH_is s k u hm A2 q c2 D p1 p2 p3 m v W h hL hq8 (Lib.hid ⟨fun _ => rfl, fun _ => hroom⟩))
          clear hroom
          go_wp2_with (first
            | (go_at_call 29; refine (HRM.out _ HRD5.out).mono ?_; rintro e W6 ⟨rfl, hb6⟩; have HB6 := Lib.hid (nx HB5.out hb6); have HRD6 := Lib.hid (HRD5.out.below hb6); have HK6 := Lib.hid (HK5.out.up hb6 HK5.out.lt); have hp6 := HBP.out.up hb6 HBP.out.lt; have ha6 := HBA.out.up hb6 HBA.out.lt; have j4 := hp6.cell 0 rfl; have j5 := hp6.cell 1 rfl; have j6 := hp6.cell 2 rfl; have j7 := ha6.cell 0 rfl; have j8 := ha6.cell 1 rfl; clear hb6 hp6 ha6)
            | (go_at_call 21; refine (refSet_is A2 q c2 D p1 p2 p3 m v _ HRD6.out hL hq8).mono ?_; rintro e W7 ⟨⟨V7, rfl, ho7⟩, hb7⟩; rw [← hst.out, ← hsn.out] at ho7; obtain ⟨A7, c7, hv7, -, -, -⟩ := ho7.form; have HO7 := Lib.hid (ho7.low (show w.heap.size + 1 ≤ W6.heap.size from HK6.out.lt)); have HB7 := Lib.hid (nx HB6.out hb7); have HK7 := Lib.hid (HK6.out.up hb7 HK6.out.lt); obtain ⟨q7, hq7⟩ : ∃ q7, Hid ((madeL k u (xs.take (j + 1))).length = q7) := ⟨_, Lib.hid rfl⟩; rw [hq7.out] at hv7; subst hv7; clear hb7 ho7))
          go_roundw
          case rel => exact ⟨j + 1, q7, c7, A7, by omega, by go_num, rfl, hq7, HO7, HK7, HB7⟩
          case measure => simp [intOf]; omega
        · have hst : Hid (stepM k u D x = D) := Lib.hid (by unfold stepM; rw [hp.out, ham.out, if_neg hroom])
          have HRM : Hid (∀ W : World, HRd W A2 D → Calls Tryd.prog 29 #[ra s k u hm, .slice A2 q c2, .agg #[.int .i64 p1, .int .i64 p2, .int .i64 p3], .agg #[.int .i64 m, .int .i64 v]] W fun e w' => e = .returned (.bool false) ∧ Below W.heap.size W w') := Lib.hid (fun W h => refRoomH_is s k u hm A2 q c2 D p1 p2 p3 m v W h hL hq8 (Lib.hid ⟨fun h => absurd h hroom, fun h => by cases h⟩))
          clear hroom
          go_wp2_with (first
            | (go_at_call 29; refine (HRM.out _ HRD5.out).mono ?_; rintro e W6 ⟨rfl, hb6⟩; have HB6 := Lib.hid (nx HB5.out hb6); have HO6 := Lib.hid (HO5.out.below hb6); have HK6 := Lib.hid (HK5.out.up hb6 HK5.out.lt); clear hb6))
          go_roundw
          case rel => exact ⟨j + 1, q, c2, A2, by omega, by go_num, rfl, by rw [hsn.out, hst.out]; exact hL, by rw [hsn.out, hst.out]; exact HO6, HK6, HB6⟩
          case measure => simp [intOf]; omega
    · have hjn : j = n := by omega
      have HE : Hid (madeL k u xs = D) := Lib.hid (by rw [← hD.out, List.take_of_length_le (by rw [hn.out]; omega)])
      go_wp2
      go_ret
      exact ⟨⟨_, rfl, by rw [HE.out]; exact hO.out.low (by omega)⟩, hB.out⟩
end Go.Proofs.YthclgccgkdijbaaDoor
