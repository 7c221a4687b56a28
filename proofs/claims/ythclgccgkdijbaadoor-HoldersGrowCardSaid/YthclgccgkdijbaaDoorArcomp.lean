/- Contracts: whether the amounts of a list may be held together, by the reference. -/
import Derived.Test.YthclgccgkdijbaaDoorAcomp
import Derived.Deep.RegionHeld3
import Derived.Shelf.SlSortCmp.QuietGrown
import Derived.BigQuiet
namespace Go.Proofs.YthclgccgkdijbaaDoor
open Go.RowKit
open Go.Sort (grow)
set_option linter.unusedVariables false
set_option linter.unusedSimpArgs false

theorem bdD {B : Nat} {a w : World} (h : Below B a w) : Below B a w.drew := ⟨h.os, h.tape, h.output, h.size, h.block⟩
abbrev S4 (W : World) (g : Nat) (s : ByteArray) (k u h : Int) : Prop := W.cell? ⟨g, 0, none⟩ = some (.string s) ∧ W.cell? ⟨g, 1, none⟩ = some (.int .i64 k) ∧ W.cell? ⟨g, 2, none⟩ = some (.int .i64 u) ∧ W.cell? ⟨g, 3, none⟩ = some (.int .i64 h)
abbrev S2 (W : World) (g o : Nat) (x y : Int) : Prop := W.cell? ⟨g, o, none⟩ = some (.int .i64 x) ∧ W.cell? ⟨g, o + 1, none⟩ = some (.int .i64 y)
theorem S4.of {w W : World} {g : Nat} {s : ByteArray} {k u h : Int} (hb : Below w.heap.size w W) (hg : g < w.heap.size) (hc : S4 w g s k u h) : S4 W g s k u h :=
  ⟨(hb.cell (p := ⟨g, 0, none⟩) hg).trans hc.1, (hb.cell (p := ⟨g, 1, none⟩) hg).trans hc.2.1, (hb.cell (p := ⟨g, 2, none⟩) hg).trans hc.2.2.1, (hb.cell (p := ⟨g, 3, none⟩) hg).trans hc.2.2.2⟩
theorem S2.of {w W : World} {g o : Nat} {x y : Int} (hb : Below w.heap.size w W) (hg : g < w.heap.size) (hc : S2 w g o x y) : S2 W g o x y :=
  ⟨(hb.cell (p := ⟨g, o, none⟩) hg).trans hc.1, (hb.cell (p := ⟨g, o + 1, none⟩) hg).trans hc.2⟩

set_option maxHeartbeats 1000000 in
theorem refCompat_no (s : ByteArray) (k u h : Int) (V : Value) (w : World) (hs : Hid (shp k u = false)) :
    Calls Tryd.prog 41 #[ra s k u h, V] w fun e w' => e = .returned (.bool false) ∧ Below w.heap.size w w' := by
  go_enter Tryd.func41, Tryd.ntmps41
  go_wp2_with (first
    | (go_at_call 37; refine (refShaped_is _ _ _ _ _ hs).mono ?_; rintro e W1 ⟨rfl, hb1⟩))
  go_ret
  exact ⟨rfl, dn1 hb1⟩
theorem Cmp.upto {k u : Int} {l : List P2} (h : Cmp k u l) (j : Nat) : Cmp k u (l.take j) := by
  rw [← List.take_append_drop j l] at h
  exact h.head

set_option maxHeartbeats 2000000 in
set_option maxRecDepth 8000 in
theorem refCompat_pool (s : ByteArray) (u h : Int) (A : Option Addr) (n c : Nat) (l : List P2) (w : World) (hl : ARd w A l) (hn : Hid (l.length = n)) (hm : Hid (n ≤ 1000)) (hs : Hid (shp 2 u = true)) {r : Bool} (hr : Hid (Cmp 2 u l ↔ r = true)) :
    Calls Tryd.prog 41 #[ra s 2 u h, .slice A n c] w fun e w' => e = .returned (.bool r) ∧ Below w.heap.size w w' := by
  have HR := Lib.hid hl
  clear hl
  have hu : 1 ≤ u ∧ u ≤ 8 := by rcases shp_is hs.out with h | h <;> omega
  have HU := Lib.hid hu
  clear hu
  go_enter Tryd.func41, Tryd.ntmps41
  go_wp2_with (first
    | (go_at_call 37; refine (refShaped_is _ _ _ _ _ hs).mono ?_; rintro e W1 ⟨rfl, hb1⟩; have X1 := Lib.hid ((Q4.new w _ _ _ _ _).below hb1); have B1 := Lib.hid (dn1 hb1); clear hb1))
  go_loopw [5, 6, 7] (fun t i q wr => ∃ (j : Nat) (v : Int), j ≤ n ∧ i = .int .i64 j ∧ t = .int .i64 v ∧ 0 ≤ v ∧ v ≤ 8 ∧ Hid (R4 wr w.heap.size s 2 u h) ∧ Hid (Below w.heap.size w wr) ∧ Hid (v = usum (l.take j)) ∧ Hid (v ≤ u) ∧ Hid (pers 2 u (l.take j))) (fun _ i _ _ => n - (intOf i).toNat)
  case atStart => exact ⟨0, 0, by omega, rfl, rfl, by omega, by omega, X1, B1, by show _ = _; simp [usum], by have := HU.out; show _ ≤ _; omega, by show pers _ _ _; simpa using pers_nil 2 u⟩
  case round =>
    obtain ⟨j, v, hj, rfl, rfl, hv0, hv8, hbx, hbl, hv, hvu, hall⟩ := hrel
    obtain ⟨i0, i1, i2, i3, i4⟩ := hbx.out
    by_cases hlt : (j : Int) < (n : Int)
    · obtain ⟨g, o, x, y, rfl, hg, hxy, c1, c2⟩ := (HR.out.below hbl.out).at_ (i := j) (by have := hn.out; omega)
      have e5 : IntKind.i64.wrap ((j : Int) + 1) = (j : Int) + 1 := by have := hm.out; rw [IntKind.wrap_i64]; omega
      have KP : Hid (∀ W, Below wr.heap.size wr W → Below wr.heap.size wr W ∧ S4 W w.heap.size s 2 u h ∧ S2 W g (o + j * 2) x y) := fun W hW => ⟨hW, S4.of hW i0 ⟨i1, i2, i3, i4⟩, S2.of hW hg ⟨c1, c2⟩⟩
      obtain ⟨p, hp⟩ : ∃ p, Hid (per 2 u x y = p) := ⟨_, rfl⟩
      cases p with
      | false =>
        have hend : Hid (r = false) := by
          show _ = _
          refine not_iff_false hr.out (fun cc => ?_)
          have := pers_at cc.2.1 (j := j) (by have := hn.out; omega) hxy.out
          rw [hp.out] at this
          cases this
        clear i1 i2 i3 i4 c1 c2
        go_wp2
        go_region_held3 (fun W => Below wr.heap.size wr W ∧ S4 W w.heap.size s 2 u h ∧ S2 W g (o + j * 2) x y)
          (first
            | exact KP.out _ (Below.refl _ _)
            | exact KP.out _ (bdD (Below.refl _ _))
            | (go_split_ands; exact KP.out _ (nx (by assumption) hb2)))
          (first
            | (go_at_call 65; refine (refPermitted_is _ _ _ _ _ _ _ hp).mono ?_; rintro e W2 ⟨rfl, hb2⟩))
        all_goals (go_wp2; go_ret; go_split_ands; exact ⟨ret_bool hend.out.symm, nx hbl.out (by assumption)⟩)
      | true =>
        have hy := per_is hp.out
        have hy0 : 0 ≤ y := by omega
        have hy8 : y ≤ 8 := by omega
        clear hy
        have e6 : IntKind.i64.wrap (v + y) = v + y := by rw [IntKind.wrap_i64]; omega
        have hst : Hid (v + y = usum (l.take (j + 1))) := by show _ = _; rw [usum_step (by have := hn.out; omega) hxy.out, hv.out]
        have hall2 : Hid (pers 2 u (l.take (j + 1))) := by
          show pers _ _ _
          rw [take_snoc2 (by have := hn.out; omega), hxy.out]
          exact pers_snoc.2 ⟨hall.out, hp.out⟩
        by_cases hbig : v + y ≤ u
        · have hvu2 : Hid (v + y ≤ u) := hbig
          have hxu : v + y ≤ 8 := by have := HU.out; omega
          clear i1 i2 i3 i4 c1 c2
          go_wp2
          go_region_held3 (fun W => Below wr.heap.size wr W ∧ S4 W w.heap.size s 2 u h ∧ S2 W g (o + j * 2) x y)
            (first
              | exact KP.out _ (Below.refl _ _)
              | exact KP.out _ (bdD (Below.refl _ _))
              | (go_split_ands; exact KP.out _ (nx (by assumption) hb2)))
            (first
              | (go_at_call 65; refine (refPermitted_is _ _ _ _ _ _ _ hp).mono ?_; rintro e W2 ⟨rfl, hb2⟩))
          all_goals (
            go_split_ands
            have hbr := Lib.hid (show Below wr.heap.size wr W2 by assumption)
            go_wp2
            go_roundw
            case rel => exact ⟨j + 1, v + y, by omega, by go_num, rfl, by omega, by omega, hbx.out.below hbr.out, nx hbl.out hbr.out, hst, hvu2, hall2⟩
            case measure => simp [intOf]; omega)
        · have hend : Hid (r = false) := by
            show _ = _
            refine not_iff_false hr.out (fun cc => ?_)
            have := usum_take cc.2.1 (j + 1)
            have := cc.2.2.2 rfl
            have := hst.out
            omega
          clear i1 i2 i3 i4 c1 c2
          go_wp2
          go_region_held3 (fun W => Below wr.heap.size wr W ∧ S4 W w.heap.size s 2 u h ∧ S2 W g (o + j * 2) x y)
            (first
              | exact KP.out _ (Below.refl _ _)
              | exact KP.out _ (bdD (Below.refl _ _))
              | (go_split_ands; exact KP.out _ (nx (by assumption) hb2)))
            (first
              | (go_at_call 65; refine (refPermitted_is _ _ _ _ _ _ _ hp).mono ?_; rintro e W2 ⟨rfl, hb2⟩))
          all_goals (
            go_split_ands
            have hbr := Lib.hid (show Below wr.heap.size wr W2 by assumption)
            go_wp2
            go_ret
            exact ⟨ret_bool hend.out.symm, nx hbl.out hbr.out⟩)
    · have hend : Hid (r = true) := by
        show _ = _
        refine hr.out.1 ⟨hs.out, ?_, fun e => by omega, fun _ => ?_⟩
        · have := hall.out
          rwa [List.take_of_length_le (by have := hn.out; omega)] at this
        · have h1 := hv.out
          have := hvu.out
          rw [List.take_of_length_le (by have := hn.out; omega)] at h1
          omega
      go_wp2
      go_ret
      exact ⟨ret_bool hend.out.symm, hbl.out⟩
theorem below_grow (w : World) (os : Array Obj) : Below w.heap.size w (grow w os) := ⟨rfl, rfl, rfl, by simp, fun _ hk => Go.Sort.heap_grow_old w os hk⟩
theorem refCpt_gro (a b : Int) (w : World) {r : Bool} (hr : Hid (cpt a b = r)) : Calls Tryd.prog 66 #[.int .i64 a, .int .i64 b] w fun e w' => e = .returned (.bool r) ∧ ∃ q os, w' = grow (w.drewN q) os := by
  rw [← hr.out]
  exact (refCpt_any a b w).mono fun e w' ⟨h1, h2⟩ => ⟨h1, 0, #[], by subst h2; rw [World.drewN_zero, Go.Sort.grow_empty]⟩
theorem refZero_gro (m n : Int) (w : World) {r : Bool} (hr : Hid (zer m n = r)) : Calls Tryd.prog 27 #[aa m n] w fun e w' => e = .returned (.bool r) ∧ ∃ q os, w' = grow (w.drewN q) os := by
  have e0 := eqAm m n 0 0
  have hz : Hid (r = (decide (m = 0) && decide (n = 0))) := by show _ = _; rw [← hr.out]; unfold zer; simp
  clear hr
  go_enter Tryd.func27, Tryd.ntmps27
  go_wp2
  go_ret
  exact ⟨ret_bool (by rw [hz.out]), 0, #[_], by rw [World.drewN_zero, Go.Sort.alloc_eq_grow]⟩
theorem fr_is {x y x2 y2 : Int} (hy : y = 0) (hy2 : y2 = 0) : fr (x2, y2) (x, y) = (zer x y || zer x2 y2 || cpt x x2) := by
  unfold fr zer
  subst hy hy2
  rw [Bool.eq_iff_iff, cpt_comm x x2]
  simp
  constructor
  · rintro (h | h | h) <;> simp [h]
  · rintro ((h | h) | h) <;> simp [h]
set_option maxHeartbeats 4000000 in
set_option maxRecDepth 8000 in
theorem refCompat_lock (s : ByteArray) (u h : Int) (A : Option Addr) (n c : Nat) (l : List P2) (w : World) (hl : ARd w A l) (hn : Hid (l.length = n)) (hm : Hid (n ≤ 1000)) (hs : Hid (shp 1 u = true)) {r : Bool} (hr : Hid (Cmp 1 u l ↔ r = true)) :
    Calls Tryd.prog 41 #[ra s 1 u h, .slice A n c] w fun e w' => e = .returned (.bool r) ∧ Below w.heap.size w w' := by
  have HR := Lib.hid hl
  clear hl
  go_enter Tryd.func41, Tryd.ntmps41
  go_wp2_with (first
    | (go_at_call 37; refine (refShaped_is _ _ _ _ _ hs).mono ?_; rintro e W1 ⟨rfl, hb1⟩; have X1 := Lib.hid ((Q4.new w _ _ _ _ _).below hb1); have B1 := Lib.hid (dn1 hb1); clear hb1))
  go_loopw [5, 6, 7] (fun t i q wr => ∃ (j : Nat), j ≤ n ∧ i = .int .i64 j ∧ Hid (R4 wr w.heap.size s 1 u h) ∧ Hid (Below w.heap.size w wr) ∧ Hid (frs (l.take j)) ∧ Hid (pers 1 u (l.take j))) (fun _ i _ _ => n - (intOf i).toNat)
  case atStart => exact ⟨0, by omega, rfl, X1, B1, by show frs _; simpa using frs_nil, by show pers _ _ _; simpa using pers_nil 1 u⟩
  case round =>
    obtain ⟨j, hj, rfl, hbx, hbl, hfrs, hall⟩ := hrel
    obtain ⟨i0, i1, i2, i3, i4⟩ := hbx.out
    by_cases hlt : (j : Int) < (n : Int)
    · obtain ⟨g, o, x, y, rfl, hg, hxy, c1, c2⟩ := (HR.out.below hbl.out).at_ (i := j) (by have := hn.out; omega)
      have e5 : IntKind.i64.wrap ((j : Int) + 1) = (j : Int) + 1 := by have := hm.out; rw [IntKind.wrap_i64]; omega
      have KP : Hid (∀ W, Below wr.heap.size wr W → Below wr.heap.size wr W ∧ S4 W w.heap.size s 1 u h ∧ S2 W g (o + j * 2) x y) := fun W hW => ⟨hW, S4.of hW i0 ⟨i1, i2, i3, i4⟩, S2.of hW hg ⟨c1, c2⟩⟩
      obtain ⟨p, hp⟩ : ∃ p, Hid (per 1 u x y = p) := ⟨_, rfl⟩
      cases p with
      | false =>
        have hend : Hid (r = false) := by
          show _ = _
          refine not_iff_false hr.out (fun cc => ?_)
          have := pers_at cc.2.1 (j := j) (by have := hn.out; omega) hxy.out
          rw [hp.out] at this
          cases this
        clear i1 i2 i3 i4 c1 c2
        go_wp2
        go_region_held3 (fun W => Below wr.heap.size wr W ∧ S4 W w.heap.size s 1 u h ∧ S2 W g (o + j * 2) x y)
          (first
            | exact KP.out _ (Below.refl _ _)
            | exact KP.out _ (bdD (Below.refl _ _))
            | (go_split_ands; exact KP.out _ (nx (by assumption) hb2)))
          (first
            | (go_at_call 65; refine (refPermitted_is _ _ _ _ _ _ _ hp).mono ?_; rintro e W2 ⟨rfl, hb2⟩))
        all_goals (go_wp2; go_ret; go_split_ands; exact ⟨ret_bool hend.out.symm, nx hbl.out (by assumption)⟩)
      | true =>
        have hy : Hid (y = 0) := by have := per_is hp.out; show _ = _; omega
        have hall2 : Hid (pers 1 u (l.take (j + 1))) := by
          show pers _ _ _
          rw [take_snoc2 (by have := hn.out; omega), hxy.out]
          exact pers_snoc.2 ⟨hall.out, hp.out⟩
        obtain ⟨v1, hv1⟩ : ∃ v, Hid (zer x y = v) := ⟨_, rfl⟩
        clear i1 i2 i3 i4 c1 c2
        go_wp2
        go_region_held3 (fun W => Below wr.heap.size wr W ∧ S4 W w.heap.size s 1 u h ∧ S2 W g (o + j * 2) x y)
          (first
            | exact KP.out _ (Below.refl _ _)
            | exact KP.out _ (bdD (Below.refl _ _))
            | (go_split_ands; exact KP.out _ (nx (by assumption) hb2)))
          (first
            | (go_at_call 65; refine (refPermitted_is _ _ _ _ _ _ _ hp).mono ?_; rintro e W2 ⟨rfl, hb2⟩))
        go_split_ands
        have hbr := Lib.hid (show Below wr.heap.size wr W2 by assumption)
        have hbl2 := Lib.hid (nx hbl.out hbr.out)
        have hbx2 := Lib.hid (hbx.out.below hbr.out)
        have hE := Lib.hid (KP.out W2 hbr.out).2.2
        have hg2 := Nat.lt_of_lt_of_le hg hbr.out.size
        go_wp2
        go_loopw [7] (fun q wr2 => ∃ (m : Nat), m ≤ j ∧ q = .int .i64 (m : Int) ∧ Hid (Below W2.heap.size W2 wr2) ∧ Hid (∀ i, i < m → fr (l.getD i default) (x, y) = true)) (fun q _ => j - (intOf q).toNat)
        case atStart => exact ⟨0, by omega, rfl, Below.refl _ _, fun i hi => by omega⟩
        case round =>
          obtain ⟨m, hmj, rfl, hbr2, hno⟩ := hrel
          by_cases hlt2 : (m : Int) < (j : Int)
          · have e6 : IntKind.i64.wrap ((m : Int) + 1) = (m : Int) + 1 := by have := hm.out; rw [IntKind.wrap_i64]; omega
            have e7 : (m : Int) < (n : Int) := by omega
            obtain ⟨g', o', x2, y2, hA, _, hxy2, d1, d2⟩ := ((HR.out.below hbl2.out).below hbr2.out).at_ (i := m) (by have := hn.out; omega)
            obtain ⟨rfl, rfl⟩ : g = g' ∧ o = o' := by simpa using hA
            clear hA
            have hy2 : Hid (y2 = 0) := by
              have h0 : (l.take j).getD m default = (x2, y2) := by rw [getD_take2 (by omega)]; exact hxy2.out
              have := per_is (pers_at hall.out (by rw [List.length_take]; have := hn.out; omega) h0)
              show _ = _; omega
            have HG : Hid (∀ n os, Below wr.heap.size wr (grow (wr.drewN n) os)) := fun n os => (below_drewN wr n).trans ((below_grow _ os).mono (Nat.le_refl _))
            have hgr : g < wr.heap.size := Nat.lt_of_lt_of_le hg2 hbr2.out.size
            obtain ⟨b1, b2⟩ := S2.of hbr2.out hg2 hE.out
            have l1 : ∀ n os, (grow (wr.drewN n) os).cell? ⟨g, o + j * 2, none⟩ = some (.int .i64 x) := cell_grown hgr b1
            have l2 : ∀ n os, (grow (wr.drewN n) os).cell? ⟨g, o + j * 2 + 1, none⟩ = some (.int .i64 y) := cell_grown hgr b2
            have l3 : ∀ n os, (grow (wr.drewN n) os).cell? ⟨g, o + m * 2, none⟩ = some (.int .i64 x2) := cell_grown hgr d1
            have l4 : ∀ n os, (grow (wr.drewN n) os).cell? ⟨g, o + m * 2 + 1, none⟩ = some (.int .i64 y2) := cell_grown hgr d2
            have mixed : Tryd.prog.follows .mixedOrders = true := by kernel_rfl
            clear d1 d2 b1 b2
            obtain ⟨v2, hv2⟩ : ∃ v, Hid (zer x2 y2 = v) := ⟨_, rfl⟩
            obtain ⟨p2, hp2⟩ : ∃ v, Hid (cpt x x2 = v) := ⟨_, rfl⟩
            have HZ1 := Lib.hid (fun n os => refZero_gro x y (grow (wr.drewN n) os) hv1)
            have HZ2 := Lib.hid (fun n os => refZero_gro x2 y2 (grow (wr.drewN n) os) hv2)
            have HC := Lib.hid (fun n os => refCpt_gro x x2 (grow (wr.drewN n) os) hp2)
            have hfr : Hid (fr (x2, y2) (x, y) = (v1 || v2 || p2)) := by show _ = _; rw [fr_is hy.out hy2.out, hv1.out, hv2.out, hp2.out]
            have hnext : (v1 || v2 || p2) = true → Hid (∀ i, i < m + 1 → fr (l.getD i default) (x, y) = true) := fun hh i hi => by
              by_cases e : i = m
              · subst e; rw [hxy2.out, hfr.out, hh]
              · exact hno.out i (by omega)
            cases v1 with
            | true =>
              have hno2 := hnext rfl
              clear hnext
              go_wp2
              refine wp_region_quiet_grown mixed (by kernel_rfl) ?_
              repeat (go_big_quiet_step (first
                  | (go_at_call 27; refine Calls.grown_of (HZ1.out _ _))))
              refine wpQuiet_nil ?_
              intro _ hw'
              obtain ⟨⟨nq, osq⟩, hw''⟩ := hw'
              subst hw''
              all_goals (
                have hbq := Lib.hid (HG.out nq osq)
                go_wp2
                go_roundw
                case rel => exact ⟨m + 1, by omega, by go_num, nx hbr2.out hbq.out, hno2⟩
                case measure => simp [intOf]; omega)
            | false =>
              cases v2 with
              | true =>
                have hno2 := hnext rfl
                clear hnext
                go_wp2
                refine wp_region_quiet_grown mixed (by kernel_rfl) ?_
                repeat (go_big_quiet_step (first
                    | (go_at_call 27; refine Calls.grown_of (HZ1.out _ _))
                    | (go_at_call 27; refine Calls.grown_of (HZ2.out _ _))))
                refine wpQuiet_nil ?_
                intro _ hw'
                obtain ⟨⟨nq, osq⟩, hw''⟩ := hw'
                subst hw''
                all_goals (
                  have hbq := Lib.hid (HG.out nq osq)
                  go_wp2
                  go_roundw
                  case rel => exact ⟨m + 1, by omega, by go_num, nx hbr2.out hbq.out, hno2⟩
                  case measure => simp [intOf]; omega)
              | false =>
                cases p2 with
                | true =>
                  have hno2 := hnext rfl
                  clear hnext
                  go_wp2
                  refine wp_region_quiet_grown mixed (by kernel_rfl) ?_
                  repeat (go_big_quiet_step (first
                      | (go_at_call 27; refine Calls.grown_of (HZ1.out _ _))
                      | (go_at_call 27; refine Calls.grown_of (HZ2.out _ _))
                      | (go_at_call 66; refine Calls.grown_of (HC.out _ _))))
                  refine wpQuiet_nil ?_
                  intro _ hw'
                  obtain ⟨⟨nq, osq⟩, hw''⟩ := hw'
                  subst hw''
                  all_goals (
                    have hbq := Lib.hid (HG.out nq osq)
                    go_wp2
                    go_roundw
                    case rel => exact ⟨m + 1, by omega, by go_num, nx hbr2.out hbq.out, hno2⟩
                    case measure => simp [intOf]; omega)
                | false =>
                  have hend : Hid (r = false) := by
                    show _ = _
                    refine not_iff_false hr.out (fun cc => ?_)
                    have h1 := frs_take (cc.2.2.1 rfl) (j + 1)
                    rw [take_snoc2 (by have := hn.out; omega), hxy.out, frs_snoc] at h1
                    have h2 := h1.2 (x2, y2) (by rw [← hxy2.out]; exact take_mem2 (by omega) (by have := hn.out; omega))
                    rw [hfr.out] at h2
                    cases h2
                  clear hnext
                  go_wp2
                  refine wp_region_quiet_grown mixed (by kernel_rfl) ?_
                  repeat (go_big_quiet_step (first
                      | (go_at_call 27; refine Calls.grown_of (HZ1.out _ _))
                      | (go_at_call 27; refine Calls.grown_of (HZ2.out _ _))
                      | (go_at_call 66; refine Calls.grown_of (HC.out _ _))))
                  refine wpQuiet_nil ?_
                  intro _ hw'
                  obtain ⟨⟨nq, osq⟩, hw''⟩ := hw'
                  subst hw''
                  all_goals (
                    have hbq := Lib.hid (HG.out nq osq)
                    go_wp2
                    go_ret
                    exact ⟨ret_bool hend.out.symm, nx hbl2.out (nx hbr2.out hbq.out)⟩)
          · have hfrs2 : Hid (frs (l.take (j + 1))) := by
              show frs _
              rw [take_snoc2 (by have := hn.out; omega), hxy.out]
              refine frs_snoc.2 ⟨hfrs.out, fun a ha => ?_⟩
              obtain ⟨q, hq, hql, hqa⟩ := mem_take2 ha
              rw [← hqa]
              exact hno.out q (by omega)
            go_wp2
            go_roundw
            case rel => exact ⟨j + 1, by omega, by go_num, hbx2.out.below hbr2.out, nx hbl2.out hbr2.out, hfrs2, hall2⟩
            case measure => simp [intOf]; omega
    · have hend : Hid (r = true) := by
        show _ = _
        have h1 := hfrs.out
        have h2 := hall.out
        rw [List.take_of_length_le (by have := hn.out; omega)] at h1 h2
        exact hr.out.1 ⟨hs.out, h2, fun _ => h1, fun e => by omega⟩
      go_wp2
      go_ret
      exact ⟨ret_bool hend.out.symm, hbl.out⟩
theorem refCompat_is (s : ByteArray) (k u h : Int) (A : Option Addr) (n c : Nat) (l : List P2) (w : World) (hl : ARd w A l) (hn : Hid (l.length = n)) (hm : Hid (n ≤ 1000)) {r : Bool} (hr : Hid (Cmp k u l ↔ r = true)) :
    Calls Tryd.prog 41 #[ra s k u h, .slice A n c] w fun e w' => e = .returned (.bool r) ∧ Below w.heap.size w w' := by
  cases hs : shp k u with
  | false =>
    have := not_iff_false hr.out (fun cc => by rw [cc.1] at hs; cases hs)
    subst this
    exact refCompat_no s k u h _ w hs
  | true =>
    rcases shp_is hs with ⟨rfl, _⟩ | ⟨rfl, _⟩
    · exact refCompat_lock s u h A n c l w hl hn hm hs hr
    · exact refCompat_pool s u h A n c l w hl hn hm hs hr
end Go.Proofs.YthclgccgkdijbaaDoor
