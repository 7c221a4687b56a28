/- Grafted from Cval Cnam Cres Ccat Cfind Cplc Csame. -/
import Derived.Test.YtecipjjnbikheaaTca
import Derived.Test.YtecipjjnbikheaaRrv
import Derived.WalkKit
import Derived.Lib.Hide
import Derived.WalkLawsBesides
import Derived.KernelRfl
import Derived.ChangeBears2
import Derived.Deep.RegionHeld3
import Derived.BigQuiet
import Derived.Deep.QuietTactic
import Derived.Laws.StructEq
import Derived.Shelf.SlSortCmp.QuietGrown
import Derived.RegionTactic
namespace Go.Proofs.Ytecipjjnbikheaa
open Go.RowKit
open Go.Sort (grow)
set_option linter.unusedVariables false
set_option linter.unusedSimpArgs false

theorem refShaped_any (s : ByteArray) (k u h : Int) (w : World) : Calls Try.prog 81 #[ra s k u h] w fun e w' => e = .returned (.bool (shp k u)) ∧ Below w.heap.size w w' := by
  obtain ⟨r, hr⟩ : ∃ r, Hid (shp k u = r) := ⟨_, rfl⟩
  rw [hr.out]
  go_enter Try.func81, Try.ntmps81
  go_wp2
  all_goals (go_ret; have h := hr.out; unfold shp at h; clear hr; refine ⟨ret_bool ?_, newB _ _⟩; subst h; (try simp only [beq_iff_eq, beq_eq_false_iff_ne, ne_eq] at *); rw [Bool.eq_iff_iff]; simp; omega)
set_option maxHeartbeats 1000000 in
theorem refFits_any (s : ByteArray) (k u h m n : Int) (w : World) : Calls Try.prog 65 #[ra s k u h, aa m n] w fun e w' => e = .returned (.bool (fit k u m n)) ∧ Below w.heap.size w w' := by
  obtain ⟨r, hr⟩ : ∃ r, Hid (fit k u m n = r) := ⟨_, rfl⟩
  rw [hr.out]
  go_enter Try.func65, Try.ntmps65
  go_wp2_with (first
    | (go_at_call 81; refine (refShaped_any _ _ _ _ _).mono ?_; rintro e W1 ⟨rfl, hb1⟩; obtain ⟨hc1, hf1⟩ := bcell hb1)
    | (go_at_call 82; refine (refValid_any _ _).mono ?_; rintro e W2 ⟨rfl, rfl⟩))
  all_goals (go_ret; have h := hr.out; unfold fit at h; clear hr; refine ⟨ret_bool ?_, dn2 hb1⟩; subst h; (try simp only [beq_iff_eq, beq_eq_false_iff_ne, ne_eq, shp, vmd, Bool.not_eq_true', Bool.not_eq_false', decide_eq_true_eq, decide_eq_false_iff_not] at *); rw [Bool.eq_iff_iff]; simp; omega)
theorem refFits_is (s : ByteArray) (k u h m n : Int) (w : World) {r : Bool} (hr : Hid (fit k u m n = r)) : Calls Try.prog 65 #[ra s k u h, aa m n] w fun e w' => e = .returned (.bool r) ∧ Below w.heap.size w w' := by
  rw [← hr.out]; exact refFits_any s k u h m n w
theorem refShaped_is (s : ByteArray) (k u h : Int) (w : World) {r : Bool} (hr : Hid (shp k u = r)) : Calls Try.prog 81 #[ra s k u h] w fun e w' => e = .returned (.bool r) ∧ Below w.heap.size w w' := by
  rw [← hr.out]; exact refShaped_any s k u h w
theorem Gro.new (a : World) (o : Obj) : Gro a (a.alloc o) := (Gro.refl a).alloc o
theorem shaped_gro (s : ByteArray) (k u h : Int) (w : World) {r : Bool} (hr : Hid (shp k u = r)) : Calls Try.prog 78 #[ra s k u h] w fun e w' => e = .returned (.bool r) ∧ Gro w w' := by
  go_enter Try.func78, Try.ntmps78
  go_wp2_with (first
    | (go_at_call 89; refine (pu_any _ _).mono ?_; rintro e W1 ⟨rfl, rfl⟩))
  all_goals (go_ret; have h := hr.out; unfold shp at h; clear hr; refine ⟨ret_bool ?_, Gro.new _ _⟩; subst h; (try simp only [beq_iff_eq, beq_eq_false_iff_ne, ne_eq, pu] at *); rw [Bool.eq_iff_iff]; simp; omega)
theorem refShaped_gro (s : ByteArray) (k u h : Int) (w : World) {r : Bool} (hr : Hid (shp k u = r)) : Calls Try.prog 81 #[ra s k u h] w fun e w' => e = .returned (.bool r) ∧ Gro w w' := by
  go_enter Try.func81, Try.ntmps81
  go_wp2
  all_goals (go_ret; have h := hr.out; unfold shp at h; clear hr; refine ⟨ret_bool ?_, Gro.new _ _⟩; subst h; (try simp only [beq_iff_eq, beq_eq_false_iff_ne, ne_eq] at *); rw [Bool.eq_iff_iff]; simp; omega)

theorem nam_ex (s : ByteArray) : ∃ r, Hid (Nam s ↔ r = true) := by
  by_cases h : Nam s
  · exact ⟨true, fun _ => rfl, fun _ => h⟩
  · exact ⟨false, fun k => absurd k h, fun k => by cases k⟩
theorem rsr_ex (s : ByteArray) (k u h : Int) : ∃ r, Hid (Rsr s k u h ↔ r = true) := by
  by_cases h : Rsr s k u h
  · exact ⟨true, fun _ => rfl, fun _ => h⟩
  · exact ⟨false, fun k => absurd k h, fun k => by cases k⟩
set_option maxHeartbeats 1000000 in
theorem rsr_is (s : ByteArray) (k u h : Int) (w : World) {r : Bool} (hr : Hid (Rsr s k u h ↔ r = true)) : Calls Try.prog 75 #[ra s k u h] w fun e w' => e = .returned (.bool r) ∧ Gro w w' := by
  obtain ⟨a, ha⟩ := nam_ex s
  obtain ⟨b, hb⟩ : ∃ v, Hid (shp k u = v) := ⟨_, rfl⟩
  have hfin : Hid (r = (a && b && decide (0 ≤ h ∧ h < 4))) := by
    show _ = _
    have h1 := hr.out
    unfold Rsr at h1
    rw [ha.out, hb.out] at h1
    rw [Bool.eq_iff_iff, ← h1]
    simp [and_assoc]
  clear hr
  go_enter Try.func75, Try.ntmps75
  go_wp2_with (first
    | (go_at_call 68; refine (nam_is _ _ ha).mono ?_; rintro e W1 ⟨rfl, rfl⟩)
    | (go_at_call 78; refine (shaped_gro _ _ _ _ _ hb).mono ?_; rintro e W2 ⟨rfl, hg2⟩; obtain ⟨hc2, hf2⟩ := bcell hg2.below))
  all_goals (go_ret; have h := hfin.out; clear hfin; refine ⟨ret_bool ?_, by first | exact (Gro.new _ _).trans hg2 | exact Gro.new _ _⟩; subst h; clear ha hb; (try clear hc2 hf2 hg2); rw [Bool.eq_iff_iff]; simp_all <;> omega)
set_option maxHeartbeats 1000000 in
theorem refRsr_is (s : ByteArray) (k u h : Int) (w : World) {r : Bool} (hr : Hid (Rsr s k u h ↔ r = true)) : Calls Try.prog 80 #[ra s k u h] w fun e w' => e = .returned (.bool r) ∧ Gro w w' := by
  obtain ⟨a, ha⟩ := nam_ex s
  obtain ⟨b, hb⟩ : ∃ v, Hid (shp k u = v) := ⟨_, rfl⟩
  have hfin : Hid (r = (a && b && decide (0 ≤ h ∧ h < 4))) := by
    show _ = _
    have h1 := hr.out
    unfold Rsr at h1
    rw [ha.out, hb.out] at h1
    rw [Bool.eq_iff_iff, ← h1]
    simp [and_assoc]
  clear hr
  go_enter Try.func80, Try.ntmps80
  go_wp2_with (first
    | (go_at_call 72; refine (refNam_is _ _ ha).mono ?_; rintro e W1 ⟨rfl, rfl⟩)
    | (go_at_call 81; refine (refShaped_gro _ _ _ _ _ hb).mono ?_; rintro e W2 ⟨rfl, hg2⟩; obtain ⟨hc2, hf2⟩ := bcell hg2.below))
  all_goals (go_ret; have h := hfin.out; clear hfin; refine ⟨ret_bool ?_, by first | exact (Gro.new _ _).trans hg2 | exact Gro.new _ _⟩; subst h; clear ha hb; (try clear hc2 hf2 hg2); rw [Bool.eq_iff_iff]; simp_all <;> omega)
theorem vcat_ex (l : List P4) : ∃ r, Hid (Vcat l ↔ r = true) := by
  by_cases h : Vcat l
  · exact ⟨true, fun _ => rfl, fun _ => h⟩
  · exact ⟨false, fun k => absurd k h, fun k => by cases k⟩
set_option maxHeartbeats 4000000 in
set_option maxRecDepth 8000 in
theorem refVcat_is (A : Option Addr) (n c : Nat) (l : List P4) (w : World) (hl : RRd w A l) (hn : Hid (l.length = n)) {r : Bool} (hr : Hid (Vcat l ↔ r = true)) :
    Calls Try.prog 63 #[.slice A n c] w fun e w' => e = .returned (.bool r) ∧ Gro w w' := by
  have HR := Lib.hid hl
  clear hl
  by_cases h8 : 8 < (n : Int)
  · have hend : Hid (r = false) := iff_no hr.out (fun h => by have := h.1; have := hn.out; omega)
    clear hr
    go_enter Try.func63, Try.ntmps63
    go_wp2
    go_ret
    exact ⟨ret_bool hend.out.symm, Gro.refl _⟩
  · have hn8 : n ≤ 8 := by omega
    go_enter Try.func63, Try.ntmps63
    go_wp2
    go_loopw [3] (fun i wr => ∃ (j : Nat), j ≤ n ∧ i = .int .i64 j ∧ Hid (Gro w wr) ∧ Hid (∀ i, i < j → RsR (l.getD i default)) ∧ Hid (∀ i, i + 1 < j → ltS (l.getD i default).1 (l.getD (i + 1) default).1 = true)) (fun i _ => n - (intOf i).toNat)
    case atStart => exact ⟨0, by omega, rfl, Gro.refl _, fun i hi => by omega, fun i hi => by omega⟩
    case round =>
      obtain ⟨j, hj, rfl, hG, hall, hasc⟩ := hrel
      have mixed : Try.prog.follows .mixedOrders = true := by kernel_rfl
      by_cases hlt : (j : Int) < (n : Int)
      · obtain ⟨g, o, s, k, u, h, rfl, hg, hx, c1, c2, c3, c4⟩ := (HR.out.below hG.out.below).at_ (i := j) (by have := hn.out; omega)
        have e5 : IntKind.i64.wrap ((j : Int) + 1) = (j : Int) + 1 := by rw [IntKind.wrap_i64]; omega
        obtain ⟨v, hv⟩ := rsr_ex s k u h
        have hv0 : Hid (RsR (l.getD j default) ↔ v = true) := by show _ ↔ _; rw [hx.out]; exact hv.out
        have l1 : ∀ n os, (grow (wr.drewN n) os).cell? ⟨g, o + j * 4, none⟩ = some (.string s) := cell_grown hg c1
        have l2 : ∀ n os, (grow (wr.drewN n) os).cell? ⟨g, o + j * 4 + 1, none⟩ = some (.int .i64 k) := cell_grown hg c2
        have l3 : ∀ n os, (grow (wr.drewN n) os).cell? ⟨g, o + j * 4 + 2, none⟩ = some (.int .i64 u) := cell_grown hg c3
        have l4 : ∀ n os, (grow (wr.drewN n) os).cell? ⟨g, o + j * 4 + 3, none⟩ = some (.int .i64 h) := cell_grown hg c4
        have HV := Lib.hid (fun n os => refRsr_is s k u h (grow (wr.drewN n) os) hv)
        cases v with
        | false =>
          have hend : Hid (r = false) := iff_no hr.out (fun hh => by have := hv0.out.1 (hh.2.1 j (by have := hn.out; omega)); cases this)
          clear hr
          go_wp2
          refine wp_region_quiet_grown mixed (by kernel_rfl) ?_
          repeat (go_big_quiet_step (first
              | (go_at_call 80; refine Calls.grown_of (HV.out _ _))))
          refine wpQuiet_nil ?_
          intro _ hw'
          obtain ⟨⟨nq, osq⟩, hw''⟩ := hw'
          subst hw''
          all_goals (
            have hG2 := Lib.hid (hG.out.trans (⟨nq, osq, rfl⟩ : Gro wr _))
            go_wp2
            go_ret
            exact ⟨ret_bool hend.out.symm, hG2.out⟩)
        | true =>
          have hall2 : Hid (∀ i, i < j + 1 → RsR (l.getD i default)) := fun i hi => by
            by_cases e : i = j
            · subst e; exact hv0.out.2 rfl
            · exact hall.out i (by omega)
          by_cases hj0 : 0 < j
          · obtain ⟨m, hm⟩ : ∃ m, Hid (j = m + 1) := ⟨j - 1, by show _ = _; omega⟩
            have e6 : IntKind.i64.wrap ((j : Int) - 1) = (m : Int) := by have := hm.out; rw [IntKind.wrap_i64]; omega
            have e8 : IntKind.i64.wrap (m : Int) = (m : Int) := by have := hm.out; rw [IntKind.wrap_i64]; omega
            have e9 : (m : Int) < (n : Int) := by have := hm.out; omega
            obtain ⟨g', o', s', k', u', h', hA, _, hx', d1, _, _, _⟩ := (HR.out.below hG.out.below).at_ (i := m) (by have := hn.out; have := hm.out; omega)
            obtain ⟨rfl, rfl⟩ : g = g' ∧ o = o' := by simpa using hA
            clear hA
            have l5 : ∀ n os, (grow (wr.drewN n) os).cell? ⟨g, o + m * 4, none⟩ = some (.string s') := cell_grown hg d1
            have hlex : Hid (ltS (l.getD m default).1 (l.getD (m + 1) default).1 = Op.bytesLess s'.toList s.toList) := by show _ = _; rw [← hm.out, hx.out, hx'.out]; rfl
            cases hq : Op.bytesLess s'.toList s.toList with
            | true =>
              have hasc2 : Hid (∀ i, i + 1 < j + 1 → ltS (l.getD i default).1 (l.getD (i + 1) default).1 = true) := fun i hi => by
                by_cases e : i = m
                · subst e; rw [hlex.out, hq]
                · exact hasc.out i (by have := hm.out; omega)
              clear c1 c2 c3 c4 d1
              go_wp2
              refine wp_region_quiet_grown mixed (by kernel_rfl) ?_
              repeat (go_big_quiet_step (first
                  | (go_at_call 80; refine Calls.grown_of (HV.out _ _))))
              refine wpQuiet_nil ?_
              intro _ hw'
              obtain ⟨⟨nq, osq⟩, hw''⟩ := hw'
              subst hw''
              all_goals (
                have hG2 := Lib.hid (hG.out.trans (⟨nq, osq, rfl⟩ : Gro wr _))
                go_wp2
                go_roundw
                case rel => exact ⟨j + 1, by omega, by go_num, hG2, hall2, hasc2⟩
                case measure => simp [intOf]; omega)
            | false =>
              have hend : Hid (r = false) := iff_no hr.out (fun hh => by have := hh.2.2 m (by have := hn.out; have := hm.out; omega); rw [hlex.out, hq] at this; cases this)
              clear hr c1 c2 c3 c4 d1
              go_wp2
              refine wp_region_quiet_grown mixed (by kernel_rfl) ?_
              repeat (go_big_quiet_step (first
                  | (go_at_call 80; refine Calls.grown_of (HV.out _ _))))
              refine wpQuiet_nil ?_
              intro _ hw'
              obtain ⟨⟨nq, osq⟩, hw''⟩ := hw'
              subst hw''
              all_goals (
                have hG2 := Lib.hid (hG.out.trans (⟨nq, osq, rfl⟩ : Gro wr _))
                go_wp2
                go_ret
                exact ⟨ret_bool hend.out.symm, hG2.out⟩)
          · have hasc2 : Hid (∀ i, i + 1 < j + 1 → ltS (l.getD i default).1 (l.getD (i + 1) default).1 = true) := fun i hi => by omega
            clear c1 c2 c3 c4
            go_wp2
            refine wp_region_quiet_grown mixed (by kernel_rfl) ?_
            repeat (go_big_quiet_step (first
                | (go_at_call 80; refine Calls.grown_of (HV.out _ _))))
            refine wpQuiet_nil ?_
            intro _ hw'
            obtain ⟨⟨nq, osq⟩, hw''⟩ := hw'
            subst hw''
            all_goals (
              have hG2 := Lib.hid (hG.out.trans (⟨nq, osq, rfl⟩ : Gro wr _))
              go_wp2
              go_roundw
              case rel => exact ⟨j + 1, by omega, by go_num, hG2, hall2, hasc2⟩
              case measure => simp [intOf]; omega)
      · have hend : Hid (r = true) := hr.out.1 ⟨by have := hn.out; omega, fun i hi => hall.out i (by have := hn.out; omega), fun i hi => hasc.out i (by have := hn.out; omega)⟩
        go_wp2
        go_ret
        exact ⟨ret_bool hend.out.symm, hG.out⟩
set_option maxHeartbeats 4000000 in
set_option maxRecDepth 8000 in
theorem vcat_is (A : Option Addr) (n c : Nat) (l : List P4) (w : World) (hl : RRd w A l) (hn : Hid (l.length = n)) {r : Bool} (hr : Hid (Vcat l ↔ r = true)) :
    Calls Try.prog 60 #[.slice A n c] w fun e w' => e = .returned (.bool r) ∧ Gro w w' := by
  have HR := Lib.hid hl
  clear hl
  by_cases h8 : 8 < (n : Int)
  · have hend : Hid (r = false) := iff_no hr.out (fun h => by have := h.1; have := hn.out; omega)
    clear hr
    go_enter Try.func60, Try.ntmps60
    go_wp2
    go_ret
    exact ⟨ret_bool hend.out.symm, Gro.refl _⟩
  · have hn8 : n ≤ 8 := by omega
    go_enter Try.func60, Try.ntmps60
    go_wp2
    go_loopw [3, 4, 10] (fun x p i wr => ∃ (j : Nat), j ≤ n ∧ i = .int .i64 j ∧ Hid (Gro w wr) ∧ Hid (∀ i, i < j → RsR (l.getD i default)) ∧ Hid (∀ i, i + 1 < j → ltS (l.getD i default).1 (l.getD (i + 1) default).1 = true)) (fun _ _ i _ => n - (intOf i).toNat)
    case atStart => exact ⟨0, by omega, rfl, Gro.refl _, fun i hi => by omega, fun i hi => by omega⟩
    case round =>
      obtain ⟨j, hj, rfl, hG, hall, hasc⟩ := hrel
      have mixed : Try.prog.follows .mixedOrders = true := by kernel_rfl
      by_cases hlt : (j : Int) < (n : Int)
      · obtain ⟨g, o, s, k, u, h, rfl, hg, hx, c1, c2, c3, c4⟩ := (HR.out.below hG.out.below).at_ (i := j) (by have := hn.out; omega)
        have e5 : IntKind.i64.wrap ((j : Int) + 1) = (j : Int) + 1 := by rw [IntKind.wrap_i64]; omega
        obtain ⟨v, hv⟩ := rsr_ex s k u h
        have hv0 : Hid (RsR (l.getD j default) ↔ v = true) := by show _ ↔ _; rw [hx.out]; exact hv.out
        have hgB : g < (wr.alloc (.cells #[.string s, .int .i64 k, .int .i64 u, .int .i64 h] 63)).heap.size := by simp; omega
        obtain ⟨WB, hWB⟩ : ∃ WB, Hid (wr.alloc (.cells #[.string s, .int .i64 k, .int .i64 u, .int .i64 h] 63) = WB) := ⟨_, rfl⟩
        have hbx : WB.cell? ⟨wr.heap.size, 0, none⟩ = some (.string s) ∧ WB.cell? ⟨wr.heap.size, 1, none⟩ = some (.int .i64 k) ∧ WB.cell? ⟨wr.heap.size, 2, none⟩ = some (.int .i64 u) ∧ WB.cell? ⟨wr.heap.size, 3, none⟩ = some (.int .i64 h) := by rw [← hWB.out]; exact ⟨by simp, by simp, by simp, by simp⟩
        have hGB : Hid (Gro wr WB) := by rw [← hWB.out]; exact Gro.new _ _
        have hgb : g < WB.heap.size := Nat.lt_of_lt_of_le hg hGB.out.below.size
        have hsb : wr.heap.size < WB.heap.size := by rw [← hWB.out]; simp
        have l1 : ∀ n os, (grow (WB.drewN n) os).cell? ⟨wr.heap.size, 0, none⟩ = some (.string s) := cell_grown hsb hbx.1
        have l2 : ∀ n os, (grow (WB.drewN n) os).cell? ⟨wr.heap.size, 1, none⟩ = some (.int .i64 k) := cell_grown hsb hbx.2.1
        have l3 : ∀ n os, (grow (WB.drewN n) os).cell? ⟨wr.heap.size, 2, none⟩ = some (.int .i64 u) := cell_grown hsb hbx.2.2.1
        have l4 : ∀ n os, (grow (WB.drewN n) os).cell? ⟨wr.heap.size, 3, none⟩ = some (.int .i64 h) := cell_grown hsb hbx.2.2.2
        clear hbx hgB
        have HV := Lib.hid (fun n os => rsr_is s k u h (grow (WB.drewN n) os) hv)
        cases v with
        | false =>
          have hend : Hid (r = false) := iff_no hr.out (fun hh => by have := hv0.out.1 (hh.2.1 j (by have := hn.out; omega)); cases this)
          clear hr
          go_wp2
          rw [hWB.out]
          refine wp_region_quiet_grown mixed (by kernel_rfl) ?_
          repeat (go_big_quiet_step (first
              | (go_at_call 75; refine Calls.grown_of (HV.out _ _))))
          refine wpQuiet_nil ?_
          intro _ hw'
          obtain ⟨⟨nq, osq⟩, hw''⟩ := hw'
          subst hw''
          all_goals (
            have hG2 := Lib.hid ((hG.out.trans hGB.out).trans (⟨nq, osq, rfl⟩ : Gro WB _))
            go_wp2
            go_ret
            exact ⟨ret_bool hend.out.symm, hG2.out⟩)
        | true =>
          have hall2 : Hid (∀ i, i < j + 1 → RsR (l.getD i default)) := fun i hi => by
            by_cases e : i = j
            · subst e; exact hv0.out.2 rfl
            · exact hall.out i (by omega)
          by_cases hj0 : 0 < j
          · obtain ⟨m, hm⟩ : ∃ m, Hid (j = m + 1) := ⟨j - 1, by show _ = _; omega⟩
            have e6 : IntKind.i64.wrap ((j : Int) - 1) = (m : Int) := by have := hm.out; rw [IntKind.wrap_i64]; omega
            have e8 : IntKind.i64.wrap (m : Int) = (m : Int) := by have := hm.out; rw [IntKind.wrap_i64]; omega
            have e9 : (m : Int) < (n : Int) := by have := hm.out; omega
            obtain ⟨g', o', s', k', u', h', hA, _, hx', d1, _, _, _⟩ := (HR.out.below hG.out.below).at_ (i := m) (by have := hn.out; have := hm.out; omega)
            obtain ⟨rfl, rfl⟩ : g = g' ∧ o = o' := by simpa using hA
            clear hA
            have l5 : ∀ n os, (grow (WB.drewN n) os).cell? ⟨g, o + m * 4, none⟩ = some (.string s') := cell_grown hgb ((hGB.out.below.cell (p := ⟨g, o + m * 4, none⟩) hg).trans d1)
            have hlex : Hid (ltS (l.getD m default).1 (l.getD (m + 1) default).1 = Op.bytesLess s'.toList s.toList) := by show _ = _; rw [← hm.out, hx.out, hx'.out]; rfl
            cases hq : Op.bytesLess s'.toList s.toList with
            | true =>
              have hasc2 : Hid (∀ i, i + 1 < j + 1 → ltS (l.getD i default).1 (l.getD (i + 1) default).1 = true) := fun i hi => by
                by_cases e : i = m
                · subst e; rw [hlex.out, hq]
                · exact hasc.out i (by have := hm.out; omega)
              go_wp2
              rw [hWB.out]
              refine wp_region_quiet_grown mixed (by kernel_rfl) ?_
              repeat (go_big_quiet_step (first
                  | (go_at_call 75; refine Calls.grown_of (HV.out _ _))))
              refine wpQuiet_nil ?_
              intro _ hw'
              obtain ⟨⟨nq, osq⟩, hw''⟩ := hw'
              subst hw''
              all_goals (
                have hG2 := Lib.hid ((hG.out.trans hGB.out).trans (⟨nq, osq, rfl⟩ : Gro WB _))
                go_wp2
                go_roundw
                case rel => exact ⟨j + 1, by omega, by go_num, hG2, hall2, hasc2⟩
                case measure => simp [intOf]; omega)
            | false =>
              have hend : Hid (r = false) := iff_no hr.out (fun hh => by have := hh.2.2 m (by have := hn.out; have := hm.out; omega); rw [hlex.out, hq] at this; cases this)
              clear hr
              go_wp2
              rw [hWB.out]
              refine wp_region_quiet_grown mixed (by kernel_rfl) ?_
              repeat (go_big_quiet_step (first
                  | (go_at_call 75; refine Calls.grown_of (HV.out _ _))))
              refine wpQuiet_nil ?_
              intro _ hw'
              obtain ⟨⟨nq, osq⟩, hw''⟩ := hw'
              subst hw''
              all_goals (
                have hG2 := Lib.hid ((hG.out.trans hGB.out).trans (⟨nq, osq, rfl⟩ : Gro WB _))
                go_wp2
                go_ret
                exact ⟨ret_bool hend.out.symm, hG2.out⟩)
          · have hasc2 : Hid (∀ i, i + 1 < j + 1 → ltS (l.getD i default).1 (l.getD (i + 1) default).1 = true) := fun i hi => by omega
            go_wp2
            rw [hWB.out]
            refine wp_region_quiet_grown mixed (by kernel_rfl) ?_
            repeat (go_big_quiet_step (first
                | (go_at_call 75; refine Calls.grown_of (HV.out _ _))))
            refine wpQuiet_nil ?_
            intro _ hw'
            obtain ⟨⟨nq, osq⟩, hw''⟩ := hw'
            subst hw''
            all_goals (
              have hG2 := Lib.hid ((hG.out.trans hGB.out).trans (⟨nq, osq, rfl⟩ : Gro WB _))
              go_wp2
              go_roundw
              case rel => exact ⟨j + 1, by omega, by go_num, hG2, hall2, hasc2⟩
              case measure => simp [intOf]; omega)
      · have hend : Hid (r = true) := hr.out.1 ⟨by have := hn.out; omega, fun i hi => hall.out i (by have := hn.out; omega), fun i hi => hasc.out i (by have := hn.out; omega)⟩
        go_wp2
        go_ret
        exact ⟨ret_bool hend.out.symm, hG.out⟩
/-- What Find answers. -/
def Fnd (l : List P4) (s : ByteArray) (r : P4) (b : Bool) : Prop := (∃ p, At4 l s p ∧ r = l.getD p default ∧ b = true) ∨ (No4 l s ∧ r = (⟨#[]⟩, 0, 0, 0) ∧ b = false)
theorem At4.uniq {l : List P4} {s : ByteArray} {i j : Nat} (h : At4 l s i) (k : At4 l s j) : i = j := by
  rcases Nat.lt_trichotomy i j with h1 | h1 | h1
  · exact absurd h.2.1 (k.2.2 i h1)
  · exact h1
  · exact absurd k.2.1 (h.2.2 j h1)
theorem Fnd.hit {l : List P4} {s : ByteArray} {r : P4} {b : Bool} (h : Fnd l s r b) {p : Nat} (hp : At4 l s p) : r = l.getD p default ∧ b = true := by
  rcases h with ⟨q, hq, h1, h2⟩ | ⟨hno, _, _⟩
  · obtain rfl := hp.uniq hq
    exact ⟨h1, h2⟩
  · exact absurd hno hp.not
theorem Fnd.miss {l : List P4} {s : ByteArray} {r : P4} {b : Bool} (h : Fnd l s r b) (hp : No4 l s) : r = (⟨#[]⟩, 0, 0, 0) ∧ b = false := by
  rcases h with ⟨q, hq, h1, h2⟩ | ⟨_, h1, h2⟩
  · exact absurd hp hq.not
  · exact ⟨h1, h2⟩
theorem fnd_ex (l : List P4) (s : ByteArray) : ∃ t k u h b, Hid (Fnd l s (t, k, u, h) b) := by
  rcases at_or l s with ⟨p, hp⟩ | h
  · exact ⟨_, _, _, _, true, .inl ⟨p, hp, rfl, rfl⟩⟩
  · exact ⟨_, _, _, _, false, .inr ⟨h, rfl, rfl⟩⟩
/-- A box of four cells that a call has made for a result, as yet zero. -/
def R0 (W : World) (k : Nat) : Prop := (k < W.heap.size ∧ W.cell? ⟨k, 0, none⟩ = some (.string ⟨#[]⟩) ∧ W.cell? ⟨k, 1, none⟩ = some (.int .i64 0) ∧ W.cell? ⟨k, 2, none⟩ = some (.int .i64 0) ∧ W.cell? ⟨k, 3, none⟩ = some (.int .i64 0)) ∧ ∀ o, W.frozen? ⟨k, o, none⟩ = false
theorem R0.new (W : World) (T : TypeId) : R0 (W.alloc (.cells #[.string ⟨#[]⟩, .int .i64 0, .int .i64 0, .int .i64 0] T)) W.heap.size := ⟨⟨by simp, by simp, by simp, by simp, by simp⟩, fun o => by simp⟩
theorem R0.below {W W' : World} {k : Nat} (h : R0 W k) (hb : Below W.heap.size W W') : R0 W' k := by
  obtain ⟨⟨h0, h1, h2, h3, h4⟩, hf⟩ := h
  have := hb.size
  exact ⟨⟨by omega, (hb.cell (p := ⟨k, 0, none⟩) h0).trans h1, (hb.cell (p := ⟨k, 1, none⟩) h0).trans h2, (hb.cell (p := ⟨k, 2, none⟩) h0).trans h3, (hb.cell (p := ⟨k, 3, none⟩) h0).trans h4⟩, fun o => (hb.frozen (p := ⟨k, o, none⟩) h0).trans (hf o)⟩
theorem set4 {W : World} {k : Nat} (h : R0 W k) (a b c d : Value) (o : Obj) :
    (((((W.setCell ⟨k, 0, none⟩ a).setCell ⟨k, 1, none⟩ b).setCell ⟨k, 2, none⟩ c).setCell ⟨k, 3, none⟩ d).alloc o).cell? ⟨k, 0, none⟩ = some a ∧
    (((((W.setCell ⟨k, 0, none⟩ a).setCell ⟨k, 1, none⟩ b).setCell ⟨k, 2, none⟩ c).setCell ⟨k, 3, none⟩ d).alloc o).cell? ⟨k, 1, none⟩ = some b ∧
    (((((W.setCell ⟨k, 0, none⟩ a).setCell ⟨k, 1, none⟩ b).setCell ⟨k, 2, none⟩ c).setCell ⟨k, 3, none⟩ d).alloc o).cell? ⟨k, 2, none⟩ = some c ∧
    (((((W.setCell ⟨k, 0, none⟩ a).setCell ⟨k, 1, none⟩ b).setCell ⟨k, 2, none⟩ c).setCell ⟨k, 3, none⟩ d).alloc o).cell? ⟨k, 3, none⟩ = some d := by
  obtain ⟨⟨h0, h1, h2, h3, h4⟩, hf⟩ := h
  have hb := newB ((((W.setCell ⟨k, 0, none⟩ a).setCell ⟨k, 1, none⟩ b).setCell ⟨k, 2, none⟩ c).setCell ⟨k, 3, none⟩ d) o
  have hs : k < ((((W.setCell ⟨k, 0, none⟩ a).setCell ⟨k, 1, none⟩ b).setCell ⟨k, 2, none⟩ c).setCell ⟨k, 3, none⟩ d).heap.size := by simpa using h0
  refine ⟨(hb.cell (p := ⟨k, 0, none⟩) hs).trans ?_, (hb.cell (p := ⟨k, 1, none⟩) hs).trans ?_, (hb.cell (p := ⟨k, 2, none⟩) hs).trans ?_, (hb.cell (p := ⟨k, 3, none⟩) hs).trans ?_⟩ <;> simp [go_sem, h1, h2, h3, h4]
set_option maxHeartbeats 2000000 in
set_option maxRecDepth 8000 in
theorem refFind_is (A : Option Addr) (n c : Nat) (l : List P4) (nm : ByteArray) (w : World) (hl : InR w A n c l) {s : ByteArray} {k u h : Int} {b : Bool} (hr : Hid (Fnd l nm (s, k, u, h) b)) :
    Calls Try.prog 64 #[.slice A n c, .string nm] w fun e w' => e = .returned (.tuple #[ra s k u h, .bool b]) ∧ Below w.heap.size w w' := by
  have HR := Lib.hid hl.rd
  have hn : Hid (l.length = n) := hl.len
  have hbig := hl.big
  clear hl
  go_enter Try.func64, Try.ntmps64
  go_wp2
  go_loopw [6] (fun i wr => ∃ (j : Nat), j ≤ n ∧ i = .int .i64 j ∧ Hid (R0 wr w.heap.size) ∧ Hid (Below w.heap.size w wr) ∧ Hid (∀ i, i < j → (l.getD i default).1 ≠ nm)) (fun i _ => n - (intOf i).toNat)
  case atStart => exact ⟨0, by omega, rfl, R0.new _ _, newB _ _, fun i hi => by omega⟩
  case round =>
    obtain ⟨j, hj, rfl, hR, hB, hall⟩ := hrel
    obtain ⟨⟨hk, hf1, hf2, hf3, hf4⟩, hfz⟩ := hR.out
    by_cases hlt : (j : Int) < (n : Int)
    · obtain ⟨g, o, s', k', u', h', rfl, hg, hx, c1, c2, c3, c4⟩ := (HR.out.below hB.out).at_ (i := j) (by have := hn.out; omega)
      have e5 : IntKind.i64.wrap ((j : Int) + 1) = (j : Int) + 1 := by rw [IntKind.wrap_i64]; omega
      by_cases he0 : s' = nm
      · have he : (s'.toList == nm.toList) = true := eqS_iff.2 he0
        have hend : Hid ((s, k, u, h) = (s', k', u', h') ∧ b = true) := by
          have hA : At4 l nm j := ⟨by have := hn.out; omega, by rw [hx.out]; exact he0, hall.out⟩
          obtain ⟨e1, e2⟩ := hr.out.hit hA
          exact ⟨e1.trans hx.out, e2⟩
        clear hr he0
        go_wp2
        obtain ⟨e1, rfl⟩ := hend.out
        simp only [Prod.mk.injEq] at e1
        obtain ⟨rfl, rfl, rfl, rfl⟩ := e1
        exact bodyPost_ret (v := .tuple #[ra s k u h, .bool true]) (by simp [results, Try.results64, go_sem, hf1, hf2, hf3, hf4, hfz]) rfl ⟨rfl, ((((hB.out.setCell (Nat.le_refl _) _).setCell (Nat.le_refl _) _).setCell (Nat.le_refl _) _).setCell (Nat.le_refl _) _)⟩
      · have he : (s'.toList == nm.toList) = false := eqS_no.2 he0
        have hall2 : Hid (∀ i, i < j + 1 → (l.getD i default).1 ≠ nm) := fun i hi => by
          by_cases e : i = j
          · subst e; rw [hx.out]; exact he0
          · exact hall.out i (by omega)
        clear he0
        go_wp2
        go_roundw
        case rel => exact ⟨j + 1, by omega, by go_num, hR, hB, hall2⟩
        case measure => simp [intOf]; omega
    · have hend : Hid ((s, k, u, h) = (⟨#[]⟩, 0, 0, 0) ∧ b = false) := hr.out.miss fun i hi => hall.out i (by have := hn.out; omega)
      clear hr
      go_wp2
      obtain ⟨e1, rfl⟩ := hend.out
      simp only [Prod.mk.injEq] at e1
      obtain ⟨rfl, rfl, rfl, rfl⟩ := e1
      exact bodyPost_ret (v := .tuple #[ra ⟨#[]⟩ 0 0 0, .bool false]) (by simp [results, Try.results64, go_sem, hf1, hf2, hf3, hf4, hfz]) rfl ⟨rfl, (((hB.out.setCell (Nat.le_refl _) _).setCell (Nat.le_refl _) _).setCell (Nat.le_refl _) _).setCell (Nat.le_refl _) _⟩
set_option maxHeartbeats 2000000 in
theorem closure_is (ba bx : Nat) (A : Option Addr) (n c : Nat) (l : List P4) (nm : ByteArray) (i : Nat) (W : World) (hn : Hid (l.length = n)) (hi : i < n) (hA : W.cell? ⟨ba, 0, none⟩ = some (.slice A n c)) (hx : W.cell? ⟨bx, 0, none⟩ = some (.string nm)) (hl : RRd W A l) {b : Bool} (hb : Hid (ltS (l.getD i default).1 nm = b)) :
    Calls Try.prog 77 #[.int .i64 i, .pointer (some ⟨ba, 0, none⟩), .pointer (some ⟨bx, 0, none⟩)] W fun e w' => e = .returned (.bool !b) ∧ Below W.heap.size W w' := by
  obtain ⟨g, o, s, k, u, h, rfl, hg, hxx, c1, c2, c3, c4⟩ := hl.at_ (i := i) (by have := hn.out; omega)
  have hz : (i : Int) < (n : Int) := by omega
  have hq : Op.bytesLess s.toList nm.toList = b := by have := hb.out; rw [hxx.out] at this; exact this
  clear hl c2 c3 c4
  go_enter Try.func77, Try.ntmps77
  go_wp2
  go_region
  all_goals go_wp2
  all_goals go_ret
  all_goals exact ⟨rfl, bdD (Below.refl _ _)⟩
set_option maxHeartbeats 2000000 in
set_option maxRecDepth 8000 in
theorem search_is (ba bx n p : Nat) (f : Nat → Bool) (w : World) (h8 : n ≤ 8) (hp : Hid (p ≤ n)) (h1 : Hid (∀ i, i < p → f i = true)) (h2 : Hid (∀ i, p ≤ i → i < n → f i = false))
    (HF : Hid (∀ W i b, Below w.heap.size w W → i < n → Hid (f i = b) → Calls Try.prog 77 #[.int .i64 i, .pointer (some ⟨ba, 0, none⟩), .pointer (some ⟨bx, 0, none⟩)] W fun e w' => e = .returned (.bool !b) ∧ Below W.heap.size W w')) :
    Calls Try.prog 76 #[.int .i64 n, .func (.func 77) #[] #[.pointer (some ⟨ba, 0, none⟩), .pointer (some ⟨bx, 0, none⟩)]] w fun e w' => e = .returned (.int .i64 p) ∧ Below w.heap.size w w' := by
  have eg : ∀ args w, (callFunc 77 args).run Try.prog w = .ok (.enter 77 args) w := enters_of Try.func77 (by kernel_rfl) rfl
  go_enter Try.func76, Try.ntmps76
  go_wp2
  go_loopw [5, 6, 7] (fun lo hi q wr => ∃ (a b : Nat), lo = .int .i64 a ∧ hi = .int .i64 b ∧ a ≤ b ∧ b ≤ n ∧ Hid (a ≤ p ∧ p ≤ b) ∧ Hid (Below w.heap.size w wr)) (fun lo hi _ _ => (intOf hi - intOf lo).toNat)
  case atStart => exact ⟨0, n, rfl, rfl, by omega, by omega, ⟨by omega, hp.out⟩, Below.refl _ _⟩
  case round =>
    obtain ⟨a, b, rfl, rfl, hab, hbn, hpp, hB⟩ := hrel
    by_cases hlt : (a : Int) < (b : Int)
    · obtain ⟨m, hm⟩ : ∃ m : Nat, Hid (m = (a + b) / 2) := ⟨_, rfl⟩
      have e1 : IntKind.i64.wrap ((a : Int) + (b : Int)) = (a : Int) + (b : Int) := by rw [IntKind.wrap_i64]; omega
      have e2 : IntKind.u64.wrap ((a : Int) + (b : Int)) = (a : Int) + (b : Int) := by rw [IntKind.wrap_u64]; omega
      have e3 : ((a : Int) + (b : Int)) / 2 = (m : Int) := by have := hm.out; omega
      have hm2 : a ≤ m ∧ m < b := by have := hm.out; omega
      have e4 : IntKind.u64.wrap (m : Int) = (m : Int) := by rw [IntKind.wrap_u64]; omega
      have e5 : IntKind.i64.wrap (m : Int) = (m : Int) := by rw [IntKind.wrap_i64]; omega
      have e6 : IntKind.i64.wrap ((m : Int) + 1) = (m : Int) + 1 := by rw [IntKind.wrap_i64]; omega
      obtain ⟨v, hv⟩ : ∃ v, Hid (f m = v) := ⟨_, rfl⟩
      have HC := Lib.hid (HF.out wr m v hB.out (by omega) hv)
      cases v with
      | true =>
        have hnx : Hid (m + 1 ≤ p ∧ p ≤ b) := ⟨(by
          rcases Nat.lt_or_ge m p with h | h
          · exact h
          · have := h2.out m h (by omega)
            rw [hv.out] at this
            cases this), hpp.out.2⟩
        go_wp2_with (first | (go_at_fn 77; refine HC.out.mono ?_; rintro e W1 ⟨rfl, hb1⟩; have HB1 := Lib.hid (nx hB.out hb1); clear hb1))
        go_roundw
        case rel => exact ⟨m + 1, b, by go_num, rfl, by omega, hbn, hnx, HB1⟩
        case measure => simp [intOf]; omega
      | false =>
        have hnx : Hid (a ≤ p ∧ p ≤ m) := ⟨hpp.out.1, (by
          rcases Nat.lt_or_ge m p with h | h
          · have := h1.out m h
            rw [hv.out] at this
            cases this
          · exact h)⟩
        go_wp2_with (first | (go_at_fn 77; refine HC.out.mono ?_; rintro e W1 ⟨rfl, hb1⟩; have HB1 := Lib.hid (nx hB.out hb1); clear hb1))
        go_roundw
        case rel => exact ⟨a, m, rfl, rfl, by omega, by omega, hnx, HB1⟩
        case measure => simp [intOf]; omega
    · have hend : Hid (a = p) := by have := hpp.out; show _ = _; omega
      go_wp2
      go_ret
      exact ⟨by rw [hend.out]; rfl, hB.out⟩

/-- The boxes that place makes. -/
abbrev TP (w : World) (V : Value) (nm : ByteArray) : World := (w.alloc (.cells #[V] 41)).alloc (.cells #[.string nm] 9)
theorem at4_iff {l : List P4} {nm : ByteArray} {p : Nat} (hp : Plc l nm p) (ha : Asc l) (hlt : p < l.length) : (∃ i, At4 l nm i) ↔ (l.getD p default).1 = nm := by
  constructor
  · rintro ⟨i, hi⟩
    obtain rfl := hp.at_ ha hi
    exact hi.2.1
  · exact fun h => ⟨p, hlt, h, fun k hk => ltS_ne (hp.2.1 k hk)⟩
set_option maxHeartbeats 4000000 in
set_option maxRecDepth 8000 in
theorem place_is (A : Option Addr) (n c : Nat) (l : List P4) (nm : ByteArray) (w : World) (hl : InR w A n c l) (h8 : n ≤ 8) (ha : Hid (Asc l)) {p : Nat} (hp : Hid (Plc l nm p)) {b : Bool} (hb : Hid ((∃ i, At4 l nm i) ↔ b = true)) :
    Calls Try.prog 61 #[.slice A n c, .string nm] w fun e w' => e = .returned (.tuple #[.int .i64 p, .bool b]) ∧ Below w.heap.size w w' := by
  have hn : Hid (l.length = n) := hl.len
  have HR := Lib.hid hl.rd
  have hpn : p ≤ n := by have := hp.out.1; have := hn.out; omega
  have mixed : Try.prog.follows .mixedOrders = true := by kernel_rfl
  clear hl
  have hT := Lib.hid (new2 w (.cells #[.slice A n c] 41) (.cells #[.string nm] 9))
  have HF : Hid (∀ W i b, Below (TP w (.slice A n c) nm).heap.size (TP w (.slice A n c) nm) W → i < n → Hid (ltS (l.getD i default).1 nm = b) →
      Calls Try.prog 77 #[.int .i64 i, .pointer (some ⟨w.heap.size, 0, none⟩), .pointer (some ⟨w.heap.size + 1, 0, none⟩)] W fun e w' => e = .returned (.bool !b) ∧ Below W.heap.size W w') := fun W i b hW hi hbb =>
    closure_is _ _ A n c l nm i W hn hi ((hW.cell (p := ⟨w.heap.size, 0, none⟩) (by simp [TP]; omega)).trans (by simp [TP, go_sem])) ((hW.cell (p := ⟨w.heap.size + 1, 0, none⟩) (by simp [TP])).trans (by simp [TP])) (HR.out.below (nx hT.out hW)) hbb
  have HS := Lib.hid (search_is w.heap.size (w.heap.size + 1) n p (fun i => ltS (l.getD i default).1 nm) (TP w (.slice A n c) nm) h8 hpn hp.out.2.1 (fun i h1 h2 => hp.out.2.2 i h1 (by have := hn.out; omega)) HF)
  have eg : ∀ args w, (callFunc 76 args).run Try.prog w = .ok (.enter 76 args) w := enters_of Try.func76 (by kernel_rfl) rfl
  have HB : Hid (∀ W, Below (TP w (.slice A n c) nm).heap.size (TP w (.slice A n c) nm) W → W.cell? ⟨w.heap.size, 0, none⟩ = some (.slice A n c) ∧ W.cell? ⟨w.heap.size + 1, 0, none⟩ = some (.string nm) ∧ w.heap.size < W.heap.size ∧ w.heap.size + 1 < W.heap.size) := fun W hW =>
    ⟨(hW.cell (p := ⟨w.heap.size, 0, none⟩) (by simp [TP]; omega)).trans (by simp [TP, go_sem]), (hW.cell (p := ⟨w.heap.size + 1, 0, none⟩) (by simp [TP])).trans (by simp [TP]), by have := hW.size; simp [TP] at this; omega, by have := hW.size; simp [TP] at this; omega⟩
  clear HF
  by_cases hpl : p < n
  · obtain ⟨g, o, s, k, u, h, rfl, hg, hx, c1, c2, c3, c4⟩ := HR.out.at_ (i := p) (by have := hn.out; omega)
    have hq : (s.toList == nm.toList) = b := by
      have h1 := hb.out
      rw [at4_iff hp.out ha.out (by have := hn.out; omega), hx.out] at h1
      rw [Bool.eq_iff_iff, ← h1]
      exact eqS_iff
    have hpz : (p : Int) < (n : Int) := by omega
    have C1 := Lib.hid c1
    clear c1 c2 c3 c4 hb
    go_enter Try.func61, Try.ntmps61
    go_wp2_with (first | (go_at_call 76; (with_reducible refine HS.out.mono ?_); rintro e W1 ⟨rfl, hb1⟩; have HB1 := Lib.hid hb1; clear hb1; obtain ⟨q1, q2, q3, q4⟩ := HB.out W1 HB1.out; have q5 := (nx hT.out HB1.out).cell (p := ⟨g, o + p * 4, none⟩) hg; have q6 : g < W1.heap.size := Nat.lt_of_lt_of_le hg (nx hT.out HB1.out).size; rw [C1.out] at q5; have l1 : ∀ n os, (grow (W1.drewN n) os).cell? _ = _ := cell_grown q3 q1; have l2 : ∀ n os, (grow (W1.drewN n) os).cell? _ = _ := cell_grown q4 q2; have l3 : ∀ n os, (grow (W1.drewN n) os).cell? _ = _ := cell_grown q6 q5; clear q1 q2 q5))
    refine wp_region_quiet_grown mixed (by kernel_rfl) ?_
    repeat (go_big_quiet_step (first | fail))
    refine wpQuiet_nil ?_
    intro _ hw'
    obtain ⟨⟨nq, osq⟩, hw''⟩ := hw'
    subst hw''
    have hG := Lib.hid (Gro.below (⟨nq, osq, rfl⟩ : Gro W1 _))
    go_wp2
    exact bodyPost_ret (v := .tuple #[.int .i64 p, .bool b]) (by simp [results, Try.results61, go_sem]) rfl ⟨rfl, nx (nx hT.out HB1.out) hG.out⟩
  · obtain rfl : p = n := by omega
    have hend : Hid (b = false) := iff_no hb.out (fun ⟨i, hi⟩ => by have := hp.out.at_ ha.out hi; have := hi.1; have := hn.out; omega)
    have hb' := hend.out
    subst hb'
    clear hb
    go_enter Try.func61, Try.ntmps61
    go_wp2_with (first | (go_at_call 76; (with_reducible refine HS.out.mono ?_); rintro e W1 ⟨rfl, hb1⟩; have HB1 := Lib.hid hb1; clear hb1; obtain ⟨q1, q2, q3, q4⟩ := HB.out W1 HB1.out; have l1 : ∀ n os, (grow (W1.drewN n) os).cell? _ = _ := cell_grown q3 q1; have l2 : ∀ n os, (grow (W1.drewN n) os).cell? _ = _ := cell_grown q4 q2; clear q1 q2))
    refine wp_region_quiet_grown mixed (by kernel_rfl) ?_
    repeat (go_big_quiet_step (first | fail))
    refine wpQuiet_nil ?_
    intro _ hw'
    obtain ⟨⟨nq, osq⟩, hw''⟩ := hw'
    subst hw''
    have hG := Lib.hid (Gro.below (⟨nq, osq, rfl⟩ : Gro W1 _))
    go_wp2
    exact bodyPost_ret (v := .tuple #[.int .i64 p, .bool false]) (by simp [results, Try.results61, go_sem]) rfl ⟨rfl, nx (nx hT.out HB1.out) hG.out⟩
theorem rrd_one {W : World} {g : Nat} {s : ByteArray} {k u h : Int} (h0 : W.cell? ⟨g, 0, none⟩ = some (.string s)) (h1 : W.cell? ⟨g, 1, none⟩ = some (.int .i64 k)) (h2 : W.cell? ⟨g, 2, none⟩ = some (.int .i64 u)) (h3 : W.cell? ⟨g, 3, none⟩ = some (.int .i64 h)) : RRd W (some ⟨g, 0, none⟩) [(s, k, u, h)] := fun _ =>
  ⟨g, 0, rfl, World.block_lt_of_cell? W _ h0, fun i hi => by
    obtain rfl : i = 0 := by simpa using hi
    exact ⟨h0, h1, h2, h3⟩⟩
theorem rrd_new (w : World) (T : TypeId) (s : ByteArray) (k u h : Int) : RRd (w.alloc (.cells #[.string s, .int .i64 k, .int .i64 u, .int .i64 h] T)) (some ⟨w.heap.size, 0, none⟩) [(s, k, u, h)] := rrd_one (by simp) (by simp) (by simp) (by simp)
theorem OwnR.inR {w : World} {base : Nat} {V : Value} {l : List P4} (h : OwnR w base V l) (hb : l.length ≤ 3518437208880) : ∃ A c, V = .slice A l.length c ∧ InR w A l.length c l := by
  obtain ⟨A, c, rfl, hc, hr, _⟩ := h.form
  exact ⟨A, c, rfl, rfl, hr, hc, hb⟩
end Go.Proofs.Ytecipjjnbikheaa
