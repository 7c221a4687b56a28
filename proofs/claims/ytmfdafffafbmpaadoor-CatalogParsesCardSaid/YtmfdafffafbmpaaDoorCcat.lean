/- Contracts: which catalogs are valid. -/
import Derived.Test.YtmfdafffafbmpaaDoorCres
import Derived.BigQuiet
namespace Go.Proofs.YtmfdafffafbmpaaDoor
open Go.RowKit
open Go.Sort (grow)
set_option linter.unusedVariables false
set_option linter.unusedSimpArgs false

theorem vcat_ex (l : List P4) : ∃ r, Hid (Vcat l ↔ r = true) := by
  by_cases h : Vcat l
  · exact ⟨true, fun _ => rfl, fun _ => h⟩
  · exact ⟨false, fun k => absurd k h, fun k => by cases k⟩
set_option maxHeartbeats 4000000 in
set_option maxRecDepth 8000 in
theorem refVcat_is (A : Option Addr) (n c : Nat) (l : List P4) (w : World) (hl : RRd w A l) (hn : Hid (l.length = n)) {r : Bool} (hr : Hid (Vcat l ↔ r = true)) :
    Calls Tryd.prog 21 #[.slice A n c] w fun e w' => e = .returned (.bool r) ∧ Gro w w' := by
  have HR := Lib.hid hl
  clear hl
  by_cases h8 : 8 < (n : Int)
  · have hend : Hid (r = false) := iff_no hr.out (fun h => by have := h.1; have := hn.out; omega)
    clear hr
    go_enter Tryd.func21, Tryd.ntmps21
    go_wp2
    go_ret
    exact ⟨ret_bool hend.out.symm, Gro.refl _⟩
  · have hn8 : n ≤ 8 := by omega
    go_enter Tryd.func21, Tryd.ntmps21
    go_wp2
    go_loopw [3] (fun i wr => ∃ (j : Nat), j ≤ n ∧ i = .int .i64 j ∧ Hid (Gro w wr) ∧ Hid (∀ i, i < j → RsR (l.getD i default)) ∧ Hid (∀ i, i + 1 < j → ltS (l.getD i default).1 (l.getD (i + 1) default).1 = true)) (fun i _ => n - (intOf i).toNat)
    case atStart => exact ⟨0, by omega, rfl, Gro.refl _, fun i hi => by omega, fun i hi => by omega⟩
    case round =>
      obtain ⟨j, hj, rfl, hG, hall, hasc⟩ := hrel
      have mixed : Tryd.prog.follows .mixedOrders = true := by kernel_rfl
      by_cases hlt : (j : Int) < (n : Int)
      · obtain ⟨g, o, s, k, u, h, rfl, hg, hx, c1, c2, c3, c4⟩ := (HR.out.below hG.out.below).at_ (i := j) (by have := hn.out; omega)
        have e5 : IntKind.i64.wrap ((j : Int) + 1) = (j : Int) + 1 := by rw [IntKind.wrap_i64]; omega
        obtain ⟨v, hv⟩ := rsr_ex s k u h
        have hv0 : Hid (RsR (l.getD j default) ↔ v = true) := by show _ ↔ _; rw [hx.out]; exact hv.out
        have l1 : ∀ n os, (grow (wr.drewN n) os).cell? ⟨g, o + j * 4, none⟩ = some (.string s) := cell_grown hg c1
        have l2 : ∀ n os, (grow (wr.drewN n) os).cell? ⟨g, o + j * 4 + 1, none⟩ = some (.int .i64 k) := cell_grown hg c2
        have l3 : ∀ n os, (grow (wr.drewN n) os).cell? ⟨g, o + j * 4 + 2, none⟩ = some (.int .i64 u) := cell_grown hg c3
        have l4 : ∀ n os, (grow (wr.drewN n) os).cell? ⟨g, o + j * 4 + 3, none⟩ = some (.int .i64 h) := cell_grown hg c4
        have HV := Lib.hid (fun n os => refRsr_is s k u h (grow (wr.drewN n) os) hv)
        cases v with
        | false =>
          have hend : Hid (r = false) := iff_no hr.out (fun hh => by have := hv0.out.1 (hh.2.1 j (by have := hn.out; omega)); cases this)
          clear hr
          go_wp2
          refine wp_region_quiet_grown mixed (by kernel_rfl) ?_
          repeat (go_big_quiet_step (first
              | (go_at_call 19; refine Calls.grown_of (HV.out _ _))))
          refine wpQuiet_nil ?_
          intro _ hw'
          obtain ⟨⟨nq, osq⟩, hw''⟩ := hw'
          subst hw''
          all_goals (
            have hG2 := Lib.hid (hG.out.trans (⟨nq, osq, rfl⟩ : Gro wr _))
            go_wp2
            go_ret
            exact ⟨ret_bool hend.out.symm, hG2.out⟩)
        | true =>
          have hall2 : Hid (∀ i, i < j + 1 → RsR (l.getD i default)) := fun i hi => by
            by_cases e : i = j
            · subst e; exact hv0.out.2 rfl
            · exact hall.out i (by omega)
          by_cases hj0 : 0 < j
          · obtain ⟨m, hm⟩ : ∃ m, Hid (j = m + 1) := ⟨j - 1, by show _ = _; omega⟩
            have e6 : IntKind.i64.wrap ((j : Int) - 1) = (m : Int) := by have := hm.out; rw [IntKind.wrap_i64]; omega
            have e8 : IntKind.i64.wrap (m : Int) = (m : Int) := by have := hm.out; rw [IntKind.wrap_i64]; omega
            have e9 : (m : Int) < (n : Int) := by have := hm.out; omega
            obtain ⟨g', o', s', k', u', h', hA, _, hx', d1, _, _, _⟩ := (HR.out.below hG.out.below).at_ (i := m) (by have := hn.out; have := hm.out; omega)
            obtain ⟨rfl, rfl⟩ : g = g' ∧ o = o' := by simpa using hA
            clear hA
            have l5 : ∀ n os, (grow (wr.drewN n) os).cell? ⟨g, o + m * 4, none⟩ = some (.string s') := cell_grown hg d1
            have hlex : Hid (ltS (l.getD m default).1 (l.getD (m + 1) default).1 = Op.bytesLess s'.toList s.toList) := by show _ = _; rw [← hm.out, hx.out, hx'.out]; rfl
            cases hq : Op.bytesLess s'.toList s.toList with
            | true =>
              have hasc2 : Hid (∀ i, i + 1 < j + 1 → ltS (l.getD i default).1 (l.getD (i + 1) default).1 = true) := fun i hi => by
                by_cases e : i = m
                · subst e; rw [hlex.out, hq]
                · exact hasc.out i (by have := hm.out; omega)
              clear c1 c2 c3 c4 d1
              go_wp2
              refine wp_region_quiet_grown mixed (by kernel_rfl) ?_
              repeat (go_big_quiet_step (first
                  | (go_at_call 19; refine Calls.grown_of (HV.out _ _))))
              refine wpQuiet_nil ?_
              intro _ hw'
              obtain ⟨⟨nq, osq⟩, hw''⟩ := hw'
              subst hw''
              all_goals (
                have hG2 := Lib.hid (hG.out.trans (⟨nq, osq, rfl⟩ : Gro wr _))
                go_wp2
                go_roundw
                case rel => exact ⟨j + 1, by omega, by go_num, hG2, hall2, hasc2⟩
                case measure => simp [intOf]; omega)
            | false =>
              have hend : Hid (r = false) := iff_no hr.out (fun hh => by have := hh.2.2 m (by have := hn.out; have := hm.out; omega); rw [hlex.out, hq] at this; cases this)
              clear hr c1 c2 c3 c4 d1
              go_wp2
              refine wp_region_quiet_grown mixed (by kernel_rfl) ?_
              repeat (go_big_quiet_step (first
                  | (go_at_call 19; refine Calls.grown_of (HV.out _ _))))
              refine wpQuiet_nil ?_
              intro _ hw'
              obtain ⟨⟨nq, osq⟩, hw''⟩ := hw'
              subst hw''
              all_goals (
                have hG2 := Lib.hid (hG.out.trans (⟨nq, osq, rfl⟩ : Gro wr _))
                go_wp2
                go_ret
                exact ⟨ret_bool hend.out.symm, hG2.out⟩)
          · have hasc2 : Hid (∀ i, i + 1 < j + 1 → ltS (l.getD i default).1 (l.getD (i + 1) default).1 = true) := fun i hi => by omega
            clear c1 c2 c3 c4
            go_wp2
            refine wp_region_quiet_grown mixed (by kernel_rfl) ?_
            repeat (go_big_quiet_step (first
                | (go_at_call 19; refine Calls.grown_of (HV.out _ _))))
            refine wpQuiet_nil ?_
            intro _ hw'
            obtain ⟨⟨nq, osq⟩, hw''⟩ := hw'
            subst hw''
            all_goals (
              have hG2 := Lib.hid (hG.out.trans (⟨nq, osq, rfl⟩ : Gro wr _))
              go_wp2
              go_roundw
              case rel => exact ⟨j + 1, by omega, by go_num, hG2, hall2, hasc2⟩
              case measure => simp [intOf]; omega)
      · have hend : Hid (r = true) := hr.out.1 ⟨by have := hn.out; omega, fun i hi => hall.out i (by have := hn.out; omega), fun i hi => hasc.out i (by have := hn.out; omega)⟩
        go_wp2
        go_ret
        exact ⟨ret_bool hend.out.symm, hG.out⟩
set_option maxHeartbeats 4000000 in
set_option maxRecDepth 8000 in
theorem vcat_is (A : Option Addr) (n c : Nat) (l : List P4) (w : World) (hl : RRd w A l) (hn : Hid (l.length = n)) {r : Bool} (hr : Hid (Vcat l ↔ r = true)) :
    Calls Tryd.prog 20 #[.slice A n c] w fun e w' => e = .returned (.bool r) ∧ Gro w w' := by
  have HR := Lib.hid hl
  clear hl
  by_cases h8 : 8 < (n : Int)
  · have hend : Hid (r = false) := iff_no hr.out (fun h => by have := h.1; have := hn.out; omega)
    clear hr
    go_enter Tryd.func20, Tryd.ntmps20
    go_wp2
    go_ret
    exact ⟨ret_bool hend.out.symm, Gro.refl _⟩
  · have hn8 : n ≤ 8 := by omega
    go_enter Tryd.func20, Tryd.ntmps20
    go_wp2
    go_loopw [3, 4, 10] (fun x p i wr => ∃ (j : Nat), j ≤ n ∧ i = .int .i64 j ∧ Hid (Gro w wr) ∧ Hid (∀ i, i < j → RsR (l.getD i default)) ∧ Hid (∀ i, i + 1 < j → ltS (l.getD i default).1 (l.getD (i + 1) default).1 = true)) (fun _ _ i _ => n - (intOf i).toNat)
    case atStart => exact ⟨0, by omega, rfl, Gro.refl _, fun i hi => by omega, fun i hi => by omega⟩
    case round =>
      obtain ⟨j, hj, rfl, hG, hall, hasc⟩ := hrel
      have mixed : Tryd.prog.follows .mixedOrders = true := by kernel_rfl
      by_cases hlt : (j : Int) < (n : Int)
      · obtain ⟨g, o, s, k, u, h, rfl, hg, hx, c1, c2, c3, c4⟩ := (HR.out.below hG.out.below).at_ (i := j) (by have := hn.out; omega)
        have e5 : IntKind.i64.wrap ((j : Int) + 1) = (j : Int) + 1 := by rw [IntKind.wrap_i64]; omega
        obtain ⟨v, hv⟩ := rsr_ex s k u h
        have hv0 : Hid (RsR (l.getD j default) ↔ v = true) := by show _ ↔ _; rw [hx.out]; exact hv.out
        have hgB : g < (wr.alloc (.cells #[.string s, .int .i64 k, .int .i64 u, .int .i64 h] 26)).heap.size := by simp; omega
        obtain ⟨WB, hWB⟩ : ∃ WB, Hid (wr.alloc (.cells #[.string s, .int .i64 k, .int .i64 u, .int .i64 h] 26) = WB) := ⟨_, rfl⟩
        have hbx : WB.cell? ⟨wr.heap.size, 0, none⟩ = some (.string s) ∧ WB.cell? ⟨wr.heap.size, 1, none⟩ = some (.int .i64 k) ∧ WB.cell? ⟨wr.heap.size, 2, none⟩ = some (.int .i64 u) ∧ WB.cell? ⟨wr.heap.size, 3, none⟩ = some (.int .i64 h) := by rw [← hWB.out]; exact ⟨by simp, by simp, by simp, by simp⟩
        have hGB : Hid (Gro wr WB) := by rw [← hWB.out]; exact Gro.new _ _
        have hgb : g < WB.heap.size := Nat.lt_of_lt_of_le hg hGB.out.below.size
        have hsb : wr.heap.size < WB.heap.size := by rw [← hWB.out]; simp
        have l1 : ∀ n os, (grow (WB.drewN n) os).cell? ⟨wr.heap.size, 0, none⟩ = some (.string s) := cell_grown hsb hbx.1
        have l2 : ∀ n os, (grow (WB.drewN n) os).cell? ⟨wr.heap.size, 1, none⟩ = some (.int .i64 k) := cell_grown hsb hbx.2.1
        have l3 : ∀ n os, (grow (WB.drewN n) os).cell? ⟨wr.heap.size, 2, none⟩ = some (.int .i64 u) := cell_grown hsb hbx.2.2.1
        have l4 : ∀ n os, (grow (WB.drewN n) os).cell? ⟨wr.heap.size, 3, none⟩ = some (.int .i64 h) := cell_grown hsb hbx.2.2.2
        clear hbx hgB
        have HV := Lib.hid (fun n os => rsr_is s k u h (grow (WB.drewN n) os) hv)
        cases v with
        | false =>
          have hend : Hid (r = false) := iff_no hr.out (fun hh => by have := hv0.out.1 (hh.2.1 j (by have := hn.out; omega)); cases this)
          clear hr
          go_wp2
          rw [hWB.out]
          refine wp_region_quiet_grown mixed (by kernel_rfl) ?_
          repeat (go_big_quiet_step (first
              | (go_at_call 18; refine Calls.grown_of (HV.out _ _))))
          refine wpQuiet_nil ?_
          intro _ hw'
          obtain ⟨⟨nq, osq⟩, hw''⟩ := hw'
          subst hw''
          all_goals (
            have hG2 := Lib.hid ((hG.out.trans hGB.out).trans (⟨nq, osq, rfl⟩ : Gro WB _))
            go_wp2
            go_ret
            exact ⟨ret_bool hend.out.symm, hG2.out⟩)
        | true =>
          have hall2 : Hid (∀ i, i < j + 1 → RsR (l.getD i default)) := fun i hi => by
            by_cases e : i = j
            · subst e; exact hv0.out.2 rfl
            · exact hall.out i (by omega)
          by_cases hj0 : 0 < j
          · obtain ⟨m, hm⟩ : ∃ m, Hid (j = m + 1) := ⟨j - 1, by show _ = _; omega⟩
            have e6 : IntKind.i64.wrap ((j : Int) - 1) = (m : Int) := by have := hm.out; rw [IntKind.wrap_i64]; omega
            have e8 : IntKind.i64.wrap (m : Int) = (m : Int) := by have := hm.out; rw [IntKind.wrap_i64]; omega
            have e9 : (m : Int) < (n : Int) := by have := hm.out; omega
            obtain ⟨g', o', s', k', u', h', hA, _, hx', d1, _, _, _⟩ := (HR.out.below hG.out.below).at_ (i := m) (by have := hn.out; have := hm.out; omega)
            obtain ⟨rfl, rfl⟩ : g = g' ∧ o = o' := by simpa using hA
            clear hA
            have l5 : ∀ n os, (grow (WB.drewN n) os).cell? ⟨g, o + m * 4, none⟩ = some (.string s') := cell_grown hgb ((hGB.out.below.cell (p := ⟨g, o + m * 4, none⟩) hg).trans d1)
            have hlex : Hid (ltS (l.getD m default).1 (l.getD (m + 1) default).1 = Op.bytesLess s'.toList s.toList) := by show _ = _; rw [← hm.out, hx.out, hx'.out]; rfl
            cases hq : Op.bytesLess s'.toList s.toList with
            | true =>
              have hasc2 : Hid (∀ i, i + 1 < j + 1 → ltS (l.getD i default).1 (l.getD (i + 1) default).1 = true) := fun i hi => by
                by_cases e : i = m
                · subst e; rw [hlex.out, hq]
                · exact hasc.out i (by have := hm.out; omega)
              go_wp2
              rw [hWB.out]
              refine wp_region_quiet_grown mixed (by kernel_rfl) ?_
              repeat (go_big_quiet_step (first
                  | (go_at_call 18; refine Calls.grown_of (HV.out _ _))))
              refine wpQuiet_nil ?_
              intro _ hw'
              obtain ⟨⟨nq, osq⟩, hw''⟩ := hw'
              subst hw''
              all_goals (
                have hG2 := Lib.hid ((hG.out.trans hGB.out).trans (⟨nq, osq, rfl⟩ : Gro WB _))
                go_wp2
                go_roundw
                case rel => exact ⟨j + 1, by omega, by go_num, hG2, hall2, hasc2⟩
                case measure => simp [intOf]; omega)
            | false =>
              have hend : Hid (r = false) := iff_no hr.out (fun hh => by have := hh.2.2 m (by have := hn.out; have := hm.out; omega); rw [hlex.out, hq] at this; cases this)
              clear hr
              go_wp2
              rw [hWB.out]
              refine wp_region_quiet_grown mixed (by kernel_rfl) ?_
              repeat (go_big_quiet_step (first
                  | (go_at_call 18; refine Calls.grown_of (HV.out _ _))))
              refine wpQuiet_nil ?_
              intro _ hw'
              obtain ⟨⟨nq, osq⟩, hw''⟩ := hw'
              subst hw''
              all_goals (
                have hG2 := Lib.hid ((hG.out.trans hGB.out).trans (⟨nq, osq, rfl⟩ : Gro WB _))
                go_wp2
                go_ret
                exact ⟨ret_bool hend.out.symm, hG2.out⟩)
          · have hasc2 : Hid (∀ i, i + 1 < j + 1 → ltS (l.getD i default).1 (l.getD (i + 1) default).1 = true) := fun i hi => by omega
            go_wp2
            rw [hWB.out]
            refine wp_region_quiet_grown mixed (by kernel_rfl) ?_
            repeat (go_big_quiet_step (first
                | (go_at_call 18; refine Calls.grown_of (HV.out _ _))))
            refine wpQuiet_nil ?_
            intro _ hw'
            obtain ⟨⟨nq, osq⟩, hw''⟩ := hw'
            subst hw''
            all_goals (
              have hG2 := Lib.hid ((hG.out.trans hGB.out).trans (⟨nq, osq, rfl⟩ : Gro WB _))
              go_wp2
              go_roundw
              case rel => exact ⟨j + 1, by omega, by go_num, hG2, hall2, hasc2⟩
              case measure => simp [intOf]; omega)
      · have hend : Hid (r = true) := hr.out.1 ⟨by have := hn.out; omega, fun i hi => hall.out i (by have := hn.out; omega), fun i hi => hasc.out i (by have := hn.out; omega)⟩
        go_wp2
        go_ret
        exact ⟨ret_bool hend.out.symm, hG.out⟩
end Go.Proofs.YtmfdafffafbmpaaDoor
