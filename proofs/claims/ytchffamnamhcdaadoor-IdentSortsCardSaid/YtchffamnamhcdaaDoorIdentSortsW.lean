/- IdentSorts walked. -/
import Derived.Test.YtchffamnamhcdaaDoorIsorted
import Derived.Test.YtchffamnamhcdaaDoorIopenP
import Derived.Shelf.SlSortCmp.QuietGrown
import Derived.BigQuiet
namespace Go.Proofs.YtchffamnamhcdaaDoor
set_option linter.unusedVariables false
open Go.RowKit
open Go.Sort (grow)

set_option maxHeartbeats 1000000 in
set_option maxRecDepth 8000 in
theorem refHas_gro (A : Option Addr) (n c : Nat) (ps : List P3) (a b d : Int) (w : World) (h : PRd w A ps) (hn : Hid (ps.length = n)) (hm : Hid (n ≤ 100)) {r : Bool} (hr : Hid (r = decide ((a, b, d) ∈ ps))) :
    Calls Tryd.prog 28 #[.slice A n c, .agg #[.int .i64 a, .int .i64 b, .int .i64 d]] w fun e w' => e = .returned (.bool r) ∧ Gro w w' := by
  have HR := Lib.hid h
  clear h
  go_enter Tryd.func28, Tryd.ntmps28
  go_wp2
  go_loopw [5] (fun i wr => ∃ (k : Nat), k ≤ n ∧ i = .int .i64 k ∧ Hid (B3 wr w.heap.size (.int .i64 a) (.int .i64 b) (.int .i64 d)) ∧ Hid (Gro w wr) ∧ Hid (∀ j, j < k → ¬ ps.getD j default = (a, b, d))) (fun i _ => n - (intOf i).toNat)
  case atStart => exact ⟨0, by omega, rfl, B3.new _ _ _ _ _, (Gro.refl _).alloc _, fun j hj => by omega⟩
  case round =>
    obtain ⟨k, hk, rfl, hbx, hbl, hno⟩ := hrel
    obtain ⟨i0, i1, i2, i3⟩ := hbx.out
    by_cases hlt : (k : Int) < (n : Int)
    · obtain ⟨g, o, x, y, z, rfl, hg, hxyz, c1, c2, c3⟩ := (HR.out.below hbl.out.below).at_ (i := k) (by have := hn.out; omega)
      have e5 : IntKind.i64.wrap ((k : Int) + 1) = (k : Int) + 1 := by have := hm.out; rw [IntKind.wrap_i64]; omega
      by_cases he : x = a ∧ y = b ∧ z = d
      · obtain ⟨rfl, rfl, rfl⟩ := he
        have hyes : Hid (r = true) := by
          show _ = _
          rw [hr.out, decide_eq_true_eq, ← hxyz.out]
          exact getD_mem (by have := hn.out; omega)
        go_wp2
        go_quiet (fail)
        go_wp2
        go_ret
        exact ⟨by rw [hyes.out]; rfl, hbl.out.drewN _⟩
      · have hno2 : Hid (∀ j, j < k + 1 → ¬ ps.getD j default = (a, b, d)) := fun j hj e => by
          by_cases hjk : j = k
          · subst hjk
            rw [hxyz.out] at e
            exact he (by simpa using e)
          · exact hno.out j (by omega) e
        have hne := eqPr_no he
        clear he
        go_wp2
        go_quiet (fail)
        go_wp2
        go_roundw
        case rel => exact ⟨k + 1, by omega, by go_num, hbx.out.below (bdN (Below.refl _ _) _), hbl.out.drewN _, hno2⟩
        case measure => simp [intOf]; omega
    · have hyes : Hid (r = false) := by
        show _ = _
        rw [hr.out, decide_eq_false_iff_not]
        intro hmem
        obtain ⟨i, hi, he⟩ := mem_getD hmem
        exact hno.out i (by have := hn.out; omega) he
      go_wp2
      go_ret
      exact ⟨by rw [hyes.out]; rfl, hbl.out⟩
theorem refHas_K {w0 W : World} (hb : Below w0.heap.size w0 W) (A : Option Addr) (n c : Nat) (ps : List P3) (a b d : Int) (HK : Hid (∀ W, Below w0.heap.size w0 W → PRd W A ps)) (hn : Hid (ps.length = n)) (hm : Hid (n ≤ 100)) {r : Bool} (hr : Hid (r = decide ((a, b, d) ∈ ps))) :
    Calls Tryd.prog 28 #[.slice A n c, .agg #[.int .i64 a, .int .i64 b, .int .i64 d]] W fun e w' => e = .returned (.bool r) ∧ Below W.heap.size W w' := refHas_any A n c ps a b d W (HK.out W hb) hn hm hr
theorem has_K {w0 W : World} (hb : Below w0.heap.size w0 W) (A : Option Addr) (n c : Nat) (ps : List P3) (a b d : Int) (HK : Hid (∀ W, Below w0.heap.size w0 W → PRd W A ps)) (hn : Hid (ps.length = n)) (hm : Hid (n ≤ 100)) {r : Bool} (hr : Hid (r = decide ((a, b, d) ∈ ps))) :
    Calls Tryd.prog 29 #[.slice A n c, .agg #[.int .i64 a, .int .i64 b, .int .i64 d]] W fun e w' => e = .returned (.bool r) ∧ Below W.heap.size W w' := has_any A n c ps a b d W (HK.out W hb) hn hm hr
theorem awake_K {w0 W : World} (hb : Below w0.heap.size w0 W) (HV : Hid (∀ W, Below w0.heap.size w0 W → Vars W)) :
    Calls Tryd.prog 14 #[] W fun e w' => e = .returned (.bool true) ∧ Below W.heap.size W w' := awake_any W (HV.out W hb)
/-- Three cells at a place of a block. -/
abbrev E3 (W : World) (g o : Nat) (x y z : Int) : Prop := W.cell? ⟨g, o, none⟩ = some (.int .i64 x) ∧ W.cell? ⟨g, o + 1, none⟩ = some (.int .i64 y) ∧ W.cell? ⟨g, o + 2, none⟩ = some (.int .i64 z)
theorem E3.of {w W : World} {g o : Nat} {x y z : Int} (h : E3 w g o x y z) (hg : g < w.heap.size) (hb : Below w.heap.size w W) : E3 W g o x y z :=
  ⟨(hb.cell (p := ⟨g, o, none⟩) hg).trans h.1, (hb.cell (p := ⟨g, o + 1, none⟩) hg).trans h.2.1, (hb.cell (p := ⟨g, o + 2, none⟩) hg).trans h.2.2⟩

set_option maxHeartbeats 2000000 in
set_option maxRecDepth 8000 in
theorem IdentSorts_walk (A0 : Option Addr) (n0 c0 : Nat) (x0 : List P3) (a1 b1 c1 : Int) (w : World) (hV : Vars w) (w0 : InP w A0 n0 c0 x0) (wa1 : (Lit.int .i64 a1).wf = true) (wb1 : (Lit.int .i64 b1).wf = true) (wc1 : (Lit.int .i64 c1).wf = true) :
    Calls Tryd.prog 8 #[.slice A0 n0 c0, .agg #[.int .i64 a1, .int .i64 b1, .int .i64 c1]] w fun e w' => e = .returned (.bool true) ∧ Below w.heap.size w w' := by
  obtain ⟨hl0, hr0, hf0⟩ := w0
  have HV := Lib.hid hV
  have HR := Lib.hid hr0
  have HL := Lib.hid hl0
  clear hV wa1 wb1 wc1 hl0 hr0
  by_cases h100 : 100 < (n0 : Int)
  · go_enter Tryd.func8, Tryd.ntmps8
    go_wp2_with (go_at_call 14; refine (awake_any _ (HV.out.below (newB w _))).mono ?_; rintro e W1 ⟨rfl, hb1⟩)
    go_ret
    exact ⟨rfl, nx (newB w _) hb1⟩
  · have hm : Hid (n0 ≤ 100) := by show _ ≤ _; omega
    obtain ⟨r, hr⟩ : ∃ r, Hid (r = decide ((a1, b1, c1) ∈ x0)) := ⟨_, rfl⟩
    go_enter Tryd.func8, Tryd.ntmps8
    go_wp2_with (go_at_call 27; refine (sorted_any _ _ _ _ _ (HR.out.below (newB w _)) HL hm).mono ?_; rintro e W1 ⟨B, m, cc, qs, rfl, hqm, hmn, hq, hmem, hasc, hb1⟩; have hW1 := Lib.hid (nx (newB w _) hb1); have x1 := Lib.hid ((B3.new w _ _ _ _).below hb1); clear hb1)
    have hm2 : Hid (m ≤ 100) := by have := hm.out; show _ ≤ _; omega
    have hrq : Hid (r = decide ((a1, b1, c1) ∈ qs)) := by
      show _ = _
      rw [hr.out]
      exact decide_eq_decide.2 (hmem.out _).symm
    go_loopw [6] (fun i wr => ∃ k : Nat, k ≤ m ∧ i = .int .i64 k ∧ Hid (Below W1.heap.size W1 wr)) (fun i _ => m - (intOf i).toNat)
    case atStart => exact ⟨0, by omega, rfl, Below.refl _ _⟩
    case round =>
      obtain ⟨k, hk, rfl, hbr⟩ := hrel
      have mixed : Tryd.prog.follows .mixedOrders = true := by kernel_rfl
      by_cases hlt : (k : Int) < (m : Int)
      · have hkm : k < qs.length := by have := hqm.out; omega
        obtain ⟨g, o, x, y, z, rfl, hg, hxyz, k1, k2, k3⟩ := (hq.out.below hbr.out).at_ hkm
        have hin : Hid (true = decide ((x, y, z) ∈ x0)) := by
          show _ = _
          symm
          rw [decide_eq_true_eq, ← hmem.out, ← hxyz.out]
          exact getD_mem hkm
        have HG : Hid (∀ n os, Gro wr (grow (wr.drewN n) os)) := fun n os => ⟨n, os, rfl⟩
        have HK : Hid (∀ n os, PRd (grow (wr.drewN n) os) A0 x0) := fun n os => (HR.out.below (nx hW1.out hbr.out)).below (HG.out n os).below
        have e5 : IntKind.i64.wrap ((k : Int) + 1) = (k : Int) + 1 := by have := hm2.out; rw [IntKind.wrap_i64]; omega
        cases k with
        | zero =>
          rw [Nat.zero_mul, Nat.add_zero] at k1 k2 k3
          have l1 : ∀ n os, (grow (wr.drewN n) os).cell? ⟨g, o, none⟩ = some (.int .i64 x) := fun n os => ((HG.out n os).cell hg).trans k1
          have l2 : ∀ n os, (grow (wr.drewN n) os).cell? ⟨g, o + 1, none⟩ = some (.int .i64 y) := fun n os => ((HG.out n os).cell hg).trans k2
          have l3 : ∀ n os, (grow (wr.drewN n) os).cell? ⟨g, o + 2, none⟩ = some (.int .i64 z) := fun n os => ((HG.out n os).cell hg).trans k3
          go_wp2
          refine wp_region_quiet_grown mixed (by kernel_rfl) ?_
          repeat (go_big_quiet_step (first | (go_at_call 28; refine Calls.grown_of (refHas_gro _ _ _ _ _ _ _ _ (HK.out _ _) HL hm hin))))
          refine wpQuiet_nil ?_
          intro _ hw'
          obtain ⟨⟨nq, osq⟩, hw''⟩ := hw'
          subst hw''
          go_wp2
          go_roundw
          case rel => exact ⟨1, by omega, by go_num, nx hbr.out (HG.out nq osq).below⟩
          case measure => simp [intOf]; omega
        | succ kk =>
          obtain ⟨g', o', a, b, d, hA, _, habd, d1, d2, d3⟩ := (hq.out.below hbr.out).at_ (i := kk) (by omega)
          obtain ⟨rfl, rfl⟩ : g = g' ∧ o = o' := by simpa using hA
          clear hA
          have hcmp : Hid (cmp3 a b d x y z = -1) := by
            have h1 := (List.pairwise_iff_getElem.1 hasc.out) kk (kk + 1) (by omega) hkm (by omega)
            have e1 : qs[kk] = (a, b, d) := by rw [← habd.out, List.getD_eq_getElem?_getD, List.getElem?_eq_getElem (by omega)]; rfl
            have e2 : qs[kk + 1] = (x, y, z) := by rw [← hxyz.out, List.getD_eq_getElem?_getD, List.getElem?_eq_getElem hkm]; rfl
            rw [e1, e2] at h1
            have h2 := of_decide_eq_true h1
            have h3 : cp (a, b, d) (x, y, z) = cmp3 a b d x y z := rfl
            show _ = _
            rcases cmp3_cases a b d x y z with ⟨_, e⟩ | ⟨_, e⟩ | ⟨_, e⟩ <;> omega
          have l1 : ∀ n os, (grow (wr.drewN n) os).cell? ⟨g, o + (kk + 1) * 3, none⟩ = some (.int .i64 x) := fun n os => ((HG.out n os).cell hg).trans k1
          have l2 : ∀ n os, (grow (wr.drewN n) os).cell? ⟨g, o + (kk + 1) * 3 + 1, none⟩ = some (.int .i64 y) := fun n os => ((HG.out n os).cell hg).trans k2
          have l3 : ∀ n os, (grow (wr.drewN n) os).cell? ⟨g, o + (kk + 1) * 3 + 2, none⟩ = some (.int .i64 z) := fun n os => ((HG.out n os).cell hg).trans k3
          have l4 : ∀ n os, (grow (wr.drewN n) os).cell? ⟨g, o + kk * 3, none⟩ = some (.int .i64 a) := fun n os => ((HG.out n os).cell hg).trans d1
          have l5 : ∀ n os, (grow (wr.drewN n) os).cell? ⟨g, o + kk * 3 + 1, none⟩ = some (.int .i64 b) := fun n os => ((HG.out n os).cell hg).trans d2
          have l6 : ∀ n os, (grow (wr.drewN n) os).cell? ⟨g, o + kk * 3 + 2, none⟩ = some (.int .i64 d) := fun n os => ((HG.out n os).cell hg).trans d3
          have e6 : IntKind.i64.wrap (kk : Int) = (kk : Int) := by have := hm2.out; rw [IntKind.wrap_i64]; omega
          have e7 : (kk : Int) < (m : Int) := by omega
          have e8 : 0 < (kk : Int) + 1 := by omega
          have e9 : (kk : Int) + 1 < (m : Int) := by omega
          have hcg : ∀ n os, Calls Tryd.prog 20 #[.agg #[.int .i64 a, .int .i64 b, .int .i64 d], .agg #[.int .i64 x, .int .i64 y, .int .i64 z]] (grow (wr.drewN n) os) fun e w' => e = .returned (.int .i64 (-1)) ∧ ∃ q os', w' = grow ((grow (wr.drewN n) os).drewN q) os' := fun n os => by
            have h := refCompareProc_any a b d x y z (grow (wr.drewN n) os)
            rw [hcmp.out] at h
            exact h
          have HCG := Lib.hid hcg
          clear hcg k1 k2 k3 d1 d2 d3
          go_wp2
          refine wp_region_quiet_grown mixed (by kernel_rfl) ?_
          repeat (go_big_quiet_step (first
            | (go_at_call 28; refine Calls.grown_of (refHas_gro _ _ _ _ _ _ _ _ (HK.out _ _) HL hm hin))
            | (go_at_call 20; refine Calls.grown_of (HCG.out _ _))))
          refine wpQuiet_nil ?_
          intro _ hw'
          obtain ⟨⟨nq, osq⟩, hw''⟩ := hw'
          subst hw''
          go_wp2
          go_roundw
          case rel => exact ⟨kk + 1 + 1, by omega, by go_num, nx hbr.out (HG.out nq osq).below⟩
          case measure => simp [intOf]; omega
      · go_wp2
        clear hlt
        go_loopw [7] (fun i wr => ∃ k : Nat, k ≤ n0 ∧ i = .int .i64 k ∧ Hid (Below W1.heap.size W1 wr)) (fun i _ => n0 - (intOf i).toNat)
        case atStart => exact ⟨0, by omega, rfl, hbr⟩
        case round =>
          clear hbr
          obtain ⟨j, hj, rfl, hbr⟩ := hrel
          have HQ : Hid (∀ W, Below wr.heap.size wr W → PRd W B qs) := fun W hW => (hq.out.below hbr.out).below hW
          have HK : Hid (∀ W, Below wr.heap.size wr W → PRd W A0 x0) := fun W hW => (HR.out.below (nx hW1.out hbr.out)).below hW
          by_cases hlt : (j : Int) < (n0 : Int)
          · have hjn : j < x0.length := by have := HL.out; omega
            obtain ⟨g, o, x, y, z, rfl, hg, hxyz, k1, k2, k3⟩ := (HK.out wr (Below.refl _ _)).at_ hjn
            have hin : Hid (true = decide ((x, y, z) ∈ qs)) := by
              show _ = _
              symm
              rw [decide_eq_true_eq, hmem.out, ← hxyz.out]
              exact getD_mem hjn
            have e5 : IntKind.i64.wrap ((j : Int) + 1) = (j : Int) + 1 := by have := hm.out; rw [IntKind.wrap_i64]; omega
            go_wp2_with (go_at_call 29; refine (has_K (Below.refl _ _) _ _ _ _ _ _ _ HQ hqm hm2 hin).mono ?_; rintro e W2 ⟨rfl, hb2⟩)
            go_roundw
            case rel => exact ⟨j + 1, by omega, by go_num, nx hbr.out hb2⟩
            case measure => simp [intOf]; omega
          · have hbox : C3 wr w.heap.size (.int .i64 a1) (.int .i64 b1) (.int .i64 c1) := (x1.out.below hbr.out).2
            have hsz : w.heap.size < wr.heap.size := (x1.out.below hbr.out).1
            have KP : Hid (∀ W, Below wr.heap.size wr W → Below wr.heap.size wr W ∧ C3 W w.heap.size (.int .i64 a1) (.int .i64 b1) (.int .i64 c1)) := fun W hW => ⟨hW, C3.of hW hsz hbox⟩
            have HV2 : Hid (∀ W, Below wr.heap.size wr W → Vars W) := fun W hW => HV.out.below (nx (nx hW1.out hbr.out) hW)
            clear hbox
            go_wp2
            go_region_held3 (fun W => Below wr.heap.size wr W ∧ C3 W w.heap.size (.int .i64 a1) (.int .i64 b1) (.int .i64 c1))
              (first
                | exact KP.out _ (Below.refl _ _)
                | exact KP.out _ (Below.refl _ _).drew
                | (go_split_ands; exact KP.out _ (nx (by assumption) hb2)))
              (first
                | (go_at_call 14; go_split_ands; (with_reducible refine (awake_K ?_ HV2).mono ?_); (· assumption); rintro e W2 ⟨rfl, hb2⟩)
                | (go_at_call 28; go_split_ands; (with_reducible refine (refHas_K ?_ A0 n0 c0 x0 a1 b1 c1 HK HL hm hr).mono ?_); (· assumption); rintro e W2 ⟨rfl, hb2⟩)
                | (go_at_call 29; go_split_ands; (with_reducible refine (has_K ?_ A0 n0 c0 x0 a1 b1 c1 HK HL hm hr).mono ?_); (· assumption); rintro e W2 ⟨rfl, hb2⟩)
                | (go_at_call 29; go_split_ands; (with_reducible refine (has_K ?_ B m cc qs a1 b1 c1 HQ hqm hm2 hrq).mono ?_); (· assumption); rintro e W2 ⟨rfl, hb2⟩))
            all_goals (go_wp2; go_ret; go_split_ands; exact ⟨by first | rfl | simp, nx (nx hW1.out hbr.out) (by assumption)⟩)
end Go.Proofs.YtchffamnamhcdaaDoor
