/- Contracts: parseLine. -/
import Derived.Test.YtmfdafffafbmpaaDoorCpl
namespace Go.Proofs.YtmfdafffafbmpaaDoor
open Go.RowKit
open Go.Sort (grow)
set_option linter.unusedVariables false
set_option linter.unusedSimpArgs false

/-- A box of a resource, as yet zero: its cells and their marks. -/
abbrev RZ (W : World) (k : Nat) : Prop := (W.cell? ⟨k, 0, none⟩ = some (.string ⟨#[]⟩) ∧ W.cell? ⟨k, 1, none⟩ = some (.int .i64 0) ∧ W.cell? ⟨k, 2, none⟩ = some (.int .i64 0) ∧ W.cell? ⟨k, 3, none⟩ = some (.int .i64 0)) ∧ W.frozen? ⟨k, 0, none⟩ = false ∧ W.frozen? ⟨k, 1, none⟩ = false ∧ W.frozen? ⟨k, 2, none⟩ = false ∧ W.frozen? ⟨k, 3, none⟩ = false
theorem R0.rz {W : World} {k : Nat} (h : R0 W k) : RZ W k := ⟨h.1.2, h.2 0, h.2 1, h.2 2, h.2 3⟩
set_option maxHeartbeats 4000000 in
set_option maxRecDepth 8000 in
theorem parse4 (s : ByteArray) (hs : s.size ≤ 100000) (w : World) (hV : VP w) {a b c d : List UInt8} (hx : Hid (Lib.fieldsD s.data.toList = [a, b, c, d])) (hd : d.length ≤ 100000) {v : Int} (hv : Hid (numW d = v)) :
    Calls Tryd.prog 52 #[.string s] w fun e w' => e = .returned (ra (mkB b) 1 1 v) ∧ Below w.heap.size w w' := by
  have HV := Lib.hid hV
  have hn4 : Hid ([a, b, c, d].length = 4) := rfl
  obtain ⟨B, hB⟩ : ∃ B, Hid (mkB b = B) := ⟨_, rfl⟩
  obtain ⟨D, hD⟩ : ∃ D, Hid (mkB d = D) := ⟨_, rfl⟩
  have hDs : D.size ≤ 140737488351232 := by rw [← hD.out, mkB_size]; omega
  have hDv : Hid (numW D.data.toList = v) := by show _ = _; rw [← hD.out, mkB_data]; exact hv.out
  clear hV hv hd
  rw [hB.out]
  go_enter Tryd.func52, Tryd.ntmps52
  go_wp2_with (first | (go_at_call 67; refine (fields_is _ hs _ (HV.out.below (newB _ _)) hx hn4).mono ?_; rintro e W1 ⟨g, rfl, hc, hg, hg2, hb1⟩; have HC := Lib.hid hc; have HB1 := Lib.hid hb1; clear hc hb1))
  have hr0 := (R0.new w 26).below HB1.out
  have HK : Hid (∀ W, Below W1.heap.size W1 W → Below W1.heap.size W1 W ∧ W.cell? ⟨g, 1, none⟩ = some (.string B) ∧ W.cell? ⟨g, 3, none⟩ = some (.string D) ∧ RZ W w.heap.size) := fun W hW =>
    ⟨hW, (hW.cell (p := ⟨g, 1, none⟩) hg).trans (by rw [← hB.out]; exact HC.out 1 b rfl), (hW.cell (p := ⟨g, 3, none⟩) hg).trans (by rw [← hD.out]; exact HC.out 3 d rfl), (hr0.below hW).rz⟩
  have HV1 := Lib.hid (HV.out.below (dn1 HB1.out))
  clear hr0
  obtain ⟨_, l1, l3, ⟨z0, z1, z2, z3⟩, f0, f1, f2, f3⟩ := HK.out _ (Below.refl _ _)
  go_region_with (first
    | (go_at_call 68; refine (number_is D hDs _ (HV1.out.below (bdD (Below.refl _ _))) hDv).mono ?_; rintro e W2 ⟨rfl, hb2⟩; have HB2 := Lib.hid (nx (bdD (Below.refl W1.heap.size W1)) hb2); clear hb2 l1 l3 z0 z1 z2 z3 f0 f1 f2 f3; obtain ⟨_, l1, l3, ⟨z0, z1, z2, z3⟩, f0, f1, f2, f3⟩ := HK.out W2 HB2.out))
  all_goals (
    go_wp2
    exact bodyPost_ret (v := ra B 1 1 v) (by simp [results, Tryd.results52, go_sem, z0, z1, z2, z3, f0, f1, f2, f3]) rfl ⟨rfl, by first | exact (((((dn1 (nx HB1.out HB2.out)).setCell (Nat.le_refl _) _).setCell (Nat.le_refl _) _).setCell (Nat.le_refl _) _).setCell (Nat.le_refl _) _) | exact (((((bdD (dn1 (nx HB1.out HB2.out))).setCell (Nat.le_refl _) _).setCell (Nat.le_refl _) _).setCell (Nat.le_refl _) _).setCell (Nat.le_refl _) _)⟩)
set_option maxHeartbeats 8000000 in
set_option maxRecDepth 8000 in
theorem parse5 (s : ByteArray) (hs : s.size ≤ 100000) (w : World) (hV : VP w) {a b c d q : List UInt8} (hx : Hid (Lib.fieldsD s.data.toList = [a, b, c, d, q])) (hc0 : c.length ≤ 100000) (hq0 : q.length ≤ 100000) {u v : Int} (hu : Hid (numW c = u)) (hv : Hid (numW q = v)) :
    Calls Tryd.prog 52 #[.string s] w fun e w' => e = .returned (ra (mkB b) 2 u v) ∧ Below w.heap.size w w' := by
  have HV := Lib.hid hV
  have hn5 : Hid ([a, b, c, d, q].length = 5) := rfl
  obtain ⟨B, hB⟩ : ∃ B, Hid (mkB b = B) := ⟨_, rfl⟩
  obtain ⟨C, hC⟩ : ∃ C, Hid (mkB c = C) := ⟨_, rfl⟩
  obtain ⟨D, hD⟩ : ∃ D, Hid (mkB q = D) := ⟨_, rfl⟩
  have hCs : C.size ≤ 140737488351232 := by rw [← hC.out, mkB_size]; omega
  have hDs : D.size ≤ 140737488351232 := by rw [← hD.out, mkB_size]; omega
  have hCv : Hid (numW C.data.toList = u) := by show _ = _; rw [← hC.out, mkB_data]; exact hu.out
  have hDv : Hid (numW D.data.toList = v) := by show _ = _; rw [← hD.out, mkB_data]; exact hv.out
  clear hV hv hu hc0 hq0
  rw [hB.out]
  go_enter Tryd.func52, Tryd.ntmps52
  go_wp2_with (first | (go_at_call 67; refine (fields_is _ hs _ (HV.out.below (newB _ _)) hx hn5).mono ?_; rintro e W1 ⟨g, rfl, hc, hg, hg2, hb1⟩; have HC := Lib.hid hc; have HB1 := Lib.hid hb1; clear hc hb1))
  have hr0 := (R0.new w 26).below HB1.out
  have HK : Hid (∀ W, Below W1.heap.size W1 W → Below W1.heap.size W1 W ∧ W.cell? ⟨g, 1, none⟩ = some (.string B) ∧ W.cell? ⟨g, 2, none⟩ = some (.string C) ∧ W.cell? ⟨g, 4, none⟩ = some (.string D) ∧ RZ W w.heap.size) := fun W hW =>
    ⟨hW, (hW.cell (p := ⟨g, 1, none⟩) hg).trans (by rw [← hB.out]; exact HC.out 1 b rfl), (hW.cell (p := ⟨g, 2, none⟩) hg).trans (by rw [← hC.out]; exact HC.out 2 c rfl), (hW.cell (p := ⟨g, 4, none⟩) hg).trans (by rw [← hD.out]; exact HC.out 4 q rfl), (hr0.below hW).rz⟩
  have HV1 := Lib.hid (HV.out.below (dn1 HB1.out))
  clear hr0
  obtain ⟨_, l1, l2, l3, ⟨z0, z1, z2, z3⟩, f0, f1, f2, f3⟩ := HK.out _ (Below.refl _ _)
  go_region_with (first
    | (go_at_call 68; (with_reducible refine (number_is C hCs _ (HV1.out.below (bdD (Below.refl _ _))) hCv).mono ?_); rintro e W2 ⟨rfl, hb2⟩; have HB2 := Lib.hid (nx (bdD (Below.refl W1.heap.size W1)) hb2); clear hb2 l1 l2 l3 z0 z1 z2 z3 f0 f1 f2 f3; obtain ⟨_, l1, l2, l3, ⟨z0, z1, z2, z3⟩, f0, f1, f2, f3⟩ := HK.out W2 HB2.out)
    | (go_at_call 68; (with_reducible refine (number_is D hDs _ (HV1.out.below HB2.out) hDv).mono ?_); rintro e W3 ⟨rfl, hb3⟩; have HB3 := Lib.hid (nx HB2.out hb3); clear hb3 l1 l2 l3 z0 z1 z2 z3 f0 f1 f2 f3; obtain ⟨_, l1, l2, l3, ⟨z0, z1, z2, z3⟩, f0, f1, f2, f3⟩ := HK.out W3 HB3.out))
  all_goals (
    go_wp2
    exact bodyPost_ret (v := ra B 2 u v) (by simp [results, Tryd.results52, go_sem, z0, z1, z2, z3, f0, f1, f2, f3]) rfl ⟨rfl, by first | exact (((((dn1 (nx HB1.out HB3.out)).setCell (Nat.le_refl _) _).setCell (Nat.le_refl _) _).setCell (Nat.le_refl _) _).setCell (Nat.le_refl _) _) | exact (((((bdD (dn1 (nx HB1.out HB3.out))).setCell (Nat.le_refl _) _).setCell (Nat.le_refl _) _).setCell (Nat.le_refl _) _).setCell (Nat.le_refl _) _)⟩)
set_option maxHeartbeats 4000000 in
set_option maxRecDepth 8000 in
theorem parse0 (s : ByteArray) (hs : s.size ≤ 100000) (w : World) (hV : VP w) {xs : List (List UInt8)} (hx : Hid (Lib.fieldsD s.data.toList = xs)) {n : Nat} (hn : Hid (xs.length = n)) (h4 : ¬ (n : Int) = 4) (h5 : ¬ (n : Int) = 5) :
    Calls Tryd.prog 52 #[.string s] w fun e w' => e = .returned (ra ⟨#[]⟩ 0 0 0) ∧ Below w.heap.size w w' := by
  have HV := Lib.hid hV
  clear hV
  go_enter Tryd.func52, Tryd.ntmps52
  go_wp2_with (first | (go_at_call 67; refine (fields_is _ hs _ (HV.out.below (newB _ _)) hx hn).mono ?_; rintro e W1 ⟨g, rfl, hc, hg, hg2, hb1⟩; have HB1 := Lib.hid hb1; have hr0 := ((R0.new w 26).below hb1).rz; obtain ⟨⟨z0, z1, z2, z3⟩, f0, f1, f2, f3⟩ := hr0; clear hb1 hc))
  exact bodyPost_ret (v := ra ⟨#[]⟩ 0 0 0) (by simp [results, Tryd.results52, go_sem, z0, z1, z2, z3, f0, f1, f2, f3]) rfl ⟨rfl, ((((dn1 HB1.out).setCell (Nat.le_refl _) _).setCell (Nat.le_refl _) _).setCell (Nat.le_refl _) _).setCell (Nat.le_refl _) _⟩
end Go.Proofs.YtmfdafffafbmpaaDoor
