/- Contracts of the reference: Atoms, Holds, Hopeless, SameBools. -/
import Derived.Test.YtohjllnfnkajjaaGreatFrh
namespace Go.Proofs.YtohjllnfnkajjaaGreat
open Go.RowKit
set_option linter.unusedVariables false
set_option linter.unusedSimpArgs false

/-- A valid expression and its atoms. -/
def VL (e : Ex) (L : List A3) : Prop := Vex e ∧ vld e.pre [] = some L
theorem VL.ex {e : Ex} (h : Vex e) : ∃ L, VL e L := by obtain ⟨L, hL⟩ := h.2.2; exact ⟨L, h, hL⟩
theorem VL.n8 {e : Ex} {L : List A3} (h : VL e L) : L.length ≤ 8 := (vld_dist h.2).2
theorem VL.good {e : Ex} {L : List A3} (h : VL e L) : GoodE L e := vld_good h.2
/-- A set under way: the first j places are as f says. -/
def fillS (n j : Nat) (f : Nat → Bool) : List Bool := (List.range n).map fun i => decide (i < j) && f i
theorem fillS_len (n j : Nat) (f : Nat → Bool) : (fillS n j f).length = n := by simp [fillS]
theorem fillS_zero (n : Nat) (f : Nat → Bool) : fillS n 0 f = List.replicate n false := by
  refine List.ext_getElem (by simp [fillS]) fun i h1 h2 => ?_
  simp [fillS]
theorem fillS_step {n j : Nat} (f : Nat → Bool) (h : j < n) : (fillS n j f).set j (f j) = fillS n (j + 1) f := by
  refine List.ext_getElem (by simp [fillS]) fun i h1 h2 => ?_
  rw [List.getElem_set]
  by_cases e : j = i
  · subst e
    simp [fillS]
  · rw [if_neg e]
    simp only [fillS, List.getElem_map, List.getElem_range]
    have : decide (i < j) = decide (i < j + 1) := by rw [decide_eq_decide]; omega
    rw [this]
theorem fillS_all (n : Nat) (f : Nat → Bool) : fillS n n f = (List.range n).map f := by
  refine List.ext_getElem (by simp [fillS]) fun i h1 h2 => ?_
  have : i < n := by simpa [fillS] using h1
  simp [fillS, this]
set_option maxHeartbeats 2000000 in
set_option maxRecDepth 8000 in
theorem refAtoms_yes {e : Ex} {L : List A3} (k : Int) (s : ByteArray) (m u : Int) (A : Option Addr) (n c : Nat) (w : World) (hT : TIn (Lo w.heap.size) w ⟨k, s, m, u, A, n, c⟩ e) (hL : Hid (VL e L)) :
    Calls Tryz.prog 13 #[xe k s m u A n c] w fun x w' => (∃ A n c, x = .returned (.slice A n c) ∧ L.length = n ∧ QRd w' A L) ∧ Below w.heap.size w w' := by
  have HT := Lib.hid hT
  have hr : Hid (vexB e = true) := vexB_iff.2 hL.out.1
  clear hT
  go_enter Tryz.func13, Tryz.ntmps13
  go_wp2_with (go_at_call 37; refine (atoms_is (e := e) k s m u A n c _ (HT.out.grow _) hr).mono ?_; rintro x W1 ⟨⟨A1, n1, c1, rfl, -, hy⟩, hb1⟩; obtain ⟨M, hM, hMl, hMr⟩ := hy rfl; have hML : M = L := (Option.some.inj (hM.symm.trans hL.out.2)); subst hML; have HB1 := Lib.hid (dn1 hb1); have HM := Lib.hid (And.intro hMl hMr); clear hb1 hy hM hMl hMr)
  go_ret
  exact ⟨⟨A1, n1, c1, rfl, HM.out.1, HM.out.2⟩, HB1.out⟩
set_option maxHeartbeats 2000000 in
set_option maxRecDepth 8000 in
theorem refAtoms_no {e : Ex} (k : Int) (s : ByteArray) (m u : Int) (A : Option Addr) (n c : Nat) (w : World) (hT : TIn (Lo w.heap.size) w ⟨k, s, m, u, A, n, c⟩ e) (hv : Hid (¬ Vex e)) :
    Calls Tryz.prog 13 #[xe k s m u A n c] w fun x w' => x = .returned (.slice none 0 0) ∧ Below w.heap.size w w' := by
  have HT := Lib.hid hT
  have hr : Hid (vexB e = false) := vexB_no.2 hv.out
  clear hT
  go_enter Tryz.func13, Tryz.ntmps13
  go_wp2_with (go_at_call 37; refine (atoms_is (e := e) k s m u A n c _ (HT.out.grow _) hr).mono ?_; rintro x W1 ⟨⟨A1, n1, c1, rfl, hno, -⟩, hb1⟩; obtain ⟨rfl, rfl, rfl⟩ := hno rfl; have HB1 := Lib.hid (dn1 hb1); clear hb1 hno)
  go_ret
  exact ⟨rfl, HB1.out⟩
/-- A set that came in. -/
structure SI (w : World) (S : List Bool) (B : Option Addr) (m : Nat) : Prop where
  sn : S.length = m
  sr : BR w B S
  m8 : m ≤ 140737488355328
theorem SI.below {w w' : World} {S : List Bool} {B : Option Addr} {m : Nat} (h : SI w S B m) (hb : Below w.heap.size w w') : SI w' S B m := ⟨h.sn, h.sr.below hb, h.m8⟩
set_option maxHeartbeats 2000000 in
set_option maxRecDepth 8000 in
theorem refHolds_yes {e : Ex} {L : List A3} {S : List Bool} (k : Int) (s : ByteArray) (m u : Int) (A : Option Addr) (n c : Nat) (B : Option Addr) (q cq : Nat) (w : World) (hT : TIn (Lo w.heap.size) w ⟨k, s, m, u, A, n, c⟩ e) (hS : SI w S B q) (hL : Hid (VL e L)) {r : Bool} (hr : Hid (e.hld L S = r)) :
    Calls Tryz.prog 18 #[xe k s m u A n c, .slice B q cq] w fun x w' => x = .returned (.bool r) ∧ Below w.heap.size w w' := by
  have HT := Lib.hid hT
  have HS := Lib.hid hS
  have hv : Hid (vexB e = true) := vexB_iff.2 hL.out.1
  have HK0 := Lib.hid (Blk.new w [.int .i64 k, .string s, .int .i64 m, .int .i64 u, .slice A n c] 28 rfl)
  clear hT hS
  go_enter Tryz.func18, Tryz.ntmps18
  go_wp2_with (first
    | (go_at_call 37; refine (atoms_is (e := e) k s m u A n c _ (HT.out.grow _) hv).mono ?_; rintro x W1 ⟨⟨A1, n1, c1, rfl, -, hy⟩, hb1⟩; obtain ⟨M, hM, hMl, hMr⟩ := hy rfl; have hML : M = L := (Option.some.inj (hM.symm.trans hL.out.2)); subst hML; have hk1 := HK0.out.up hb1 (by simp); have x0 := hk1.cell 0 rfl; have x1 := hk1.cell 1 rfl; have x2 := hk1.cell 2 rfl; have x3 := hk1.cell 3 rfl; have x4 := hk1.cell 4 rfl; have HB1 := Lib.hid (dn1 hb1); have HT1 := Lib.hid (TIn.up HT.out HB1.out); have HLS : Hid (LS W1 M S A1 n1 B q) := Lib.hid ⟨hMl, hMr, by have := hL.out.n8; omega, HS.out.sn, HS.out.sr.below HB1.out, HS.out.m8⟩; clear hb1 hy hM hMl hMr hk1)
    | (go_at_call 39; refine (rholds_all e M S k s m u A n c A1 n1 c1 B q cq _ r HT1 HLS hr).mono ?_; rintro x W2 ⟨rfl, hb2⟩; have HB2 := Lib.hid (nx HB1.out hb2); clear hb2))
  go_ret
  exact ⟨by simp, HB2.out⟩
set_option maxHeartbeats 2000000 in
set_option maxRecDepth 8000 in
theorem refHolds_no {e : Ex} (k : Int) (s : ByteArray) (m u : Int) (A : Option Addr) (n c : Nat) (B : Option Addr) (q cq : Nat) (w : World) (hT : TIn (Lo w.heap.size) w ⟨k, s, m, u, A, n, c⟩ e) (hv : Hid (¬ Vex e)) :
    Calls Tryz.prog 18 #[xe k s m u A n c, .slice B q cq] w fun x w' => x = .returned (.bool false) ∧ Below w.heap.size w w' := by
  have HT := Lib.hid hT
  have hr : Hid (vexB e = false) := vexB_no.2 hv.out
  clear hT
  go_enter Tryz.func18, Tryz.ntmps18
  go_wp2_with (go_at_call 37; refine (atoms_is (e := e) k s m u A n c _ (HT.out.grow _) hr).mono ?_; rintro x W1 ⟨⟨A1, n1, c1, rfl, hno, -⟩, hb1⟩; obtain ⟨rfl, rfl, rfl⟩ := hno rfl; have HB1 := Lib.hid (dn1 hb1); clear hb1 hno)
  go_ret
  exact ⟨by simp, HB1.out⟩
end Go.Proofs.YtohjllnfnkajjaaGreat
