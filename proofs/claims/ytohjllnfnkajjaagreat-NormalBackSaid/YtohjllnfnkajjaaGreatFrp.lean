/- Contracts of the reference: Hopeless, Prune. -/
import Derived.Test.YtohjllnfnkajjaaGreatFrf
namespace Go.Proofs.YtohjllnfnkajjaaGreat
open Go.RowKit
set_option linter.unusedVariables false
set_option linter.unusedSimpArgs false

/-- The expression's own box, and a set under way in block g. -/
structure FS (w : World) (g : Nat) (X : List Bool) (wr : World) (k : Int) (s : ByteArray) (m u : Int) (A : Option Addr) (n c : Nat) : Prop where
  blk : Blk wr g (bvs X)
  bel : Below w.heap.size w wr
  box : Blk wr w.heap.size [.int .i64 k, .string s, .int .i64 m, .int .i64 u, .slice A n c]
  lt : w.heap.size < g
theorem FS.of {w wr wx : World} {g : Nat} {X : List Bool} {k : Int} {s : ByteArray} {m u : Int} {A : Option Addr} {n c : Nat} (h : FS w g X wr k s m u A n c) (hb : Below wr.heap.size wr wx) : FS w g X wx k s m u A n c :=
  ⟨h.blk.up hb h.blk.lt, nx h.bel hb, h.box.up hb h.box.lt, h.lt⟩
theorem FS.put {w wr : World} {g : Nat} {X : List Bool} {k : Int} {s : ByteArray} {m u : Int} {A : Option Addr} {n c : Nat} (h : FS w g X wr k s m u A n c) (i : Nat) (v : Bool) : FS w g (X.set i v) (wr.setCell ⟨g, i, none⟩ (.bool v)) k s m u A n c :=
  ⟨h.blk.bset i v, h.bel.setCell (p := ⟨g, i, none⟩) (Nat.le_of_lt h.lt) _, h.box.of (block_set _ _ _ (Nat.ne_of_lt h.lt)), h.lt⟩
set_option maxHeartbeats 4000000 in
set_option maxRecDepth 20000 in
theorem refHopeless_yes {e : Ex} {L : List A3} {D : List Bool} (k : Int) (s : ByteArray) (m u : Int) (A : Option Addr) (n c : Nat) (B : Option Addr) (q cq : Nat) (w : World) (hT : TIn (Lo w.heap.size) w ⟨k, s, m, u, A, n, c⟩ e) (hS : SI w D B q) (hL : Hid (VL e L)) {r : Bool} (hr : Hid (e.hld L (deadS L.length D) = r)) :
    Calls Tryz.prog 19 #[xe k s m u A n c, .slice B q cq] w fun x w' => x = .returned (.bool (!r)) ∧ Below w.heap.size w w' := by
  have HT := Lib.hid hT
  have HS := Lib.hid hS
  have hv : Hid (vexB e = true) := vexB_iff.2 hL.out.1
  have HK0 := Lib.hid (Blk.new w [.int .i64 k, .string s, .int .i64 m, .int .i64 u, .slice A n c] 28 rfl)
  obtain ⟨N, hN⟩ : ∃ N, Hid (L.length = N) := ⟨_, rfl⟩
  have hN8 : N ≤ 8 := by have h1 := hL.out.n8; have h2 := hN.out; omega
  have hmk := make_bools N (by omega)
  have hq := hS.m8
  clear hT hS
  go_enter Tryz.func19, Tryz.ntmps19
  go_wp2_with (first
    | (go_at_call 37; refine (atoms_is (e := e) k s m u A n c _ (HT.out.grow _) hv).mono ?_; rintro x W1 ⟨⟨A1, n1, c1, rfl, -, hy⟩, hb1⟩; obtain ⟨M, hM, hMl, hMr⟩ := hy rfl; have hML : M = L := (Option.some.inj (hM.symm.trans hL.out.2)); subst hML; have hnn : n1 = N := hMl.symm.trans hN.out; subst hnn; have hk1 := HK0.out.up hb1 (by simp); have HB1 := Lib.hid (dn1 hb1); have HM := Lib.hid hMr; have hf : Hid (FS w W1.heap.size (fillS n1 0 (fun i => !D.getD i false)) (W1.alloc (.cells (bvs (List.replicate n1 false)).toArray 4)) k s m u A n c) := Lib.hid ⟨by rw [fillS_zero]; exact Blk.new W1 _ _ rfl, nx HB1.out (newB _ _), hk1.up (newB _ _) hk1.lt, hk1.lt⟩; clear hb1 hy hM hMl hMr hk1))
  have HQ : Hid (∀ W, Below W1.heap.size (W1.alloc (.cells (bvs (List.replicate n1 false)).toArray 4)) W → QRd W A1 M) := Lib.hid (fun W h => HM.out.below ((newB W1 _).trans h))
  generalize W1.alloc (.cells (bvs (List.replicate n1 false)).toArray 4) = W2 at hf HQ ⊢
  obtain ⟨g, hg⟩ : ∃ g, W1.heap.size = g := ⟨_, rfl⟩
  rw [hg] at hf HQ ⊢
  clear hg HM HB1 HK0 hmk
  go_loopw [8] (fun i wr => ∃ (j : Nat), j ≤ n1 ∧ i = .int .i64 j ∧ Hid (FS w g (fillS n1 j (fun i => !D.getD i false)) wr k s m u A n c) ∧ Hid (Below g W2 wr)) (fun i _ => n1 - (intOf i).toNat)
  case atStart => exact ⟨0, by omega, rfl, hf, Below.refl _ _⟩
  case round =>
    obtain ⟨j, hj, rfl, hF, hB⟩ := hrel
    have g1 := hF.out.blk.lt
    have gf := hF.out.blk.fz
    by_cases hlt : (j : Int) < (n1 : Int)
    · have e5 : IntKind.i64.wrap ((j : Int) + 1) = (j : Int) + 1 := by rw [IntKind.wrap_i64]; omega
      have gc := hF.out.blk.cell j (bvs_at (by rw [fillS_len]; omega))
      have hst := hF.out.put j (!D.getD j false)
      have hfl := fillS_step (n := n1) (fun i => !D.getD i false) (show j < n1 by omega)
      rw [hfl] at hst
      have HST := Lib.hid hst
      clear hst hfl
      by_cases hjs : j < q
      · obtain ⟨g2, o2, v, rfl, hg2, hv2, d1⟩ := (HS.out.sr.below hF.out.bel).at_ (i := j) (by have := HS.out.sn; omega)
        have dj : decide (q ≤ j) = false := decide_eq_false (by omega)
        rw [hv2.out] at HST
        go_wp2
        exact ⟨⟨j + 1, by omega, by go_num, HST, hB.out.setCell (p := ⟨g, j, none⟩) (Nat.le_refl _) _⟩, by simp [intOf]; omega⟩
      · have dj : decide (q ≤ j) = true := decide_eq_true (by omega)
        rw [getD_out (by have := HS.out.sn; omega)] at HST
        go_wp2
        exact ⟨⟨j + 1, by omega, by go_num, HST, hB.out.setCell (p := ⟨g, j, none⟩) (Nat.le_refl _) _⟩, by simp [intOf]; omega⟩
    · have hje : j = n1 := by omega
      subst hje
      have HX := hF.out.box
      have x0 := HX.cell 0 rfl
      have x1 := HX.cell 1 rfl
      have x2 := HX.cell 2 rfl
      have x3 := HX.cell 3 rfl
      have x4 := HX.cell 4 rfl
      have HT1 := Lib.hid (TIn.up HT.out hF.out.bel)
      have HLS : Hid (LS wr M (deadS M.length D) A1 j (some ⟨g, 0, none⟩) j) := Lib.hid ⟨hN.out, HQ.out _ hB.out, by omega, by simp [deadS, hN.out], by
        have h := hF.out.blk.br
        rw [fillS_all] at h
        rw [hN.out]
        exact h, by omega⟩
      clear HX
      go_wp2_with (go_at_call 39; refine (rholds_all e M (deadS M.length D) k s m u A n c A1 j c1 (some ⟨g, 0, none⟩) j j _ r HT1 HLS hr).mono ?_; rintro x W3 ⟨rfl, hb3⟩; have HB3 := Lib.hid (nx hF.out.bel hb3); clear hb3)
      go_ret
      exact ⟨rfl, HB3.out⟩
set_option maxHeartbeats 2000000 in
set_option maxRecDepth 8000 in
theorem refHopeless_no {e : Ex} (k : Int) (s : ByteArray) (m u : Int) (A : Option Addr) (n c : Nat) (B : Option Addr) (q cq : Nat) (w : World) (hT : TIn (Lo w.heap.size) w ⟨k, s, m, u, A, n, c⟩ e) (hv : Hid (¬ Vex e)) :
    Calls Tryz.prog 19 #[xe k s m u A n c, .slice B q cq] w fun x w' => x = .returned (.bool false) ∧ Below w.heap.size w w' := by
  have HT := Lib.hid hT
  have hr : Hid (vexB e = false) := vexB_no.2 hv.out
  clear hT
  go_enter Tryz.func19, Tryz.ntmps19
  go_wp2_with (go_at_call 37; refine (atoms_is (e := e) k s m u A n c _ (HT.out.grow _) hr).mono ?_; rintro x W1 ⟨⟨A1, n1, c1, rfl, hno, -⟩, hb1⟩; obtain ⟨rfl, rfl, rfl⟩ := hno rfl; have HB1 := Lib.hid (dn1 hb1); clear hb1 hno)
  go_ret
  exact ⟨rfl, HB1.out⟩
end Go.Proofs.YtohjllnfnkajjaaGreat
