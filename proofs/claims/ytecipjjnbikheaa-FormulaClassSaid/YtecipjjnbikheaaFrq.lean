/- Contracts of the reference: Prune. -/
import Derived.Test.YtecipjjnbikheaaFrp
namespace Go.Proofs.Ytecipjjnbikheaa
open Go.RowKit
set_option linter.unusedVariables false
set_option linter.unusedSimpArgs false

/-- A new set is the answer. -/
def PrQ (X : List Bool) (w : World) (x : Ending) (w' : World) : Prop :=
  (∃ g c, x = .returned (.slice (some ⟨g, 0, none⟩) X.length c) ∧ Blk w' g (bvs X)) ∧ Below w.heap.size w w'
theorem set_back {o : List Bool} {i : Nat} (h : o.getD i false = true) (v : Bool) : (o.set i v).set i true = o := by
  refine List.ext_getElem (by simp) fun j h1 h2 => ?_
  rw [List.getElem_set]
  by_cases e : i = j
  · subst e
    rw [if_pos rfl]
    have hl : i < o.length := h2
    rw [List.getD_eq_getElem?_getD, List.getElem?_eq_getElem hl] at h
    exact h.symm
  · rw [if_neg e, List.getElem_set, if_neg e]
theorem cutS_fill (n : Nat) (S : List Bool) : fillS n n (fun i => S.getD i false) = cutS n S := by rw [fillS_all]; rfl
set_option maxHeartbeats 8000000 in
set_option maxRecDepth 100000 in
theorem refPrune_yes {e : Ex} {L : List A3} {S : List Bool} (k : Int) (s : ByteArray) (m u : Int) (A : Option Addr) (n c : Nat) (B : Option Addr) (q cq : Nat) (w : World) (hT : TIn (Lo w.heap.size) w ⟨k, s, m, u, A, n, c⟩ e) (hS : SI w S B q) (hL : Hid (VL e L)) :
    Calls Try.prog 26 #[xe k s m u A n c, .slice B q cq] w (PrQ (prn e L S) w) := by
  have HT := Lib.hid hT
  have HS := Lib.hid hS
  have hv : Hid (vexB e = true) := vexB_iff.2 hL.out.1
  have HK0 := Lib.hid (Blk.new w [.int .i64 k, .string s, .int .i64 m, .int .i64 u, .slice A n c] 28 rfl)
  obtain ⟨N, hN⟩ : ∃ N, Hid (L.length = N) := ⟨_, rfl⟩
  have hN8 : N ≤ 8 := by have h1 := hL.out.n8; have h2 := hN.out; omega
  have hmk := make_bools N (by omega)
  have hq := hS.m8
  obtain ⟨b, hb⟩ : ∃ b, Hid (e.hld L S = b) := ⟨_, rfl⟩
  have MA := Lib.hid trivial
  clear hT hS
  go_enter Try.func26, Try.ntmps26
  go_upto_region 3 with (first
    | (go_at_call 34; refine (atoms_is (e := e) k s m u A n c _ (HT.out.grow _) hv).mono ?_; rintro x W1 ⟨⟨A1, n1, c1, rfl, -, hy⟩, hb1⟩; obtain ⟨M, hM, hMl, hMr⟩ := hy rfl; have hML : M = L := (Option.some.inj (hM.symm.trans hL.out.2)); subst hML; have hnn : n1 = N := hMl.symm.trans hN.out; subst hnn; have hk1 := HK0.out.up hb1 (by simp); have HB1 := Lib.hid (dn1 hb1); have HM := Lib.hid hMr; have hf : Hid (FS w W1.heap.size (List.replicate n1 false) (W1.alloc (.cells (bvs (List.replicate n1 false)).toArray 4)) k s m u A n c) := Lib.hid ⟨Blk.new W1 _ _ rfl, nx HB1.out (newB _ _), hk1.up (newB _ _) hk1.lt, hk1.lt⟩; clear hb1 hy hM hMl hMr hk1))
  have HQ : Hid (∀ W, Below W1.heap.size (W1.alloc (.cells (bvs (List.replicate n1 false)).toArray 4)) W → QRd W A1 M) := Lib.hid (fun W h => HM.out.below ((newB W1 _).trans h))
  generalize W1.alloc (.cells (bvs (List.replicate n1 false)).toArray 4) = W2 at hf HQ ⊢
  obtain ⟨g, hg⟩ : ∃ g, W1.heap.size = g := ⟨_, rfl⟩
  rw [hg] at hf HQ ⊢
  have hx := hf.out.box
  have x0 := hx.cell 0 rfl
  have x1 := hx.cell 1 rfl
  have x2 := hx.cell 2 rfl
  have x3 := hx.cell 3 rfl
  have x4 := hx.cell 4 rfl
  have HT2 := Lib.hid (TIn.up HT.out hf.out.bel)
  have HLS : Hid (LS W2 M S A1 n1 B q) := Lib.hid ⟨hN.out, HQ.out _ (Below.refl _ _), by omega, HS.out.sn, HS.out.sr.below hf.out.bel, HS.out.m8⟩
  have hgl : Hid (g ≤ W2.heap.size) := Lib.hid (Nat.le_of_lt hf.out.blk.lt)
  clear hg HM HB1 HK0 hmk hx
  cases b with
  | false =>
    go_wp2_with (go_at_call 38; refine (rholds_all e M S k s m u A n c A1 n1 c1 B q cq _ false HT2 HLS hb).mono ?_; rintro x W3 ⟨rfl, hb3⟩; have HF3 := Lib.hid (hf.out.of hb3); clear hb3)
    go_ret
    have hp : prn e M S = List.replicate n1 false := by unfold prn; rw [if_neg (by rw [hb.out]; decide), hN.out]
    rw [hp]
    exact ⟨⟨g, n1, by simp, HF3.out.blk⟩, HF3.out.bel⟩
  | true =>
    have hp : Hid (prnG e M n1 (cutS n1 S) = prn e M S) := by show _ = _; unfold prn; rw [if_pos hb.out, hN.out]
    go_wp2_with (go_at_call 38; clear MA; refine (rholds_all e M S k s m u A n c A1 n1 c1 B q cq _ true HT2 HLS hb).mono ?_; rintro x W3 ⟨rfl, hb3⟩; have HF3 : Hid (FS w g (fillS n1 0 (fun i => S.getD i false)) W3 k s m u A n c) := Lib.hid (by rw [fillS_zero]; exact hf.out.of hb3); have HB3 : Hid (Below g W2 W3) := Lib.hid (hb3.mono hgl.out); clear hb3)
    go_loopw [8] (fun i wr => ∃ (j : Nat), j ≤ n1 ∧ i = .int .i64 j ∧ Hid (FS w g (fillS n1 j (fun i => S.getD i false)) wr k s m u A n c) ∧ Hid (Below g W2 wr)) (fun i _ => n1 - (intOf i).toNat)
    case atStart => exact ⟨0, by omega, rfl, HF3, HB3.out⟩
    case round =>
      obtain ⟨j, hj, rfl, hF, hB⟩ := hrel
      have g1 := hF.out.blk.lt
      have gf := hF.out.blk.fz
      by_cases hlt : (j : Int) < (n1 : Int)
      · have e5 : IntKind.i64.wrap ((j : Int) + 1) = (j : Int) + 1 := by rw [IntKind.wrap_i64]; omega
        have gc := hF.out.blk.cell j (bvs_at (by rw [fillS_len]; omega))
        have hst := hF.out.put j (S.getD j false)
        have hfl := fillS_step (n := n1) (fun i => S.getD i false) (show j < n1 by omega)
        rw [hfl] at hst
        have HST := Lib.hid hst
        clear hst hfl
        by_cases hjs : j < q
        · obtain ⟨g2, o2, v, rfl, hg2, hv2, d1⟩ := (HS.out.sr.below hF.out.bel).at_ (i := j) (by have := HS.out.sn; omega)
          have dj : decide (j < q) = true := decide_eq_true (by omega)
          rw [hv2.out] at HST
          go_wp2
          exact ⟨⟨j + 1, by omega, by go_num, HST, hB.out.setCell (p := ⟨g, j, none⟩) (Nat.le_refl _) _⟩, by simp [intOf]; omega⟩
        · have dj : decide (j < q) = false := decide_eq_false (by omega)
          rw [getD_out (by have := HS.out.sn; omega)] at HST
          go_wp2
          exact ⟨⟨j + 1, by omega, by go_num, HST, hB.out.setCell (p := ⟨g, j, none⟩) (Nat.le_refl _) _⟩, by simp [intOf]; omega⟩
      · have hje : j = n1 := by omega
        subst hje
        have e6 : IntKind.i64.wrap ((j : Int) - 1) = (j : Int) - 1 := by rw [IntKind.wrap_i64]; omega
        have HFF : Hid (FS w g (cutS j S) wr k s m u A n c) := Lib.hid (by rw [← cutS_fill]; exact hF.out)
        clear hF g1 gf
        go_wp2
        go_loopw [9] (fun i wx => ∃ (z : Int) (p : Nat) (o : List Bool), i = .int .i64 z ∧ p ≤ j ∧ Hid (z = (p : Int) - 1) ∧ Hid (o.length = j) ∧ Hid (prnG e M p o = prn e M S) ∧ Hid (FS w g o wx k s m u A n c) ∧ Hid (Below g W2 wx)) (fun i _ => (intOf i + 1).toNat)
        case atStart => exact ⟨_, j, _, rfl, Nat.le_refl _, rfl, by show _ = _; simp [cutS], hp, HFF, hB⟩
        case round =>
          obtain ⟨z, p, o, rfl, hpj, hz, hol, hP, hF, hB⟩ := hrel
          have g1 := hF.out.blk.lt
          have gf := hF.out.blk.fz
          by_cases h0 : 0 ≤ z
          · obtain ⟨i, rfl⟩ : ∃ i : Nat, z = i := ⟨z.toNat, by omega⟩
            have hpi : p = i + 1 := by have := hz.out; omega
            subst hpi
            have hij : i < j := hpj
            have e7 : IntKind.i64.wrap ((i : Int) - 1) = (i : Int) - 1 := by rw [IntKind.wrap_i64]; omega
            have gc := hF.out.blk.cell i (bvs_at (by rw [hol.out]; omega))
            have hP2 : Hid (prnG e M i (stepP e M i o) = prn e M S) := hP
            obtain ⟨v, hv1⟩ : ∃ v, Hid (o.getD i false = v) := ⟨_, rfl⟩
            rw [hv1.out] at gc
            cases v with
            | false =>
              have hP3 : Hid (prnG e M i o = prn e M S) := by
                have h := hP2.out
                unfold stepP at h
                rw [hv1.out, if_neg (by decide)] at h
                exact h
              clear hP hP2
              go_wp2
              exact ⟨⟨_, i, o, rfl, by omega, rfl, hol, hP3, hF, hB⟩, by simp [intOf] <;> omega⟩
            | true =>
              have HST := Lib.hid (hF.out.put i false)
              have HB4 : Hid (Below g W2 (wr.setCell ⟨g, i, none⟩ (.bool false))) := Lib.hid (hB.out.setCell (p := ⟨g, i, none⟩) (Nat.le_refl _) _)
              go_upto_region 14 with fail
              generalize wr.setCell ⟨g, i, none⟩ (.bool false) = W4 at HST HB4 ⊢
              have hx := HST.out.box
              have x0 := hx.cell 0 rfl
              have x1 := hx.cell 1 rfl
              have x2 := hx.cell 2 rfl
              have x3 := hx.cell 3 rfl
              have x4 := hx.cell 4 rfl
              have HT4 := Lib.hid (TIn.up HT.out HST.out.bel)
              have HLS4 : Hid (LS W4 M (o.set i false) A1 j (some ⟨g, 0, none⟩) j) := Lib.hid ⟨hN.out, HQ.out _ HB4.out, by omega, by rw [List.length_set, hol.out], HST.out.blk.br, by omega⟩
              obtain ⟨b4, hb4⟩ : ∃ b4, Hid (e.hld M (o.set i false) = b4) := ⟨_, rfl⟩
              clear hx g1 gf gc hF hP hB
              cases b4 with
              | true =>
                have hP3 : Hid (prnG e M i (o.set i false) = prn e M S) := by
                  have h := hP2.out
                  unfold stepP at h
                  rw [hv1.out, if_pos rfl, if_pos hb4.out] at h
                  exact h
                clear hP2
                go_wp2_with (go_at_call 38; refine (rholds_all e M (o.set i false) k s m u A n c A1 j c1 (some ⟨g, 0, none⟩) j j _ true HT4 HLS4 hb4).mono ?_; rintro x W3 ⟨rfl, hb3⟩; have HF3 := Lib.hid (HST.out.of hb3); have HB3 := Lib.hid (HB4.out.trans (hb3.mono (Nat.le_of_lt HST.out.blk.lt))); have gc3 := HF3.out.blk.cell i (bvs_at (by rw [List.length_set, hol.out]; omega)); have gf3 := HF3.out.blk.fz; have gl3 := HF3.out.blk.lt; clear hb3)
                have hfin := HF3.out.put i false
                rw [List.set_set] at hfin
                have HFIN := Lib.hid hfin
                exact ⟨⟨_, i, o.set i false, rfl, by omega, rfl, by show _ = _; rw [List.length_set, hol.out], hP3, HFIN, HB3.out.setCell (p := ⟨g, i, none⟩) (Nat.le_refl _) _⟩, by simp [intOf] <;> omega⟩
              | false =>
                have hP3 : Hid (prnG e M i o = prn e M S) := by
                  have h := hP2.out
                  unfold stepP at h
                  rw [hv1.out, if_pos rfl, if_neg (by rw [hb4.out]; decide)] at h
                  exact h
                clear hP2
                go_wp2_with (go_at_call 38; refine (rholds_all e M (o.set i false) k s m u A n c A1 j c1 (some ⟨g, 0, none⟩) j j _ false HT4 HLS4 hb4).mono ?_; rintro x W3 ⟨rfl, hb3⟩; have HF3 := Lib.hid (HST.out.of hb3); have HB3 := Lib.hid (HB4.out.trans (hb3.mono (Nat.le_of_lt HST.out.blk.lt))); have gc3 := HF3.out.blk.cell i (bvs_at (by rw [List.length_set, hol.out]; omega)); have gf3 := HF3.out.blk.fz; have gl3 := HF3.out.blk.lt; clear hb3)
                have hfin := HF3.out.put i true
                rw [set_back hv1.out] at hfin
                have HFIN := Lib.hid hfin
                exact ⟨⟨_, i, o, rfl, by omega, rfl, hol, hP3, HFIN, HB3.out.setCell (p := ⟨g, i, none⟩) (Nat.le_refl _) _⟩, by simp [intOf] <;> omega⟩
          · have hp0 : p = 0 := by have := hz.out; omega
            subst hp0
            have hfin : Hid (o = prn e M S) := hP
            clear hP
            go_wp2
            go_ret
            rw [← hfin.out]
            exact ⟨⟨g, j, by rw [hol.out]; rfl, hF.out.blk⟩, hF.out.bel⟩
set_option maxHeartbeats 2000000 in
set_option maxRecDepth 8000 in
theorem refPrune_no {e : Ex} (k : Int) (s : ByteArray) (m u : Int) (A : Option Addr) (n c : Nat) (B : Option Addr) (q cq : Nat) (w : World) (hT : TIn (Lo w.heap.size) w ⟨k, s, m, u, A, n, c⟩ e) (hv : Hid (¬ Vex e)) :
    Calls Try.prog 26 #[xe k s m u A n c, .slice B q cq] w (PrQ [] w) := by
  have HT := Lib.hid hT
  have hr : Hid (vexB e = false) := vexB_no.2 hv.out
  have hmk : ∀ w : World, (Instr.makeSlice 33 (.int .i64 0) (.int .i64 0)).run Try.prog w = .ok (.slice (some ⟨w.heap.size, 0, none⟩) 0 0) (w.alloc (.cells (bvs []).toArray 4)) := fun w => make_bools 0 (by omega) w
  clear hT
  go_enter Try.func26, Try.ntmps26
  go_wp2_with (go_at_call 34; refine (atoms_is (e := e) k s m u A n c _ (HT.out.grow _) hr).mono ?_; rintro x W1 ⟨⟨A1, n1, c1, rfl, hno, -⟩, hb1⟩; obtain ⟨rfl, rfl, rfl⟩ := hno rfl; have HB1 := Lib.hid (dn1 hb1); clear hb1 hno)
  go_ret
  exact ⟨⟨_, _, rfl, Blk.new W1 [] _ rfl⟩, nx HB1.out (newB _ _)⟩
end Go.Proofs.Ytecipjjnbikheaa
