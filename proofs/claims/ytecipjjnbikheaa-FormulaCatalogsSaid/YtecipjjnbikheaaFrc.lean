/- Contracts of the reference: Class, SameBools. -/
import Derived.Test.YtecipjjnbikheaaFrq
namespace Go.Proofs.Ytecipjjnbikheaa
open Go.RowKit
set_option linter.unusedVariables false
set_option linter.unusedSimpArgs false

/-- The expression's own box, and two sets under way. -/
structure F2 (w : World) (g h : Nat) (X Y : List Bool) (wr : World) (k : Int) (s : ByteArray) (m u : Int) (A : Option Addr) (n c : Nat) : Prop where
  b1 : Blk wr g (bvs X)
  b2 : Blk wr h (bvs Y)
  bel : Below w.heap.size w wr
  box : Blk wr w.heap.size [.int .i64 k, .string s, .int .i64 m, .int .i64 u, .slice A n c]
  lg : w.heap.size < g
  lh : w.heap.size < h
  ne : g ≠ h
theorem F2.of {w wr wx : World} {g h : Nat} {X Y : List Bool} {k : Int} {s : ByteArray} {m u : Int} {A : Option Addr} {n c : Nat} (z : F2 w g h X Y wr k s m u A n c) (hb : Below wr.heap.size wr wx) : F2 w g h X Y wx k s m u A n c :=
  ⟨z.b1.up hb z.b1.lt, z.b2.up hb z.b2.lt, nx z.bel hb, z.box.up hb z.box.lt, z.lg, z.lh, z.ne⟩
theorem F2.put {w wr : World} {g h : Nat} {X Y : List Bool} {k : Int} {s : ByteArray} {m u : Int} {A : Option Addr} {n c : Nat} (z : F2 w g h X Y wr k s m u A n c) (i : Nat) (v v' : Bool) :
    F2 w g h (X.set i v) (Y.set i v') ((wr.setCell ⟨g, i, none⟩ (.bool v)).setCell ⟨h, i, none⟩ (.bool v')) k s m u A n c :=
  ⟨(z.b1.bset i v).of (block_set _ _ _ z.ne), Blk.bset (z.b2.of (block_set _ _ _ z.ne.symm)) i v', (z.bel.setCell (p := ⟨g, i, none⟩) (Nat.le_of_lt z.lg) _).setCell (p := ⟨h, i, none⟩) (Nat.le_of_lt z.lh) _, (z.box.of (block_set _ _ _ (Nat.ne_of_lt z.lg))).of (block_set _ _ _ (Nat.ne_of_lt z.lh)), z.lg, z.lh, z.ne⟩
theorem F2.swap {w wr : World} {g h : Nat} {X Y : List Bool} {k : Int} {s : ByteArray} {m u : Int} {A : Option Addr} {n c : Nat} (z : F2 w g h X Y wr k s m u A n c) : F2 w h g Y X wr k s m u A n c := ⟨z.b2, z.b1, z.bel, z.box, z.lh, z.lg, z.ne.symm⟩
theorem F2.new {w wr : World} {k : Int} {s : ByteArray} {m u : Int} {A : Option Addr} {n c : Nat} (hB : Below w.heap.size w wr) (hK : Blk wr w.heap.size [.int .i64 k, .string s, .int .i64 m, .int .i64 u, .slice A n c]) (X Y : List Bool) :
    F2 w wr.heap.size (wr.heap.size + 1) X Y ((wr.alloc (.cells (bvs X).toArray 4)).alloc (.cells (bvs Y).toArray 4)).drew k s m u A n c := by
  have hl := hK.lt
  have h1 := (Blk.new wr (bvs X) 4 rfl).grow (.cells (bvs Y).toArray 4)
  have h2 := Blk.new (wr.alloc (.cells (bvs X).toArray 4)) (bvs Y) 4 (g := wr.heap.size + 1) (by simp)
  exact ⟨h1.of rfl, h2.of rfl, nx hB (bdD (nxA (newB wr _) _)), ((hK.grow _).grow _).of rfl, hl, by omega, by omega⟩
set_option maxHeartbeats 8000000 in
set_option maxRecDepth 100000 in
theorem refClass_yes {e : Ex} {L : List A3} (k : Int) (s : ByteArray) (m u : Int) (A : Option Addr) (n c : Nat) (w : World) (hT : TIn (Lo w.heap.size) w ⟨k, s, m, u, A, n, c⟩ e) (hL : Hid (VL e L)) {r : Int} (hr : Hid (cls e L = r)) :
    Calls Try.prog 28 #[xe k s m u A n c] w fun x w' => x = .returned (.int .i64 r) ∧ Below w.heap.size w w' := by
  have HT := Lib.hid hT
  have hv : Hid (vexB e = true) := vexB_iff.2 hL.out.1
  have HK0 := Lib.hid (Blk.new w [.int .i64 k, .string s, .int .i64 m, .int .i64 u, .slice A n c] 28 rfl)
  obtain ⟨N, hN⟩ : ∃ N, Hid (L.length = N) := ⟨_, rfl⟩
  have hN8 : N ≤ 8 := by have h1 := hL.out.n8; have h2 := hN.out; omega
  have hmk := make_bools N (by omega)
  clear hT
  by_cases h1 : N = 1
  · have hend : Hid (r = 1) := by show _ = _; rw [← hr.out]; unfold cls; rw [hN.out, if_pos h1]
    have b1 : ((N : Int) == 1) = true := by rw [beq_iff_eq]; omega
    clear hr
    go_enter Try.func28, Try.ntmps28
    go_wp2_with (go_at_call 34; refine (atoms_is (e := e) k s m u A n c _ (HT.out.grow _) hv).mono ?_; rintro x W1 ⟨⟨A1, n1, c1, rfl, -, hy⟩, hb1⟩; obtain ⟨M, hM, hMl, hMr⟩ := hy rfl; have hML : M = L := (Option.some.inj (hM.symm.trans hL.out.2)); subst hML; have hnn : n1 = N := hMl.symm.trans hN.out; subst hnn; have HB1 := Lib.hid (dn1 hb1); clear hb1 hy hM hMl hMr)
    go_ret
    exact ⟨by rw [hend.out]; rfl, HB1.out⟩
  · have b1 : ((N : Int) == 1) = false := by rw [beq_eq_false_iff_ne]; omega
    have hr2 : Hid ((if andB e L N = true then (2 : Int) else if orB e L N = true then 3 else 4) = r) := by have h := hr.out; unfold cls at h; rw [hN.out, if_neg h1] at h; exact h
    clear hr h1
    go_enter Try.func28, Try.ntmps28
    go_wp2_with (go_at_call 34; refine (atoms_is (e := e) k s m u A n c _ (HT.out.grow _) hv).mono ?_; rintro x W1 ⟨⟨A1, n1, c1, rfl, -, hy⟩, hb1⟩; obtain ⟨M, hM, hMl, hMr⟩ := hy rfl; have hML : M = L := (Option.some.inj (hM.symm.trans hL.out.2)); subst hML; have hnn : n1 = N := hMl.symm.trans hN.out; subst hnn; have HK1 := Lib.hid (HK0.out.up hb1 (by simp)); have HB1 := Lib.hid (dn1 hb1); have HM := Lib.hid hMr; clear hb1 hy hM hMl hMr)
    go_loopw [5, 6, 7] (fun a b i wr => ∃ (j : Nat), j ≤ n1 ∧ i = .int .i64 j ∧ a = .bool (andB e M j) ∧ b = .bool (orB e M j) ∧ Hid (Below W1.heap.size W1 wr)) (fun _ _ i _ => n1 - (intOf i).toNat)
    case atStart => exact ⟨0, by omega, rfl, rfl, rfl, Below.refl _ _⟩
    case round =>
      obtain ⟨j, hj, rfl, rfl, rfl, hB⟩ := hrel
      by_cases hlt : (j : Int) < (n1 : Int)
      · have e5 : IntKind.i64.wrap ((j : Int) + 1) = (j : Int) + 1 := by rw [IntKind.wrap_i64]; omega
        obtain ⟨va, hva⟩ : ∃ v, Hid (andB e M j = v) := ⟨_, rfl⟩
        obtain ⟨vo, hvo⟩ : ∃ v, Hid (orB e M j = v) := ⟨_, rfl⟩
        rw [hva.out, hvo.out]
        have HKr := Lib.hid (HK1.out.up hB.out HK1.out.lt)
        have HBr := Lib.hid (nx HB1.out hB.out)
        have hgl : Hid (w.heap.size < wr.heap.size) := Lib.hid HKr.out.lt
        go_upto_region 10 with fail
        go_cut [8, 9] from 27 to 32 (fun a b wx => ∃ g h, a = .slice (some ⟨g, 0, none⟩) n1 n1 ∧ b = .slice (some ⟨h, 0, none⟩) n1 n1 ∧ F2 w g h (List.replicate n1 false) (List.replicate n1 false) wx k s m u A n c ∧ Below wr.heap.size wr wx ∧ wr.heap.size ≤ g ∧ wr.heap.size ≤ h)
        case first =>
          go_region
          all_goals (
            go_wp2_with fail
            go_meet
            have hF := F2.new HBr.out HKr.out (List.replicate n1 false) (List.replicate n1 false)
            first
              | exact ⟨_, _, rfl, rfl, hF, bdD (nxA (newB wr _) _), by omega, by omega⟩
              | exact ⟨_, _, rfl, rfl, hF.swap, bdD (nxA (newB wr _) _), by omega, by omega⟩)
        case rest =>
          obtain ⟨g, h, rfl, rfl, hF, hBx, hg1, hh1⟩ := hcut
          have HF : Hid (F2 w g h (fillS n1 0 (fun x => decide (x = j))) (fillS n1 0 (fun x => !decide (x = j))) wc k s m u A n c) := Lib.hid (by rw [fillS_zero, fillS_zero]; exact hF)
          have HBx := Lib.hid (hB.out.trans (hBx.mono hB.out.size))
          have hg2 : Hid (W1.heap.size ≤ g) := Lib.hid (Nat.le_trans hB.out.size hg1)
          have hh2 : Hid (W1.heap.size ≤ h) := Lib.hid (Nat.le_trans hB.out.size hh1)
          clear hF hBx hg1 hh1 HKr HBr hgl
          go_wp2
          go_loopw [10] (fun i wx => ∃ (p : Nat), p ≤ n1 ∧ i = .int .i64 p ∧ Hid (F2 w g h (fillS n1 p (fun x => decide (x = j))) (fillS n1 p (fun x => !decide (x = j))) wx k s m u A n c) ∧ Hid (Below W1.heap.size W1 wx)) (fun i _ => n1 - (intOf i).toNat)
          case atStart => exact ⟨0, by omega, rfl, HF, HBx⟩
          case round =>
            obtain ⟨p, hp, rfl, hF, hBx⟩ := hrel
            by_cases hpl : (p : Int) < (n1 : Int)
            · have e6 : IntKind.i64.wrap ((p : Int) + 1) = (p : Int) + 1 := by rw [IntKind.wrap_i64]; omega
              have g1 := hF.out.b1.lt
              have g2 := hF.out.b1.fz
              have g3 := hF.out.b1.cell p (bvs_at (by rw [fillS_len]; omega))
              have h1 := hF.out.b2.lt
              have h2 := hF.out.b2.fz
              have h3 := hF.out.b2.cell p (bvs_at (by rw [fillS_len]; omega))
              have n1' := hF.out.ne
              have n2' := hF.out.ne.symm
              have hst := hF.out.put p (decide (p = j)) (!decide (p = j))
              have f1 := fillS_step (n := n1) (fun x => decide (x = j)) (show p < n1 by omega)
              have f2 := fillS_step (n := n1) (fun x => !decide (x = j)) (show p < n1 by omega)
              rw [f1, f2] at hst
              have hbst : Below W1.heap.size W1 ((wr.setCell ⟨g, p, none⟩ (.bool (decide (p = j)))).setCell ⟨h, p, none⟩ (.bool (!decide (p = j)))) := (hBx.out.setCell (p := ⟨g, p, none⟩) hg2.out _).setCell (p := ⟨h, p, none⟩) hh2.out _
              have HST := Lib.hid hst
              have HBST := Lib.hid hbst
              clear hst f1 f2 hbst
              by_cases hpj : p = j
              · subst hpj
                rw [decide_eq_true rfl] at HST HBST
                go_wp2
                exact ⟨⟨p + 1, by omega, by go_num, HST, HBST⟩, by simp [intOf]; omega⟩
              · have q1 : ((p : Int) == (j : Int)) = false := by rw [beq_eq_false_iff_ne]; omega
                have q2 : ((p : Int) != (j : Int)) = true := by rw [bne_iff_ne]; omega
                rw [decide_eq_false hpj] at HST HBST
                go_wp2
                exact ⟨⟨p + 1, by omega, by go_num, HST, HBST⟩, by simp [intOf]; omega⟩
            · have hpe : p = n1 := by omega
              subst hpe
              have hone : Hid (fillS p p (fun x => decide (x = j)) = oneS M.length j) := by show _ = _; rw [fillS_all, hN.out]; rfl
              have hrest : Hid (fillS p p (fun x => !decide (x = j)) = restS M.length j) := by show _ = _; rw [fillS_all, hN.out]; rfl
              have HFC : Hid (F2 w g h (oneS M.length j) (restS M.length j) wr k s m u A n c) := Lib.hid (by rw [← hone.out, ← hrest.out]; exact hF.out)
              clear hF hone hrest
              obtain ⟨b5, hb5⟩ : ∃ b5, Hid (e.hld M (restS M.length j) = b5) := ⟨_, rfl⟩
              obtain ⟨b6, hb6⟩ : ∃ b6, Hid (e.hld M (oneS M.length j) = b6) := ⟨_, rfl⟩
              have hand : Hid (andB e M (j + 1) = (va && !b5)) := by show _ = _; rw [andB_snoc, hva.out, hb5.out]
              have hor : Hid (orB e M (j + 1) = (vo && b6)) := by show _ = _; rw [orB_snoc, hvo.out, hb6.out]
              clear hva hvo hr2
              go_upto_region 15 with fail
              go_cut [5] from 51 to 58 (fun y wx => y = .bool (va && !b5) ∧ F2 w g h (oneS M.length j) (restS M.length j) wx k s m u A n c ∧ Below W1.heap.size W1 wx)
              case first =>
                have hx := HFC.out.box
                have x0 := hx.cell 0 rfl
                have x1 := hx.cell 1 rfl
                have x2 := hx.cell 2 rfl
                have x3 := hx.cell 3 rfl
                have x4 := hx.cell 4 rfl
                have HTc := Lib.hid (TIn.up HT.out HFC.out.bel)
                have HLS : Hid (LS wr M (restS M.length j) A1 p (some ⟨h, 0, none⟩) p) := Lib.hid ⟨hN.out, HM.out.below hBx.out, by omega, by simp [restS, hN.out], HFC.out.b2.br, by omega⟩
                clear hx
                cases va with
                | false =>
                  go_wp2_with fail
                  go_meet
                  exact ⟨rfl, HFC.out, hBx.out⟩
                | true =>
                  go_wp2_with (go_at_call 38; refine (rholds_all e M (restS M.length j) k s m u A n c A1 p c1 (some ⟨h, 0, none⟩) p p _ b5 HTc HLS hb5).mono ?_; rintro x W5 ⟨rfl, hb3⟩; have HFW5 := Lib.hid (HFC.out.of hb3); have HBW5 := Lib.hid (hBx.out.trans (hb3.mono hBx.out.size)); clear hb3)
                  go_meet
                  exact ⟨rfl, HFW5.out, HBW5.out⟩
              case rest =>
                obtain ⟨rfl, hF5, hB5⟩ := hcut
                have HF5 := Lib.hid hF5
                have HB5 := Lib.hid hB5
                clear hF5 hB5 HFC hBx
                have hx := HF5.out.box
                have x0 := hx.cell 0 rfl
                have x1 := hx.cell 1 rfl
                have x2 := hx.cell 2 rfl
                have x3 := hx.cell 3 rfl
                have x4 := hx.cell 4 rfl
                have HTc := Lib.hid (TIn.up HT.out HF5.out.bel)
                have HLS : Hid (LS wc M (oneS M.length j) A1 p (some ⟨g, 0, none⟩) p) := Lib.hid ⟨hN.out, HM.out.below HB5.out, by omega, by simp [oneS, hN.out], HF5.out.b1.br, by omega⟩
                clear hx
                cases vo with
                | false =>
                  go_wp2
                  exact ⟨⟨j + 1, by omega, by go_num, by rw [hand.out], by rw [hor.out]; rfl, HB5⟩, by simp [intOf]; omega⟩
                | true =>
                  go_wp2_with (go_at_call 38; refine (rholds_all e M (oneS M.length j) k s m u A n c A1 p c1 (some ⟨g, 0, none⟩) p p _ b6 HTc HLS hb6).mono ?_; rintro x W6 ⟨rfl, hb3⟩; have HFW6 := Lib.hid (HF5.out.of hb3); have HBW6 := Lib.hid (HB5.out.trans (hb3.mono HB5.out.size)); clear hb3)
                  exact ⟨⟨j + 1, by omega, by go_num, by rw [hand.out], by rw [hor.out]; rfl, HBW6⟩, by simp [intOf]; omega⟩
      · have hje : j = n1 := by omega
        subst hje
        obtain ⟨va, hva⟩ : ∃ v, Hid (andB e M j = v) := ⟨_, rfl⟩
        obtain ⟨vo, hvo⟩ : ∃ v, Hid (orB e M j = v) := ⟨_, rfl⟩
        have hend : Hid ((if va = true then (2 : Int) else if vo = true then 3 else 4) = r) := by show _ = _; rw [← hva.out, ← hvo.out]; exact hr2.out
        rw [hva.out, hvo.out]
        clear hva hvo hr2
        cases va with
        | true =>
          go_wp2
          go_ret
          exact ⟨by rw [← hend.out]; rfl, nx HB1.out hB.out⟩
        | false =>
          cases vo with
          | true =>
            go_wp2
            go_ret
            exact ⟨by rw [← hend.out]; rfl, nx HB1.out hB.out⟩
          | false =>
            go_wp2
            go_ret
            exact ⟨by rw [← hend.out]; rfl, nx HB1.out hB.out⟩
set_option maxHeartbeats 2000000 in
set_option maxRecDepth 8000 in
theorem refClass_no {e : Ex} (k : Int) (s : ByteArray) (m u : Int) (A : Option Addr) (n c : Nat) (w : World) (hT : TIn (Lo w.heap.size) w ⟨k, s, m, u, A, n, c⟩ e) (hv : Hid (¬ Vex e)) :
    Calls Try.prog 28 #[xe k s m u A n c] w fun x w' => x = .returned (.int .i64 0) ∧ Below w.heap.size w w' := by
  have HT := Lib.hid hT
  have hr : Hid (vexB e = false) := vexB_no.2 hv.out
  clear hT
  go_enter Try.func28, Try.ntmps28
  go_wp2_with (go_at_call 34; refine (atoms_is (e := e) k s m u A n c _ (HT.out.grow _) hr).mono ?_; rintro x W1 ⟨⟨A1, n1, c1, rfl, hno, -⟩, hb1⟩; obtain ⟨rfl, rfl, rfl⟩ := hno rfl; have HB1 := Lib.hid (dn1 hb1); clear hb1 hno)
  go_ret
  exact ⟨rfl, HB1.out⟩
end Go.Proofs.Ytecipjjnbikheaa
