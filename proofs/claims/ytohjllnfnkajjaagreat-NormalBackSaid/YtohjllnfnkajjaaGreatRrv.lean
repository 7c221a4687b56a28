/- Contracts of the reference: Atoms, ValidExpr, Valid. -/
import Derived.Test.YtohjllnfnkajjaaGreatRcv
namespace Go.Proofs.YtohjllnfnkajjaaGreat
open Go.RowKit
set_option linter.unusedVariables false
set_option linter.unusedSimpArgs false

theorem vex_coll {e : Ex} : Vex e ↔ lim 1 0 e = true ∧ ∃ M, coll e.pre [] = some M ∧ Dist M ∧ M.length ≤ 8 := by
  have hv := vld_coll e.pre [] List.Pairwise.nil (by simp)
  constructor
  · rintro ⟨h1, h2, m, hm⟩
    exact ⟨decide_eq_true (by omega), m, hv.1 m hm⟩
  · rintro ⟨h1, M, hM, hD, h8⟩
    have := lim_is h1
    refine ⟨by omega, by omega, ?_⟩
    cases hx : vld e.pre [] with
    | some m => exact ⟨m, rfl⟩
    | none => exact absurd ⟨hD, h8⟩ (hv.2 hx M hM)
theorem dist_get {M : List A3} : Dist M ↔ ∀ a b, a < b → b < M.length → (M.getD a default).1 ≠ (M.getD b default).1 := by
  unfold Dist
  rw [List.pairwise_iff_getElem]
  constructor
  · intro h a b hab hb
    have := h a b (by omega) hb hab
    rw [List.getD_eq_getElem?_getD, List.getD_eq_getElem?_getD, List.getElem?_eq_getElem (by omega), List.getElem?_eq_getElem hb]
    exact this
  · intro h a b ha hb hab
    have := h a b hab hb
    rw [List.getD_eq_getElem?_getD, List.getD_eq_getElem?_getD, List.getElem?_eq_getElem (by omega), List.getElem?_eq_getElem hb] at this
    exact this
theorem coll_vld {e : Ex} {M : List A3} (h : Vex e) (hc : coll e.pre [] = some M) : vld e.pre [] = some M := by
  obtain ⟨_, _, l, hl⟩ := h
  have := ((vld_coll e.pre [] List.Pairwise.nil (by simp)).1 l hl).1
  rw [hc] at this
  obtain rfl := Option.some.inj this
  exact hl
def AtmP (e : Ex) (r : Bool) (w : World) (x : Ending) (w' : World) : Prop := (∃ A n c, x = .returned (.tuple #[.slice A n c, .bool r]) ∧ (r = false → A = none ∧ n = 0 ∧ c = 0) ∧ (r = true → ∃ M, vld e.pre [] = some M ∧ M.length = n ∧ QRd w' A M)) ∧ Below w.heap.size w w'
set_option maxHeartbeats 8000000 in
set_option maxRecDepth 100000 in
theorem atoms_is {e : Ex} (k : Int) (s : ByteArray) (m u : Int) (A : Option Addr) (n c : Nat) (w : World) (hT : TIn (Lo w.heap.size) w ⟨k, s, m, u, A, n, c⟩ e) {r : Bool} (hr : Hid (vexB e = r)) :
    Calls Tryz.prog 37 #[xe k s m u A n c] w (AtmP e r w) := by
  have HT := Lib.hid hT
  have HK1 := Lib.hid (Blk.new w [.int .i64 k, .string s, .int .i64 m, .int .i64 u, .slice A n c] 28 rfl)
  obtain ⟨v, hv⟩ : ∃ v, Hid (rnN e = v) := ⟨_, rfl⟩
  have hno : ¬ Vex e → r = false := fun h => by rw [← hr.out, vexB_no]; exact h
  have HNO := Lib.hid hno
  clear hT hno
  cases hl : lim 1 0 e with
  | false =>
    have hv0 : Hid (v = 0) := by show _ = _; rw [← hv.out]; unfold rnN; rw [hl]; rfl
    have hend : Hid (r = false) := Lib.hid (HNO.out (fun h => by have := (vex_coll.1 h).1; rw [hl] at this; cases this))
    have hb0 : ((v : Int) == 0) = true := by rw [beq_iff_eq]; have := hv0.out; omega
    clear hl hr hv0
    go_enter Tryz.func37, Tryz.ntmps37
    go_wp2_with (go_at_call 23; refine (refNodes_is (e := e) k s m u A n c _ (HT.out.grow _) hv).mono ?_; rintro x W1 ⟨rfl, hb1⟩; have HB1 := Lib.hid (dn1 hb1); clear hb1)
    go_ret2
    have e := hend.out
    subst e
    exact ⟨⟨_, _, _, rfl, (fun _ => ⟨rfl, rfl, rfl⟩), fun h => by cases h⟩, HB1.out⟩
  | true =>
    have hv0 : Hid (v = e.cnt) := by show _ = _; rw [← hv.out]; unfold rnN; rw [hl]; rfl
    have hb0 : ((v : Int) == 0) = false := by rw [beq_eq_false_iff_ne]; have := hv0.out; have := cnt_pos e; omega
    have hcn : Hid (([] : List A3).length + e.cnt ≤ 1000) := by have := lim_is hl; show _ ≤ _; simp; omega
    have HL := Lib.hid hl
    clear hl hv0
    cases hc : coll e.pre [] with
    | none =>
      have HC := Lib.hid hc
      have hend : Hid (r = false) := Lib.hid (HNO.out (fun h => by obtain ⟨_, M, hM, _⟩ := vex_coll.1 h; rw [hc] at hM; cases hM))
      clear hc hr
      go_enter Tryz.func37, Tryz.ntmps37
      go_wp2_with (first
        | (go_at_call 23; refine (refNodes_is (e := e) k s m u A n c _ (HT.out.grow _) hv).mono ?_; rintro x W1 ⟨rfl, hb1⟩; have HK2 := HK1.out.up hb1 (by simp); obtain q0 := HK2.cell 0 rfl; obtain q1 := HK2.cell 1 rfl; obtain q2 := HK2.cell 2 rfl; obtain q3 := HK2.cell 3 rfl; obtain q4 := HK2.cell 4 rfl; have HB1 := Lib.hid (dn1 hb1); have HT1 := Lib.hid (HT.out.up HB1.out); clear hb1 HK2)
        | (go_at_call 63; refine ((addq_all e _ _ _ _ [] k s m u A n c _ (Lib.hid (OwnQ.nil _ _)) (Nat.le_refl _) HT1 hcn).2 HC).mono ?_; rintro x W2 ⟨A2, n2, c2, rfl, hg2⟩; have HB2 := Lib.hid (nx HB1.out (gB_own hg2 (fun g hg => by simp [Value.ownBlock] at hg) (Nat.le_refl _))); clear hg2))
      go_ret2
      have e := hend.out
      subst e
      exact ⟨⟨_, _, _, rfl, (fun _ => ⟨rfl, rfl, rfl⟩), fun h => by cases h⟩, HB2.out⟩
    | some M =>
      have HC := Lib.hid hc
      obtain ⟨L, hL⟩ : ∃ L, Hid (M.length = L) := ⟨_, rfl⟩
      by_cases h8 : 8 < (L : Int)
      · have hend : Hid (r = false) := Lib.hid (HNO.out (fun h => by
          obtain ⟨_, M', hM, _, h9⟩ := vex_coll.1 h
          rw [hc] at hM
          obtain rfl := Option.some.inj hM
          have := hL.out
          omega))
        clear hc hr
        go_enter Tryz.func37, Tryz.ntmps37
        go_wp2_with (first
          | (go_at_call 23; refine (refNodes_is (e := e) k s m u A n c _ (HT.out.grow _) hv).mono ?_; rintro x W1 ⟨rfl, hb1⟩; have HK2 := HK1.out.up hb1 (by simp); obtain q0 := HK2.cell 0 rfl; obtain q1 := HK2.cell 1 rfl; obtain q2 := HK2.cell 2 rfl; obtain q3 := HK2.cell 3 rfl; obtain q4 := HK2.cell 4 rfl; have HB1 := Lib.hid (dn1 hb1); have HT1 := Lib.hid (HT.out.up HB1.out); clear hb1 HK2)
          | (go_at_call 63; refine ((addq_all e _ _ _ _ [] k s m u A n c _ (Lib.hid (OwnQ.nil _ _)) (Nat.le_refl _) HT1 hcn).1 M HC).mono ?_; rintro x W2 ⟨A2, n2, c2, rfl, ho2, hg2, -⟩; obtain ⟨A3', c3, hV3, -, -⟩ := ho2.form; rw [hL.out] at hV3; injection hV3 with e1 e2 e3; obtain rfl := e1.symm; obtain rfl : L = n2 := e2.symm; obtain rfl := e3.symm; have HB2 := Lib.hid (nx HB1.out (gB_own hg2 (fun g hg => by simp [Value.ownBlock] at hg) (Nat.le_refl _))); clear hg2 ho2))
        go_ret2
        have e := hend.out
        subst e
        exact ⟨⟨_, _, _, rfl, (fun _ => ⟨rfl, rfl, rfl⟩), fun h => by cases h⟩, HB2.out⟩
      · go_enter Tryz.func37, Tryz.ntmps37
        clear hc
        have hdist : (∀ a b, a < b → b < L → (M.getD a default).1 ≠ (M.getD b default).1) ↔ r = true := by
          rw [← hr.out, vexB_iff, vex_coll, ← hL.out, ← dist_get]
          have h1 := HL.out
          have h2 := HC.out
          have h3 := hL.out
          constructor
          · intro h
            exact ⟨h1, M, h2, h, by omega⟩
          · rintro ⟨_, M', h4, h5, _⟩
            rw [h2] at h4
            obtain rfl := Option.some.inj h4
            exact h5
        have HD := Lib.hid hdist
        have HVX : Hid (r = true → Vex e) := Lib.hid (fun h => vexB_iff.1 (hr.out.trans h))
        clear hdist hr
        go_wp2_with (first
          | (go_at_call 23; refine (refNodes_is (e := e) k s m u A n c _ (HT.out.grow _) hv).mono ?_; rintro x W1 ⟨rfl, hb1⟩; have HK2 := HK1.out.up hb1 (by simp); obtain q0 := HK2.cell 0 rfl; obtain q1 := HK2.cell 1 rfl; obtain q2 := HK2.cell 2 rfl; obtain q3 := HK2.cell 3 rfl; obtain q4 := HK2.cell 4 rfl; have HB1 := Lib.hid (dn1 hb1); have HT1 := Lib.hid (HT.out.up HB1.out); clear hb1 HK2)
          | (go_at_call 63; refine ((addq_all e _ _ _ _ [] k s m u A n c _ (Lib.hid (OwnQ.nil _ _)) (Nat.le_refl _) HT1 hcn).1 M HC).mono ?_; rintro x W2 ⟨A2, n2, c2, rfl, ho2, hg2, -⟩; obtain ⟨A3', c3, hV3, -, hrd⟩ := ho2.form; rw [hL.out] at hV3; injection hV3 with e1 e2 e3; obtain rfl := e1.symm; obtain rfl : L = n2 := e2.symm; obtain rfl := e3.symm; have HB2 := Lib.hid (nx HB1.out (gB_own hg2 (fun g hg => by simp [Value.ownBlock] at hg) (Nat.le_refl _))); have HR := Lib.hid hrd; clear hg2 ho2 hrd))
        clear q0 q1 q2 q3 q4
        go_loopw [6] (fun i wr => ∃ (j : Nat), j ≤ L ∧ i = .int .i64 j ∧ Hid (Below W2.heap.size W2 wr) ∧ Hid (∀ a b, a < b → b < j → (M.getD a default).1 ≠ (M.getD b default).1)) (fun i _ => L - (intOf i).toNat)
        case atStart => exact ⟨0, by omega, rfl, Below.refl _ _, fun a b _ h => by omega⟩
        case round =>
          obtain ⟨j, hj, rfl, hB, hall⟩ := hrel
          by_cases hlt : (j : Int) < (L : Int)
          · go_wp2
            go_loopw [7] (fun i wx => ∃ (p : Nat), p ≤ j ∧ i = .int .i64 p ∧ Hid (Below W2.heap.size W2 wx) ∧ Hid (∀ a, a < p → (M.getD a default).1 ≠ (M.getD j default).1)) (fun i _ => j - (intOf i).toNat)
            case atStart => exact ⟨0, by omega, rfl, hB, fun a h => by omega⟩
            case round =>
              obtain ⟨p, hp, rfl, hBx, hin⟩ := hrel
              by_cases hpj : (p : Int) < (j : Int)
              · obtain ⟨g, o, s1, m1, u1, rfl, hg1, hx1, c1, -, -⟩ := (HR.out.below hBx.out).at_ (i := j) (by have := hL.out; omega)
                obtain ⟨g', o', s2, m2, u2, hA2, -, hx2, d1, -, -⟩ := (HR.out.below hBx.out).at_ (i := p) (by have := hL.out; omega)
                simp only [Option.some.injEq, Addr.mk.injEq, and_true] at hA2
                obtain ⟨rfl, rfl⟩ := hA2
                by_cases hs : s1 = s2
                · have hse : (s1.toList == s2.toList) = true := eqS_iff.2 hs
                  have hend : Hid (r = false) := by
                    cases hrr : r with
                    | false => exact rfl
                    | true =>
                      exfalso
                      have := HD.out.2 hrr p j (by omega) (by omega)
                      rw [hx1.out, hx2.out] at this
                      exact this hs.symm
                  clear hs
                  go_wp2
                  go_quiet (fail)
                  go_wp2
                  go_ret2
                  have e := hend.out
                  subst e
                  exact ⟨⟨_, _, _, rfl, (fun _ => ⟨rfl, rfl, rfl⟩), fun h => by cases h⟩, nx HB2.out (bdN hBx.out _)⟩
                · have hse : (s1.toList == s2.toList) = false := eqS_no.2 hs
                  have hin2 : Hid (∀ a, a < p + 1 → (M.getD a default).1 ≠ (M.getD j default).1) := fun a ha => by
                    by_cases e : a = p
                    · subst e
                      rw [hx1.out, hx2.out]
                      exact fun h => hs h.symm
                    · exact hin.out a (by omega)
                  clear hs
                  go_wp2
                  go_quiet (fail)
                  go_wp2
                  go_roundw
                  case rel => exact ⟨p + 1, by omega, by go_num, bdN hBx.out _, hin2⟩
                  case measure => simp [intOf]; omega
              · have hpe : p = j := by omega
                have hall2 : Hid (∀ a b, a < b → b < j + 1 → (M.getD a default).1 ≠ (M.getD b default).1) := fun a b hab hb => by
                  by_cases e : b = j
                  · subst e
                    exact hin.out a (by omega)
                  · exact hall.out a b hab (by omega)
                clear hpe
                go_wp2
                go_roundw
                case rel => exact ⟨j + 1, by omega, by go_num, hBx, hall2⟩
                case measure => simp [intOf]; omega
          · have hend : Hid (r = true) := Lib.hid (HD.out.1 (fun a b hab hb => hall.out a b hab (by omega)))
            go_wp2
            go_ret2
            have e := hend.out
            subst e
            exact ⟨⟨_, _, _, rfl, (fun h => by cases h), fun _ => ⟨M, coll_vld (HVX.out rfl) HC.out, hL.out, HR.out.below hB.out⟩⟩, nx HB2.out hB.out⟩
set_option maxHeartbeats 1000000 in
set_option maxRecDepth 8000 in
theorem refValidExpr_is {e : Ex} (k : Int) (s : ByteArray) (m u : Int) (A : Option Addr) (n c : Nat) (w : World) (hT : TIn (Lo w.heap.size) w ⟨k, s, m, u, A, n, c⟩ e) {r : Bool} (hr : Hid (vexB e = r)) :
    Calls Tryz.prog 21 #[xe k s m u A n c] w fun x w' => x = .returned (.bool r) ∧ Below w.heap.size w w' := by
  have HT := Lib.hid hT
  clear hT
  go_enter Tryz.func21, Tryz.ntmps21
  go_wp2_with (go_at_call 37; refine (atoms_is (e := e) k s m u A n c _ (HT.out.grow _) hr).mono ?_; rintro x W1 ⟨⟨A1, n1, c1, rfl, -, -⟩, hb1⟩; have HB1 := Lib.hid (dn1 hb1); clear hb1)
  go_ret
  exact ⟨rfl, HB1.out⟩
end Go.Proofs.YtohjllnfnkajjaaGreat
