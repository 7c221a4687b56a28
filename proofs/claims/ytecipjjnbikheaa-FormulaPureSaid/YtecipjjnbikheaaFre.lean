/- Contracts of the reference: Resolve, SameBools. -/
import Derived.Test.YtecipjjnbikheaaFrf
import Derived.Test.YtecipjjnbikheaaFrs
namespace Go.Proofs.Ytecipjjnbikheaa
open Go.RowKit
set_option linter.unusedVariables false
set_option linter.unusedSimpArgs false

/-- What catalog's Resolve answers for an atom. -/
noncomputable def rsvN (l : List P4) (a : A3) : Int := (rsv_ex l a.1 a.2.1 a.2.2).choose
theorem rsvN_is (l : List P4) (a : A3) : Rsv l a.1 a.2.1 a.2.2 (rsvN l a) := (rsv_ex l a.1 a.2.1 a.2.2).choose_spec
/-- The first error. -/
noncomputable def firE (l : List P4) : List A3 → Int
  | [] => 0
  | a :: r => if rsvN l a = 0 then firE l r else rsvN l a
theorem firE_drop {l : List P4} {L : List A3} {j : Nat} (h : j < L.length) : firE l (L.drop j) = if rsvN l (L.getD j default) = 0 then firE l (L.drop (j + 1)) else rsvN l (L.getD j default) := by
  have e0 : L.getD j default = L[j] := by rw [List.getD_eq_getElem?_getD, List.getElem?_eq_getElem h]; rfl
  rw [List.drop_eq_getElem_cons h, firE, e0]
set_option maxHeartbeats 4000000 in
set_option maxRecDepth 20000 in
theorem refResolve8_yes {e : Ex} {L : List A3} (l : List P4) (B : Option Addr) (q cq : Nat) (k : Int) (s : ByteArray) (m u : Int) (A : Option Addr) (n c : Nat) (w : World) (hI : InR w B q cq l) (hT : TIn (Lo w.heap.size) w ⟨k, s, m, u, A, n, c⟩ e) (hL : Hid (VL e L)) {r : Int} (hr : Hid (firE l L = r)) :
    Calls Try.prog 31 #[.slice B q cq, xe k s m u A n c] w fun x w' => x = .returned (.int .i64 r) ∧ Below w.heap.size w w' := by
  have HT := Lib.hid hT
  have HI := Lib.hid hI
  have hv : Hid (vexB e = true) := vexB_iff.2 hL.out.1
  obtain ⟨N, hN⟩ : ∃ N, Hid (L.length = N) := ⟨_, rfl⟩
  have hN8 : N ≤ 8 := by have h1 := hL.out.n8; have h2 := hN.out; omega
  clear hT hI
  go_enter Try.func31, Try.ntmps31
  go_wp2_with (go_at_call 34; refine (atoms_is (e := e) k s m u A n c _ (HT.out.grow _) hv).mono ?_; rintro x W1 ⟨⟨A1, n1, c1, rfl, -, hy⟩, hb1⟩; obtain ⟨M, hM, hMl, hMr⟩ := hy rfl; have hML : M = L := (Option.some.inj (hM.symm.trans hL.out.2)); subst hML; have hnn : n1 = N := hMl.symm.trans hN.out; subst hnn; have HB1 := Lib.hid (dn1 hb1); have HM := Lib.hid hMr; clear hb1 hy hM hMl hMr)
  go_loopw [7] (fun i wr => ∃ (j : Nat), j ≤ n1 ∧ i = .int .i64 j ∧ Hid (firE l (M.drop j) = r) ∧ Hid (Below W1.heap.size W1 wr)) (fun i _ => n1 - (intOf i).toNat)
  case atStart => exact ⟨0, by omega, rfl, hr, Below.refl _ _⟩
  case round =>
    obtain ⟨j, hj, rfl, hR, hB⟩ := hrel
    by_cases hlt : (j : Int) < (n1 : Int)
    · have hjl : j < M.length := by have := hN.out; omega
      obtain ⟨g, o, s1, m1, u1, rfl, hg, hx, c1', c2, c3⟩ := (HM.out.below hB.out).at_ (i := j) hjl
      have e5 : IntKind.i64.wrap ((j : Int) + 1) = (j : Int) + 1 := by rw [IntKind.wrap_i64]; omega
      have hd := firE_drop (l := l) hjl
      have hrs := rsvN_is l (M.getD j default)
      obtain ⟨v, hv1⟩ : ∃ v, Hid (rsvN l (M.getD j default) = v) := ⟨_, rfl⟩
      rw [hR.out, hv1.out] at hd
      rw [hv1.out, hx.out] at hrs
      have HRS : Hid (Rsv l s1 m1 u1 v) := hrs
      clear hrs
      by_cases h0 : v = 0
      · have b0 : (v != 0) = false := by rw [bne_eq_false_iff_eq]; exact h0
        have hR2 : Hid (firE l (M.drop (j + 1)) = r) := by show _ = _; rw [hd, if_pos h0]
        clear hd h0
        go_wp2_with (go_at_call 47; refine (refResolve_is B q cq l s1 m1 u1 _ (HI.out.below (nx HB1.out hB.out)) HRS).mono ?_; rintro x W2 ⟨rfl, hb2⟩; have HB2 := Lib.hid (nx hB.out hb2); clear hb2)
        exact ⟨⟨j + 1, by omega, by go_num, hR2, HB2⟩, by simp [intOf]; omega⟩
      · have b0 : (v != 0) = true := by rw [bne_iff_ne]; exact h0
        have hend : Hid (r = v) := by show _ = _; rw [hd, if_neg h0]
        clear hd h0
        go_wp2_with (go_at_call 47; refine (refResolve_is B q cq l s1 m1 u1 _ (HI.out.below (nx HB1.out hB.out)) HRS).mono ?_; rintro x W2 ⟨rfl, hb2⟩; have HB2 := Lib.hid (nx hB.out hb2); clear hb2)
        go_ret
        exact ⟨by rw [hend.out]; rfl, nx HB1.out HB2.out⟩
    · have hend : Hid (r = 0) := by
        show _ = _
        rw [← hR.out, List.drop_eq_nil_of_le (by have := hN.out; omega), firE]
      go_wp2
      go_ret
      exact ⟨by rw [hend.out]; rfl, nx HB1.out hB.out⟩
set_option maxHeartbeats 2000000 in
set_option maxRecDepth 8000 in
theorem refResolve8_no {e : Ex} (B : Option Addr) (q cq : Nat) (k : Int) (s : ByteArray) (m u : Int) (A : Option Addr) (n c : Nat) (w : World) (hT : TIn (Lo w.heap.size) w ⟨k, s, m, u, A, n, c⟩ e) (hv : Hid (¬ Vex e)) :
    Calls Try.prog 31 #[.slice B q cq, xe k s m u A n c] w fun x w' => x = .returned (.int .i64 1) ∧ Below w.heap.size w w' := by
  have HT := Lib.hid hT
  have hr : Hid (vexB e = false) := vexB_no.2 hv.out
  clear hT
  go_enter Try.func31, Try.ntmps31
  go_wp2_with (go_at_call 34; refine (atoms_is (e := e) k s m u A n c _ (HT.out.grow _) hr).mono ?_; rintro x W1 ⟨⟨A1, n1, c1, rfl, hno, -⟩, hb1⟩; obtain ⟨rfl, rfl, rfl⟩ := hno rfl; have HB1 := Lib.hid (dn1 hb1); clear hb1 hno)
  go_ret
  exact ⟨rfl, HB1.out⟩
set_option maxHeartbeats 2000000 in
set_option maxRecDepth 8000 in
/-- Two slices of one list are the same. -/
theorem sameBools_is (X : List Bool) (A : Option Addr) (n c : Nat) (B : Option Addr) (c' : Nat) (w : World) (hA : BR w A X) (hB : BR w B X) (hn : Hid (X.length = n)) (hb : n ≤ 1000000) :
    Calls Try.prog 24 #[.slice A n c, .slice B n c'] w fun x w' => x = .returned (.bool true) ∧ Below w.heap.size w w' := by
  have HA := Lib.hid hA
  have HB := Lib.hid hB
  clear hA hB
  go_enter Try.func24, Try.ntmps24
  go_wp2
  go_loopw [5] (fun i wr => ∃ (j : Nat), j ≤ n ∧ i = .int .i64 j ∧ Hid (Below w.heap.size w wr)) (fun i _ => n - (intOf i).toNat)
  case atStart => exact ⟨0, by omega, rfl, Below.refl _ _⟩
  case round =>
    obtain ⟨j, hj, rfl, hW⟩ := hrel
    by_cases hlt : (j : Int) < (n : Int)
    · have e5 : IntKind.i64.wrap ((j : Int) + 1) = (j : Int) + 1 := by rw [IntKind.wrap_i64]; omega
      obtain ⟨g, o, v, rfl, hg, hv, c1⟩ := (HA.out.below hW.out).at_ (i := j) (by have := hn.out; omega)
      obtain ⟨g', o', v', rfl, hg', hv', c2⟩ := (HB.out.below hW.out).at_ (i := j) (by have := hn.out; omega)
      have hvv : v = v' := hv.out.symm.trans hv'.out
      subst hvv
      have b0 : (v != v) = false := by simp
      go_wp2
      go_quiet (fail)
      go_wp2
      exact ⟨⟨j + 1, by omega, by go_num, bdN hW.out _⟩, by simp [intOf]; omega⟩
    · go_wp2
      go_ret
      exact ⟨rfl, hW.out⟩
end Go.Proofs.Ytecipjjnbikheaa
