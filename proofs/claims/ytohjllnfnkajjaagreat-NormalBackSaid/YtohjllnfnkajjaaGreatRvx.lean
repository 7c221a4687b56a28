/- Contracts: ValidExpr, Valid. Contracts: Valid. -/
import Derived.Test.YtohjllnfnkajjaaGreatRsur
namespace Go.Proofs.YtohjllnfnkajjaaGreat
open Go.RowKit
set_option linter.unusedVariables false
set_option linter.unusedSimpArgs false

theorem gB_own {w w' : World} {r : Option Nat} {B : Nat} (h : w.grownBy w' r) (hr : ∀ g, r = some g → B ≤ g) (hB : B ≤ w.heap.size) : Below B w w' :=
  ⟨h.os, h.tape, h.output, h.size, fun k hk => h.block k (by omega) (fun e => by have := hr k e.symm; omega)⟩
theorem XRd.at_ {w : World} {A : Option Addr} {l : List XV} (h : XRd w A l) {i : Nat} (hi : i < l.length) :
    ∃ b o v, A = some ⟨b, o, none⟩ ∧ b < w.heap.size ∧ Hid (l.getD i default = v) ∧ ZX w b (o + i * 5) v := by
  obtain ⟨b, o, hA, hb, hc⟩ := h (by rintro rfl; simp at hi)
  exact ⟨b, o, _, hA, hb, rfl, hc i hi⟩
theorem XRd.below {w w' : World} {A : Option Addr} {l : List XV} (h : XRd w A l) (hb : Below w.heap.size w w') : XRd w' A l := fun hx => by
  obtain ⟨b, o, hA, hlt, hc⟩ := h hx
  exact ⟨b, o, hA, Nat.lt_of_lt_of_le hlt hb.size, fun i hi => (hc i hi).of (hb.block b hlt)⟩
theorem incl_len {l : List A3} {a : A3} (h : l.length ≤ 8) (h0 : (incl l a).2 = 0) : (incl l a).1.length ≤ 8 := by
  unfold incl at *
  split at h0
  · simpa using h
  · simp at h0
  · split at h0
    · simp at h0
    · rename_i h8
      rw [if_neg h8]
      simp
      omega
set_option maxHeartbeats 4000000 in
set_option maxRecDepth 100000 in
theorem validExpr_is {e : Ex} (k : Int) (s : ByteArray) (m u : Int) (A : Option Addr) (n c : Nat) (w : World) (hT : TIn (Lo w.heap.size) w ⟨k, s, m, u, A, n, c⟩ e) {r : Bool} (hr : Hid (vexB e = r)) :
    Calls Tryz.prog 40 #[xe k s m u A n c] w fun x w' => x = .returned (.bool r) ∧ Below w.heap.size w w' := by
  have HT := Lib.hid hT
  have hf0 := fld0
  clear hT
  go_enter Tryz.func40, Tryz.ntmps40
  go_wp2_with (go_at_call 65; refine (survey_is (e := e) k s m u A n c _ (HT.out.grow _)).mono ?_; rintro x W1 ⟨A1, n1, c1, vs, rfl, hrd, hn, hfit, hk, hb1⟩; have HB1 := Lib.hid (dn1 hb1); have HN := Lib.hid hn; have HK := Lib.hid hk; have HR := Lib.hid hrd; clear hb1 hrd hn hk)
  have hmx : Hid (n1 ≤ 24) := by
    have h1 := surN_len e
    rw [← HK.out, kss_len, HN.out] at h1
    show _ ≤ _
    rw [h1]
    split
    · rename_i h; have := lim_is h; omega
    · omega
  have hmx' := hmx.out
  clear hf0
  go_loopw [4, 13] (fun a i wr => ∃ (j : Nat) (A2 : Option Addr) (n2 c2 : Nat) (l : List A3), j ≤ n1 ∧ i = .int .i64 j ∧ a = .slice A2 n2 c2 ∧ Hid (OwnQ wr W1.heap.size (.slice A2 n2 c2) l) ∧ Hid (Below W1.heap.size W1 wr) ∧ Hid (vldS ((kss vs).drop j) l = vldS (kss vs) []) ∧ Hid (l.length ≤ 8)) (fun _ i _ => n1 - (intOf i).toNat)
  case atStart => exact ⟨0, none, 0, 0, [], by omega, rfl, rfl, OwnQ.nil _ _, Below.refl _ _, rfl, by show _ ≤ _; simp⟩
  case round =>
    obtain ⟨j, A2, n2, c2, l, hj, rfl, rfl, hO, hB, hV, h8⟩ := hrel
    by_cases hlt : (j : Int) < (n1 : Int)
    · have hjl : j < vs.length := by have := HN.out; omega
      obtain ⟨g, o, ⟨k', s', m', u', A', n', c'⟩, rfl, hgs, hx, z0, z1, z2, z3, z4⟩ := (HR.out.below hB.out).at_ hjl
      have e5 : IntKind.i64.wrap ((j : Int) + 1) = (j : Int) + 1 := by rw [IntKind.wrap_i64]; omega
      have hstep : Hid (vldS (kss vs) [] = if gB k' s' m' u' n' = true then vldS ((kss vs).drop (j + 1)) l else if @decide (k' = 0 ∧ n' = 0 ∧ Nam s' ∧ usb m' u' = true) (Classical.propDecidable _) = true then (if (incl l (s', m', u')).2 = 0 then vldS ((kss vs).drop (j + 1)) (incl l (s', m', u')).1 else none) else none) := by
        show _ = _
        rw [← hV.out, kss_at hjl, hx.out]
        rfl
      have hOA : ∀ o : Obj, OwnQ (wr.alloc o) W1.heap.size (.slice A2 n2 c2) l := fun o => own_kept hO.out (fun q hq => (newB wr o).block q (own_lt hO.out hq).2)
      have HOA := Lib.hid hOA
      have hfalse : (vldS (kss vs) [] = none) → r = false := fun h => by
        rw [← hr.out, vexB_no, vex_sur, ← HK.out, h]
        rintro ⟨_, l, hl⟩
        cases hl
      have HF := Lib.hid hfalse
      clear hOA hfalse
      cases hg : gB k' s' m' u' n' with
      | true =>
        have hg1 := Lib.hid hg
        have hnext : Hid (vldS ((kss vs).drop (j + 1)) l = vldS (kss vs) []) := by
          have h := hstep.out
          rw [if_pos hg] at h
          exact h.symm
        clear hg hstep hr
        go_wp2_with (go_at_call 66; refine (isGroup_is _ _ _ _ _ _ _ _ hg1).mono ?_; rintro x W2 ⟨rfl, hb2⟩; have HB2 := Lib.hid hb2; clear hb2)
        go_roundw
        case rel => exact ⟨j + 1, A2, n2, c2, l, by omega, by go_num, rfl, own_kept (HOA.out _) (fun q hq => HB2.out.block q (own_lt (HOA.out _) hq).2), nx (nxA hB.out _) HB2.out, hnext, h8⟩
        case measure => simp [intOf]; omega
      | false =>
        have hg1 := Lib.hid hg
        rw [hg] at hstep
        clear hg
        by_cases ha : k' = 0 ∧ n' = 0 ∧ Nam s' ∧ usb m' u' = true
        · obtain ⟨rfl, rfl, ha3, ha4⟩ := ha
          have hn1 := Lib.hid ha3
          have hu1 := Lib.hid ha4
          have hst2 : Hid (vldS (kss vs) [] = if (incl l (s', m', u')).2 = 0 then vldS ((kss vs).drop (j + 1)) (incl l (s', m', u')).1 else none) := by
            have h := hstep.out
            rw [if_neg (by simp), if_pos (@decide_eq_true _ (Classical.propDecidable _) ⟨rfl, rfl, ha3, ha4⟩)] at h
            exact h
          clear hstep ha3 ha4
          have HOB : Hid (∀ W, Below wr.heap.size wr W → OwnQ W W1.heap.size (.slice A2 n2 c2) l) := fun W hW => own_kept hO.out (fun q hq => hW.block q (own_lt hO.out hq).2)
          obtain ⟨l', x0, hi⟩ : ∃ l' x0, Hid (incl l (s', m', u') = (l', x0)) := ⟨_, _, rfl⟩
          by_cases h0 : x0 = 0
          · subst h0
            have hnext : Hid (vldS ((kss vs).drop (j + 1)) l' = vldS (kss vs) []) := by
              have h := hst2.out
              rw [hi.out, if_pos rfl] at h
              exact h.symm
            have h8' : Hid (l'.length ≤ 8) := by
              have h := incl_len (a := (s', m', u')) h8.out (by rw [hi.out])
              rw [hi.out] at h
              exact h
            clear hst2 hr
            go_wp2_with (first
              | (go_at_call 66; refine (isGroup_is _ _ _ _ _ _ _ _ hg1).mono ?_; rintro x W2 ⟨rfl, hb2⟩; obtain ⟨hc2, hf2⟩ := bcell hb2; have hz2 : wr.heap.size < W2.heap.size := (by have h := hb2.size; simp at h; omega); have HB2 := Lib.hid (nx (newB wr _) hb2); clear hb2)
              | (go_at_call 67; refine (isAtom_yes _ _ _ _ _ _ hn1 hu1).mono ?_; rintro x W3 ⟨rfl, hb3⟩; obtain ⟨hc3, hf3⟩ := bcell hb3; have HB3 := Lib.hid (nx HB2.out hb3); have hz3 := HB2.out.size; clear hb3)
              | (go_at_call 68; refine (include_yes W1.heap.size A2 n2 c2 l s' m' u' _ (HOB.out _ HB3.out) (Nat.le_trans hB.out.size HB3.out.size) h8.out hi).mono ?_; rintro x W4 ⟨A4, n4, c4, rfl, ho4, hg4, hn4⟩; have HO4 := Lib.hid ho4; have HB4 := Lib.hid (gB_own hg4 (B := W1.heap.size) (fun g hg => (own_lt hO.out hg).1) (Nat.le_trans hB.out.size HB3.out.size)); clear ho4 hg4 hn4))
            go_roundw
            case rel => exact ⟨j + 1, A4, n4, c4, l', by omega, by go_num, rfl, HO4, (hB.out.trans (HB3.out.mono hB.out.size)).trans HB4.out, hnext, h8'⟩
            case measure => simp [intOf]; omega
          · have h00 := Lib.hid h0
            have hend : Hid (r = false) := HF.out (by have h := hst2.out; rw [hi.out, if_neg h0] at h; exact h)
            have hx0b : (x0 == 0) = false := by rw [beq_eq_false_iff_ne]; exact h0
            have hx0c : (x0 != 0) = true := by rw [bne_iff_ne]; exact h0
            clear hst2 hr h0
            go_wp2_with (first
              | (go_at_call 66; refine (isGroup_is _ _ _ _ _ _ _ _ hg1).mono ?_; rintro x W2 ⟨rfl, hb2⟩; obtain ⟨hc2, hf2⟩ := bcell hb2; have hz2 : wr.heap.size < W2.heap.size := (by have h := hb2.size; simp at h; omega); have HB2 := Lib.hid (nx (newB wr _) hb2); clear hb2)
              | (go_at_call 67; refine (isAtom_yes _ _ _ _ _ _ hn1 hu1).mono ?_; rintro x W3 ⟨rfl, hb3⟩; obtain ⟨hc3, hf3⟩ := bcell hb3; have HB3 := Lib.hid (nx HB2.out hb3); have hz3 := HB2.out.size; clear hb3)
              | (go_at_call 68; refine (include_no W1.heap.size A2 n2 c2 l s' m' u' _ (HOB.out _ HB3.out) h8.out hi h00).mono ?_; rintro x W4 ⟨rfl, hb4⟩; have HB4 := Lib.hid (nx HB3.out hb4); clear hb4))
            go_ret
            have e := hend.out
            subst e
            exact ⟨rfl, nx HB1.out (nx hB.out HB4.out)⟩
        · have hna := Lib.hid ha
          have hend : Hid (r = false) := HF.out (by
            have h := hstep.out
            rw [if_neg (by simp), if_neg (fun h => ha (@of_decide_eq_true _ (Classical.propDecidable _) h))] at h
            exact h)
          clear hstep hr ha
          go_wp2_with (first
            | (go_at_call 66; refine (isGroup_is _ _ _ _ _ _ _ _ hg1).mono ?_; rintro x W2 ⟨rfl, hb2⟩; obtain ⟨hc2, hf2⟩ := bcell hb2; have hz2 : wr.heap.size < W2.heap.size := (by have h := hb2.size; simp at h; omega); have HB2 := Lib.hid (nx (newB wr _) hb2); clear hb2)
            | (go_at_call 67; refine (isAtom_no _ _ _ _ _ _ _ _ hna).mono ?_; rintro x W3 ⟨rfl, hb3⟩; have HB3 := Lib.hid (nx HB2.out hb3); clear hb3))
          go_ret
          have e := hend.out
          subst e
          exact ⟨rfl, nx HB1.out (nx hB.out HB3.out)⟩
    · have hjn : j = vs.length := by have := HN.out; omega
      have hsome : Hid (vldS (kss vs) [] = some l) := by
        have h := hV.out
        rw [List.drop_eq_nil_of_le (by rw [kss_len]; omega)] at h
        exact h.symm
      by_cases h0 : 0 < (n1 : Int)
      · have hend : Hid (r = true) := by
          rw [← hr.out, show (vexB e = true) = (vexB e = true) from rfl]
          show vexB e = true
          rw [vexB_iff, vex_sur, ← HK.out]
          refine ⟨fun h => ?_, _, hsome.out⟩
          have := kss_len vs
          rw [h] at this
          have := HN.out
          simp at *
          omega
        clear hr hjn
        go_wp2
        go_ret
        exact ⟨ret_bool (by rw [hend.out, decide_eq_true_iff]; omega), nx HB1.out hB.out⟩
      · have hend : Hid (r = false) := by
          rw [← hr.out, vexB_no, vex_sur, ← HK.out]
          rintro ⟨h, _⟩
          apply h
          apply List.eq_nil_of_length_eq_zero
          rw [kss_len]
          have := HN.out
          omega
        clear hr hjn
        go_wp2
        go_ret
        exact ⟨ret_bool (by rw [hend.out, decide_eq_false_iff_not]; omega), nx HB1.out hB.out⟩
end Go.Proofs.YtohjllnfnkajjaaGreat

namespace Go.Proofs.YtohjllnfnkajjaaGreat
open Go.RowKit
set_option linter.unusedVariables false
set_option linter.unusedSimpArgs false

/-- A request as a value. -/
abbrev rq (k : Int) (s : ByteArray) (m u : Int) (A : Option Addr) (n c : Nat) (p t : Int) : Value := .agg #[.int .i64 k, .string s, .int .i64 m, .int .i64 u, .slice A n c, .int .i64 p, .int .i64 t]
noncomputable def vrqB (e : Ex) (p t : Int) : Bool := vexB e && (btw p 0 7 && btw t 0 1000)
theorem vrqB_iff {e : Ex} {p t : Int} : vrqB e p t = true ↔ Vrq (e, p, t) := by
  unfold vrqB btw Vrq
  rw [Bool.and_eq_true, Bool.and_eq_true, vexB_iff, decide_eq_true_iff, decide_eq_true_iff]
  simp [and_assoc]
end Go.Proofs.YtohjllnfnkajjaaGreat
