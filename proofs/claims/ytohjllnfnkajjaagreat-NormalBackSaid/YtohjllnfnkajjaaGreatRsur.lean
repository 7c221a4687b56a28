/- Contracts: surveyOf, Nodes, Depth, ValidExpr, Valid. -/
import Derived.Test.YtohjllnfnkajjaaGreatRadd
import Derived.Test.YtohjllnfnkajjaaGreatRblk
namespace Go.Proofs.YtohjllnfnkajjaaGreat
open Go.RowKit
set_option linter.unusedVariables false
set_option linter.unusedSimpArgs false

theorem TIn.grow {w : World} {v : XV} {e : Ex} (h : TIn (Lo w.heap.size) w v e) (o : Obj) : TIn (Lo (w.alloc o).heap.size) (w.alloc o) v e := h.of (fun b hb => Nat.lt_of_lt_of_le hb (newB w o).size) (fun b hb _ => (newB w o).block b hb) (newB w o).size
theorem TIn.up {w w' : World} {v : XV} {e : Ex} (h : TIn (Lo w.heap.size) w v e) (hb : Below w.heap.size w w') : TIn (Lo w'.heap.size) w' v e := h.of (fun b k => Nat.lt_of_lt_of_le k hb.size) (fun b k _ => hb.block b k) hb.size
theorem box_up {w W1 : World} {X Z : Obj} {T : TypeId} (hb : Below (w.heap.size + 2) (((w.alloc X).alloc (.cells #[.slice none 0 0, .int .i64 0] T)).alloc Z) W1) :
    w.heap.size + 3 ≤ W1.heap.size ∧ W1.cell? ⟨w.heap.size + 1, 0, none⟩ = some (.slice none 0 0) ∧ W1.cell? ⟨w.heap.size + 1, 1, none⟩ = some (.int .i64 0) ∧ ∀ o, W1.frozen? ⟨w.heap.size + 1, o, none⟩ = false := by
  have h := hb.size
  simp at h
  have k : Blk W1 (w.heap.size + 1) [.slice none 0 0, .int .i64 0] := (Blk.new (w.alloc X) [.slice none 0 0, .int .i64 0] T (by simp)).grow Z |>.up hb (by omega)
  exact ⟨by omega, k.cell 0 rfl, k.cell 1 rfl, k.fz⟩
theorem sadd_is {e : Ex} (b base : Nat) (k : Int) (s : ByteArray) (m u : Int) (A : Option Addr) (n c : Nat) (N : List (Int × A3 × Nat)) (w : World) (r : Bool) (HS : Hid (SvS w b base 0 N)) (HT : Hid (TIn (Lo b) w ⟨k, s, m, u, A, n, c⟩ e)) (h24 : N.length ≤ 24) (hr : Hid (lim 1 N.length e = r)) :
    Calls Tryz.prog 91 #[.pointer (some ⟨b, 0, none⟩), xe k s m u A n c, .int .i64 1] w (AdP r b base (max 0 (1 + (e.dp : Int) - 1)) (N ++ ess e.pre) w) :=
  add_all e b base k s m u A n c 1 1 0 N w r HS HT (by omega) (by omega) h24 (by omega) (by omega) hr rfl
/-- What surveyOf answers: a slice of the nodes and the depth. -/
def SurP (N : List (Int × A3 × Nat)) (d : Int) (w : World) (e : Ending) (w' : World) : Prop :=
  ∃ A n c vs, e = .returned (.agg #[.slice A n c, .int .i64 d]) ∧ XRd w' A vs ∧ vs.length = n ∧ n ≤ c ∧ kss vs = N ∧ Below w.heap.size w w'
def surN (e : Ex) : List (Int × A3 × Nat) := if lim 1 0 e = true then ess e.pre else []
def surD (e : Ex) : Int := if lim 1 0 e = true then e.dp else 0
theorem SvS.new (w : World) (T : TypeId) : SvS (w.alloc (.cells #[.slice none 0 0, .int .i64 0] T)) w.heap.size (w.heap.size + 1) 0 [] :=
  ⟨by omega, by simp, .slice none 0 0, [], ⟨by simp, by simp, by simp, fun o => by simp⟩, OwnX.nil _ _, rfl⟩
set_option maxHeartbeats 2000000 in
set_option maxRecDepth 8000 in
theorem survey_is {e : Ex} (k : Int) (s : ByteArray) (m u : Int) (A : Option Addr) (n c : Nat) (w : World) (hT : TIn (Lo w.heap.size) w ⟨k, s, m, u, A, n, c⟩ e) :
    Calls Tryz.prog 65 #[xe k s m u A n c] w (SurP (surN e) (surD e) w) := by
  have HT := Lib.hid hT
  clear hT
  have HW : Hid (∀ X Y Z : Obj, Below w.heap.size w (((w.alloc X).alloc Y).alloc Z)) := fun X Y Z => new3 w X Y Z
  have HS0 : Hid (∀ X Y T, SvS (((w.alloc X).alloc Y).alloc (.cells #[.slice none 0 0, .int .i64 0] T)) (w.heap.size + 2) (w.heap.size + 3) 0 []) := fun X Y T => by
    have := SvS.new ((w.alloc X).alloc Y) T
    simpa using this
  have HT3 : Hid (∀ X Y Z : Obj, TIn (Lo (w.heap.size + 2)) (((w.alloc X).alloc Y).alloc Z) ⟨k, s, m, u, A, n, c⟩ e) := fun X Y Z => HT.out.of (fun b h => by show b < _; have : b < w.heap.size := h; omega) (fun b h _ => (HW.out X Y Z).block b h) (HW.out X Y Z).size
  obtain ⟨r, hr⟩ : ∃ r, Hid (lim 1 ([] : List (Int × A3 × Nat)).length e = r) := ⟨_, rfl⟩
  cases r with
  | false =>
    have e1 : Hid (surN e = [] ∧ surD e = 0) := by
      have h := hr.out
      show _ ∧ _
      unfold surN surD
      rw [if_neg (by rw [show lim 1 0 e = false from h]; simp), if_neg (by rw [show lim 1 0 e = false from h]; simp)]
      exact ⟨rfl, rfl⟩
    rw [e1.out.1, e1.out.2]
    go_enter Tryz.func65, Tryz.ntmps65
    go_wp2_with (go_at_call 91; refine (sadd_is (e := e) (w.heap.size + 2) (w.heap.size + 3) k s m u A n c [] _ false (Lib.hid (HS0.out _ _ _)) (Lib.hid (HT3.out _ _ _)) (by simp) hr).mono ?_; rintro e W1 ⟨rfl, hb1, -⟩; have HB1 := Lib.hid hb1; obtain ⟨hs1, r0, r1, rf⟩ := box_up hb1; clear hb1)
    refine bodyPost_ret (v := .agg #[.slice none 0 0, .int .i64 0]) (by simp [results, Tryz.results65, go_sem, r0, r1, rf]) rfl ⟨none, 0, 0, [], rfl, XRd.nil _ _, rfl, Nat.le_refl _, rfl, ?_⟩
    exact (((HW.out _ _ _).trans (HB1.out.mono (by omega))).setCell (p := ⟨w.heap.size + 1, 0, none⟩) (by show _ ≤ w.heap.size + 1; omega) _).setCell (p := ⟨w.heap.size + 1, 1, none⟩) (by show _ ≤ w.heap.size + 1; omega) _
  | true =>
    have e1 : Hid (surN e = ess e.pre ∧ surD e = e.dp) := by
      have h := hr.out
      show _ ∧ _
      unfold surN surD
      rw [if_pos (show lim 1 0 e = true from h), if_pos (show lim 1 0 e = true from h)]
      exact ⟨rfl, rfl⟩
    have e2 : Hid (max 0 (1 + (e.dp : Int) - 1) = (e.dp : Int)) := by show _ = _; omega
    obtain ⟨dp, hdp⟩ : ∃ dp : Int, Hid ((e.dp : Int) = dp) := ⟨_, rfl⟩
    rw [e1.out.1, e1.out.2, hdp.out]
    go_enter Tryz.func65, Tryz.ntmps65
    go_wp2_with (go_at_call 91; refine (sadd_is (e := e) (w.heap.size + 2) (w.heap.size + 3) k s m u A n c [] _ true (Lib.hid (HS0.out _ _ _)) (Lib.hid (HT3.out _ _ _)) (by simp) hr).mono ?_; rintro e W1 ⟨rfl, hb1, hs⟩; rw [e2.out, hdp.out, List.nil_append] at hs; obtain ⟨_, _, V, vs, ⟨g0, c0, c1, fz⟩, ho, hk⟩ := hs rfl; obtain ⟨A1, n1, rfl, hfit, _, hrd, _⟩ := ho.form; obtain ⟨nn, hnn⟩ : ∃ nn, Hid (vs.length = nn) := ⟨_, rfl⟩; rw [hnn.out] at c0 hfit; have HR := Lib.hid hrd; have HK := Lib.hid hk; have HB1 := Lib.hid hb1; obtain ⟨hs1, r0, r1, rf⟩ := box_up hb1; have HO := Lib.hid ho; clear hb1 hs hrd hk ho)
    refine bodyPost_ret (v := .agg #[.slice A1 nn n1, .int .i64 dp]) (by simp [results, Tryz.results65, go_sem, r0, r1, rf]) rfl ⟨A1, nn, n1, vs, rfl, ?_, hnn.out, hfit, HK.out, ?_⟩
    · intro hne
      obtain ⟨b, o, hA, hb, hz⟩ := HR.out hne
      have hge : w.heap.size + 3 ≤ b := by
        have := own_lt HO.out (g := b) (by subst hA; rfl)
        exact this.1
      exact ⟨b, o, hA, by simpa using hb, fun i hi => (hz i hi).of ((block_set _ _ _ (by omega)).trans (block_set _ _ _ (by omega)))⟩
    · exact (((HW.out _ _ _).trans (HB1.out.mono (by omega))).setCell (p := ⟨w.heap.size + 1, 0, none⟩) (by show _ ≤ w.heap.size + 1; omega) _).setCell (p := ⟨w.heap.size + 1, 1, none⟩) (by show _ ≤ w.heap.size + 1; omega) _
theorem fld0 (A : Option Addr) (n c : Nat) (d : Int) (W : World) : (Instr.field 88 (.agg #[.slice A n c, .int .i64 d]) 0).run Tryz.prog W = .ok (.slice A n c) W := by kernel_rfl
theorem surN_len (e : Ex) : (surN e).length = if lim 1 0 e = true then e.cnt else 0 := by
  unfold surN
  split
  · rw [ess_len, pre_len.1]
  · rfl
/-- What ValidExpr's rounds do, on the nodes' own cells. -/
noncomputable def vldS : List (Int × A3 × Nat) → List A3 → Option (List A3)
  | [], l => some l
  | x :: r, l => if gB x.1 x.2.1.1 x.2.1.2.1 x.2.1.2.2 x.2.2 = true then vldS r l else if @decide (x.1 = 0 ∧ x.2.2 = 0 ∧ Nam x.2.1.1 ∧ usb x.2.1.2.1 x.2.1.2.2 = true) (Classical.propDecidable _) = true then (if (incl l x.2.1).2 = 0 then vldS r (incl l x.2.1).1 else none) else none
theorem vldS_ess : ∀ (es : List Ex) (l : List A3), vldS (ess es) l = vld es l
  | [], l => rfl
  | .nd k (s, m, u) ks :: r, l => by
    have e1 : gB k s m u ks.length = grp (.nd k (s, m, u) ks) := gB_grp (a := (s, m, u))
    have e2 : @decide (k = 0 ∧ ks.length = 0 ∧ Nam s ∧ usb m u = true) (Classical.propDecidable _) = atm (.nd k (s, m, u) ks) := by
      rw [Bool.eq_iff_iff, atm_nd]
      exact @decide_eq_true_iff _ (Classical.propDecidable _)
    show (if gB k s m u ks.length = true then vldS (ess r) l else if @decide (k = 0 ∧ ks.length = 0 ∧ Nam s ∧ usb m u = true) (Classical.propDecidable _) = true then (if (incl l (s, m, u)).2 = 0 then vldS (ess r) (incl l (s, m, u)).1 else none) else none) = _
    rw [e1, e2, vld]
    split
    · exact vldS_ess r l
    · split
      · have e3 : (Ex.nd k (s, m, u) ks).a = (s, m, u) := rfl
        rw [e3]
        split
        · exact vldS_ess r _
        · rfl
      · rfl
/-- Whether an expression is valid. -/
noncomputable def vexB (e : Ex) : Bool := @decide (Vex e) (Classical.propDecidable _)
theorem vexB_iff {e : Ex} : vexB e = true ↔ Vex e := @decide_eq_true_iff _ (Classical.propDecidable _)
theorem vexB_no {e : Ex} : vexB e = false ↔ ¬ Vex e := by rw [← vexB_iff, Bool.not_eq_true]
theorem vex_sur (e : Ex) : Vex e ↔ surN e ≠ [] ∧ ∃ l, vldS (surN e) [] = some l := by
  unfold surN Vex
  by_cases h : lim 1 0 e = true
  · rw [if_pos h, vldS_ess]
    have h1 := lim_is h
    constructor
    · rintro ⟨_, _, h3⟩
      refine ⟨?_, h3⟩
      rw [e.pre_eq]
      simp [ess]
    · rintro ⟨_, h3⟩
      exact ⟨by omega, by omega, h3⟩
  · rw [if_neg h]
    rw [Bool.not_eq_true] at h
    have h1 := lim_no h
    constructor
    · rintro ⟨h2, h3, _⟩
      omega
    · rintro ⟨h2, _⟩
      exact absurd rfl h2
theorem kss_at {vs : List XV} {j : Nat} (h : j < vs.length) : (kss vs).drop j = (vs.getD j default).ks :: (kss vs).drop (j + 1) := by
  rw [List.drop_eq_getElem_cons (by rw [kss_len]; exact h)]
  congr 1
  simp [kss, List.getD_eq_getElem?_getD, List.getElem?_eq_getElem h]
end Go.Proofs.YtohjllnfnkajjaaGreat
