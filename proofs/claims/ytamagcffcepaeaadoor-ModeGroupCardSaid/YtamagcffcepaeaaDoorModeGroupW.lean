/- ModeGroup walked. -/
import Derived.Test.YtamagcffcepaeaaDoorMawake
import Derived.Test.YtamagcffcepaeaaDoorOpenI
namespace Go.Proofs.YtamagcffcepaeaaDoor
set_option linter.unusedVariables false
open Go.RowKit
theorem cpt_sup {m a b : Int} (hm : 1 ≤ m ∧ m ≤ 5) (ha : 1 ≤ a ∧ a ≤ 5) (hb : 1 ≤ b ∧ b ≤ 5) : cpt m (sup a b) = (cpt m a && cpt m b) := by
  have h : ∀ a ∈ ([1, 2, 3, 4, 5] : List Int), ∀ b ∈ ([1, 2, 3, 4, 5] : List Int), ∀ c ∈ ([1, 2, 3, 4, 5] : List Int), cpt a (sup b c) = (cpt a b && cpt a c) := by decide
  have hx : ∀ x : Int, 1 ≤ x ∧ x ≤ 5 → x ∈ ([1, 2, 3, 4, 5] : List Int) := fun x hx => by rcases md_cases hx with rfl | rfl | rfl | rfl | rfl <;> decide
  exact h m (hx m hm) a (hx a ha) b (hx b hb)
theorem cpt_fold {m : Int} (hm : 1 ≤ m ∧ m ≤ 5) : ∀ (l : List Int) (z : Int), (1 ≤ z ∧ z ≤ 5) → (∀ x ∈ l, 1 ≤ x ∧ x ≤ 5) → cpt m (l.foldl sup z) = (cpt m z && l.all (cpt m))
  | [], z, _, _ => by simp
  | x :: l, z, hz, hl => by
    have hx := hl x (List.mem_cons_self ..)
    rw [List.foldl_cons, cpt_fold hm l _ (sup_ok hz hx) (fun y hy => hl y (List.mem_cons_of_mem _ hy)), cpt_sup hm hz hx, List.all_cons, Bool.and_assoc]
theorem grp_valid {l : List Int} (h : ¬ grp l = 0) : ∀ x ∈ l, 1 ≤ x ∧ x ≤ 5 := fun x hx => by
  by_cases hv : 1 ≤ x ∧ x ≤ 5
  · exact hv
  · exact absurd (fold_bad (z := 0) hx hv _) h
theorem cpt_grp {m : Int} {l : List Int} (hm : 1 ≤ m ∧ m ≤ 5) (h : ¬ grp l = 0) : l.all (cpt m) = cpt m (grp l) := by
  have hv := grp_valid h
  cases l with
  | nil => exact absurd grp_nil h
  | cons x r =>
    have hx := hv x (List.mem_cons_self ..)
    rw [grp, List.headD_cons, cpt_fold hm _ _ hx hv, List.all_cons, ← Bool.and_assoc, Bool.and_self]
theorem all_take {m : Int} {l : List Int} {k : Nat} (h : k < l.length) : (l.take (k + 1)).all (cpt m) = ((l.take k).all (cpt m) && cpt m (l.getD k 0)) := by
  rw [take_snoc h, List.all_append]
  simp
set_option maxHeartbeats 2000000 in
set_option maxRecDepth 8000 in
theorem ModeGroup_walk (A0 : Option Addr) (n0 c0 : Nat) (x0 : List Int) (a1 : Int) (w : World) (hV : Vars w) (w0 : InI w A0 n0 c0 x0) (w1 : (Lit.int .i64 a1).wf = true) :
    Calls Tryd.prog 6 #[.slice A0 n0 c0, .int .i64 a1] w fun e w' => e = .returned (.bool true) ∧ Below w.heap.size w w' := by
  have HV := Lib.hid hV
  have HR := Lib.hid w0.rd
  have hn : Hid (x0.length = n0) := w0.len
  have hm : Hid (n0 ≤ 140737488351232) := w0.small
  clear hV w1 w0
  obtain ⟨g, hg⟩ : ∃ g, Hid (grp x0 = g) := ⟨_, rfl⟩
  by_cases hz : g = 0
  · subst hz
    go_enter Tryd.func6, Tryd.ntmps6
    go_wp2_with (first
      | (go_at_call 10; refine (awake_any _ HV.out).mono ?_; rintro e W1 ⟨rfl, hb1⟩)
      | (go_at_call 19; refine (group_is _ _ _ _ _ HR.out hn hm hg).mono ?_; rintro e W2 ⟨rfl, rfl⟩)
      | (go_at_call 20; refine (refGroup_is _ _ _ _ _ (HR.out.below hb1) hn hm hg).mono ?_; rintro e W2 ⟨rfl, rfl⟩))
    go_ret
    exact ⟨rfl, hb1⟩
  · have hz' : (g == 0) = false := by simpa using hz
    go_enter Tryd.func6, Tryd.ntmps6
    go_wp2_with (first
      | (go_at_call 10; refine (awake_any _ HV.out).mono ?_; rintro e W1 ⟨rfl, hb1⟩)
      | (go_at_call 19; refine (group_is _ _ _ _ _ HR.out hn hm hg).mono ?_; rintro e W2 ⟨rfl, rfl⟩)
      | (go_at_call 20; refine (refGroup_is _ _ _ _ _ (HR.out.below hb1) hn hm hg).mono ?_; rintro e W2 ⟨rfl, rfl⟩))
    go_loopw [6, 7] (fun s i wr => ∃ (k : Nat) (b : Bool), k ≤ n0 ∧ i = .int .i64 (k : Int) ∧ s = .bool b ∧ Hid ((x0.take k).all (cpt a1) = b) ∧ Hid (W1 = wr)) (fun _ i _ => n0 - (intOf i).toNat)
    case atStart => exact ⟨0, true, by omega, rfl, rfl, by show _ = _; simp, rfl⟩
    case round =>
      obtain ⟨k, b, hk, rfl, rfl, hb, hw⟩ := hrel
      have hw' := hw.out
      subst hw'
      by_cases hlt : (k : Int) < (n0 : Int)
      · obtain ⟨gg, o, rfl, hgg, hc⟩ := (HR.out.below hb1).at_ (i := k) (by have := hn.out; omega)
        obtain ⟨x, hx⟩ : ∃ x, Hid (x0.getD k 0 = x) := ⟨_, rfl⟩
        rw [hx.out] at hc
        have e5 : IntKind.i64.wrap ((k : Int) + 1) = (k : Int) + 1 := by have := hm.out; rw [IntKind.wrap_i64]; omega
        obtain ⟨q, hq⟩ : ∃ q, Hid (cpt a1 x = q) := ⟨_, rfl⟩
        have hstep : Hid ((x0.take (k + 1)).all (cpt a1) = (b && q)) := by show _ = _; rw [all_take (by have := hn.out; omega), hb.out, hx.out, hq.out]
        cases b with
        | true =>
          go_wp2_with (first | (go_at_call 13; refine (cpt_is _ _ _ (HV.out.below hb1) hq).mono ?_; rintro e W2 ⟨rfl, rfl⟩))
          go_roundw
          case rel => exact ⟨k + 1, _, by omega, by go_num, rfl, hstep, trivial⟩
          case measure => simp [intOf]; omega
        | false =>
          go_wp2_with (first | (go_at_call 13; refine (cpt_is _ _ _ (HV.out.below hb1) hq).mono ?_; rintro e W2 ⟨rfl, rfl⟩))
          go_roundw
          case rel => exact ⟨k + 1, _, by omega, by go_num, rfl, hstep, trivial⟩
          case measure => simp [intOf]; omega
      · have hfin : Hid (x0.all (cpt a1) = b) := by
          show _ = _
          rw [← hb.out, List.take_of_length_le (by have := hn.out; omega)]
        obtain ⟨v, hv⟩ : ∃ v, Hid (vmd a1 = v) := ⟨_, rfl⟩
        obtain ⟨q, hq⟩ : ∃ q, Hid (cpt a1 g = q) := ⟨_, rfl⟩
        have hlast : Hid (v = true → (b == q) = true) := fun h => by
          rw [← hfin.out, ← hq.out, ← hg.out, cpt_grp (vmd_true (hv.out.trans h)) (by rw [hg.out]; exact hz)]
          simp
        clear hz hz'
        go_wp2_with (first
          | (go_at_call 11; refine (valid_is _ _ hv).mono ?_; rintro e W2 ⟨rfl, rfl⟩)
          | (go_at_call 13; refine (cpt_is _ _ _ (HV.out.below hb1) hq).mono ?_; rintro e W2 ⟨rfl, rfl⟩))
        all_goals first
          | (go_ret; exact ⟨rfl, hb1⟩)
          | (go_ret; exact ⟨ret_bool (hlast.out (by assumption)), hb1⟩)
end Go.Proofs.YtamagcffcepaeaaDoor
