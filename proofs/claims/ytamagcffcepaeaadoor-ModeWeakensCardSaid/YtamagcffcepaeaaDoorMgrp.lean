/- Contracts: the weakest mode above a list. -/
import Derived.Test.YtamagcffcepaeaaDoorMconf
namespace Go.Proofs.YtamagcffcepaeaaDoor
set_option linter.unusedVariables false
open Go.RowKit

theorem sup_no_left {a b : Int} (h : ¬ (1 ≤ a ∧ a ≤ 5)) : sup a b = 0 := by unfold sup; rw [if_neg (fun e => h ⟨e.1, e.2.1⟩)]
theorem sup_no_right {a b : Int} (h : ¬ (1 ≤ b ∧ b ≤ 5)) : sup a b = 0 := by unfold sup; rw [if_neg (fun e => h ⟨e.2.2.1, e.2.2.2⟩)]
theorem sup_self {a : Int} (h : 1 ≤ a ∧ a ≤ 5) : sup a a = a := by unfold sup; rw [if_pos ⟨h.1, h.2, h.1, h.2⟩, if_neg (by omega)]; omega
theorem sup_ok {a b : Int} (ha : 1 ≤ a ∧ a ≤ 5) (hb : 1 ≤ b ∧ b ≤ 5) : 1 ≤ sup a b ∧ sup a b ≤ 5 := by
  unfold sup
  rw [if_pos ⟨ha.1, ha.2, hb.1, hb.2⟩]
  split <;> omega
theorem fold_zero : ∀ l : List Int, l.foldl sup 0 = 0
  | [] => rfl
  | x :: l => by rw [List.foldl_cons, sup_no_left (by omega), fold_zero l]
theorem fold_bad {z y : Int} : ∀ {l : List Int}, y ∈ l → ¬ (1 ≤ y ∧ y ≤ 5) → ∀ z, l.foldl sup z = 0
  | [], h, _, _ => by cases h
  | x :: l, h, hy, z => by
    rw [List.foldl_cons]
    rcases List.mem_cons.1 h with rfl | h
    · rw [sup_no_right hy, fold_zero]
    · exact fold_bad (z := z) h hy _
/-- The weakest mode above all of a list, and 0 where there is none. -/
def grp (l : List Int) : Int := l.foldl sup (l.headD 0)
theorem grp_nil : grp [] = 0 := rfl
theorem take_snoc {l : List Int} {k : Nat} (h : k < l.length) : l.take (k + 1) = l.take k ++ [l.getD k 0] := by
  rw [List.take_succ_eq_append_getElem h, List.getD_eq_getElem?_getD, List.getElem?_eq_getElem h]
  rfl
theorem getD_mem {l : List Int} {k : Nat} (h : k < l.length) : l.getD k 0 ∈ l := by
  rw [List.getD_eq_getElem?_getD, List.getElem?_eq_getElem h]
  exact List.getElem_mem h
theorem mem_getD {l : List Int} {p : Int} (h : p ∈ l) : ∃ i, i < l.length ∧ l.getD i 0 = p := by
  obtain ⟨i, hi, h⟩ := List.getElem_of_mem h
  exact ⟨i, hi, by rw [List.getD_eq_getElem?_getD, List.getElem?_eq_getElem hi]; exact h⟩
def pre (l : List Int) (k : Nat) : Int := (l.take k).foldl sup (l.headD 0)
theorem pre_zero (l : List Int) : pre l 0 = l.headD 0 := by simp [pre]
theorem pre_step {l : List Int} {k : Nat} (h : k < l.length) : pre l (k + 1) = sup (pre l k) (l.getD k 0) := by
  unfold pre
  rw [take_snoc h, List.foldl_append]
  rfl
theorem pre_all {l : List Int} {k : Nat} (h : l.length ≤ k) : pre l k = grp l := by
  unfold pre grp
  rw [List.take_of_length_le h]
theorem head_getD (l : List Int) : l.headD 0 = l.getD 0 0 := by cases l <;> rfl

set_option maxHeartbeats 2000000 in
set_option maxRecDepth 8000 in
theorem group_any (A : Option Addr) (n c : Nat) (xs : List Int) (w : World) (h : IRd w A xs) (hn : Hid (xs.length = n)) (hm : Hid (n ≤ 140737488351232)) :
    Calls Tryd.prog 19 #[.slice A n c] w fun e w' => e = .returned (.int .i64 (grp xs)) ∧ w = w' := by
  have HR := Lib.hid h
  clear h
  obtain ⟨r, hr⟩ : ∃ r, Hid (grp xs = r) := ⟨_, rfl⟩
  rw [hr.out]
  by_cases hz : n = 0
  · have hend : Hid (r = 0) := by
      show _ = _
      rw [← hr.out, List.eq_nil_of_length_eq_zero (hn.out.trans hz), grp_nil]
    subst hz
    go_enter Tryd.func19, Tryd.ntmps19
    go_wp2
    go_ret
    exact ⟨ret_i64 hend.out.symm, rfl⟩
  · obtain ⟨g, o, rfl, hg, hcell⟩ := HR.out.at_ (i := 0) (by have := hn.out; omega)
    rw [Nat.add_zero] at hcell
    obtain ⟨x0, hx0⟩ : ∃ x, Hid (xs.getD 0 0 = x) := ⟨_, rfl⟩
    rw [hx0.out] at hcell
    have hpos : 0 < n := by omega
    have hz' : (((n : Nat) : Int) == 0) = false := by simp; omega
    go_enter Tryd.func19, Tryd.ntmps19
    go_wp2
    go_loopw [3, 14] (fun s i wr => ∃ (k : Nat) (u : Int), k ≤ n ∧ i = .int .i64 (k : Int) ∧ s = .int .i64 u ∧ Hid (pre xs k = u) ∧ Hid (w = wr)) (fun _ i _ => n - (intOf i).toNat)
    case atStart => exact ⟨0, x0, by omega, rfl, rfl, by show _ = _; rw [pre_zero, head_getD]; exact hx0.out, rfl⟩
    case round =>
      obtain ⟨k, u, hk, rfl, rfl, hu, hw⟩ := hrel
      have hw' := hw.out
      subst hw'
      by_cases hlt : (k : Int) < (n : Int)
      · obtain ⟨g', o', hgg, hg', hc⟩ := HR.out.at_ (i := k) (by have := hn.out; omega)
        cases hgg
        obtain ⟨x, hx⟩ : ∃ x, Hid (xs.getD k 0 = x) := ⟨_, rfl⟩
        rw [hx.out] at hc
        have e5 : IntKind.i64.wrap ((k : Int) + 1) = (k : Int) + 1 := by have := hm.out; rw [IntKind.wrap_i64]; omega
        have hstep : Hid (pre xs (k + 1) = sup u x) := by show _ = _; rw [pre_step (by have := hn.out; omega), hu.out, hx.out]
        go_wp2_with (first | (go_at_call 17; refine (sup_any _ _ _).mono ?_; rintro e W1 ⟨rfl, rfl⟩))
        go_roundw
        case rel => exact ⟨k + 1, _, by omega, by go_num, rfl, hstep, trivial⟩
        case measure => simp [intOf]; omega
      · have hend : Hid (u = r) := by show _ = _; rw [← hr.out, ← hu.out]; exact pre_all (by have := hn.out; omega)
        go_wp2
        go_ret
        exact ⟨ret_i64 hend.out, rfl⟩

theorem refValid_is (a : Int) (w : World) {r : Bool} (h : Hid (vmd a = r)) : Calls Tryd.prog 12 #[.int .i64 a] w fun e w' => e = .returned (.bool r) ∧ w = w' := by
  rw [← h.out]
  exact refValid_any a w
theorem vmd_true {a : Int} (h : vmd a = true) : 1 ≤ a ∧ a ≤ 5 := of_decide_eq_true h
theorem vmd_false {a : Int} (h : vmd a = false) : ¬ (1 ≤ a ∧ a ≤ 5) := of_decide_eq_false h
set_option maxHeartbeats 2000000 in
set_option maxRecDepth 8000 in
theorem refGroup_any (A : Option Addr) (n c : Nat) (xs : List Int) (w : World) (h : IRd w A xs) (hn : Hid (xs.length = n)) (hm : Hid (n ≤ 140737488351232)) :
    Calls Tryd.prog 20 #[.slice A n c] w fun e w' => e = .returned (.int .i64 (grp xs)) ∧ w = w' := by
  have HR := Lib.hid h
  clear h
  obtain ⟨r, hr⟩ : ∃ r, Hid (grp xs = r) := ⟨_, rfl⟩
  rw [hr.out]
  go_enter Tryd.func20, Tryd.ntmps20
  go_wp2
  go_loopw [3, 4] (fun s i wr => ∃ (k : Nat) (u : Int), k ≤ n ∧ i = .int .i64 (k : Int) ∧ s = .int .i64 u ∧ Hid ((k = 0 ∧ u = 0) ∨ (0 < k ∧ pre xs k = u)) ∧ Hid (w = wr)) (fun _ i _ => n - (intOf i).toNat)
  case atStart => exact ⟨0, 0, by omega, rfl, rfl, .inl ⟨rfl, rfl⟩, rfl⟩
  case round =>
    obtain ⟨k, u, hk, rfl, rfl, hu, hw⟩ := hrel
    have hw' := hw.out
    subst hw'
    by_cases hlt : (k : Int) < (n : Int)
    · obtain ⟨g, o, rfl, hg, hc⟩ := HR.out.at_ (i := k) (by have := hn.out; omega)
      obtain ⟨x, hx⟩ : ∃ x, Hid (xs.getD k 0 = x) := ⟨_, rfl⟩
      rw [hx.out] at hc
      have e5 : IntKind.i64.wrap ((k : Int) + 1) = (k : Int) + 1 := by have := hm.out; rw [IntKind.wrap_i64]; omega
      obtain ⟨v, hv⟩ : ∃ v, Hid (vmd x = v) := ⟨_, rfl⟩
      cases v with
      | false =>
        have hend : Hid (r = 0) := by
          show _ = _
          rw [← hr.out]
          exact fold_bad (z := 0) (getD_mem (l := xs) (k := k) (by have := hn.out; omega)) (by rw [hx.out]; exact vmd_false hv.out) _
        go_wp2_with (first | (go_at_call 12; refine (refValid_is _ _ hv).mono ?_; rintro e W1 ⟨rfl, rfl⟩))
        go_ret
        exact ⟨ret_i64 hend.out.symm, rfl⟩
      | true =>
        by_cases hk0 : k = 0
        · subst hk0
          rw [Nat.add_zero] at hc
          have hstep : Hid (pre xs (0 + 1) = x) := by
            show _ = _
            rw [pre_step (by have := hn.out; omega), pre_zero, head_getD, hx.out]
            exact sup_self (vmd_true hv.out)
          go_wp2_with (first | (go_at_call 12; refine (refValid_is _ _ hv).mono ?_; rintro e W1 ⟨rfl, rfl⟩))
          go_roundw
          case rel => exact ⟨1, _, by omega, by go_num, rfl, .inr ⟨by omega, hstep.out⟩, trivial⟩
          case measure => simp [intOf]; omega
        · have hz' : ¬ ((k : Int) = 0) := by omega
          have hu' : Hid (pre xs k = u) := hu.out.elim (fun e => absurd e.1 hk0) (fun e => e.2)
          have hstep : Hid (pre xs (k + 1) = sup u x) := by show _ = _; rw [pre_step (by have := hn.out; omega), hu'.out, hx.out]
          go_wp2_with (first | (go_at_call 12; refine (refValid_is _ _ hv).mono ?_; rintro e W1 ⟨rfl, rfl⟩) | (go_at_call 18; refine (refSup_any _ _ _).mono ?_; rintro e W1 ⟨rfl, rfl⟩))
          go_roundw
          case rel => exact ⟨k + 1, _, by omega, by go_num, rfl, .inr ⟨by omega, hstep.out⟩, trivial⟩
          case measure => simp [intOf]; omega
    · have hend : Hid (u = r) := by
        show _ = _
        have hkn := hn.out
        rcases hu.out with ⟨h1, h2⟩ | ⟨h1, h2⟩
        · rw [← hr.out, List.eq_nil_of_length_eq_zero (l := xs) (by omega), grp_nil]; exact h2
        · rw [← hr.out, ← h2]; exact pre_all (by omega)
      go_wp2
      go_ret
      exact ⟨ret_i64 hend.out, rfl⟩
theorem group_is (A : Option Addr) (n c : Nat) (xs : List Int) (w : World) (h : IRd w A xs) (hn : Hid (xs.length = n)) (hm : Hid (n ≤ 140737488351232)) {r : Int} (hr : Hid (grp xs = r)) :
    Calls Tryd.prog 19 #[.slice A n c] w fun e w' => e = .returned (.int .i64 r) ∧ w = w' := by
  rw [← hr.out]
  exact group_any A n c xs w h hn hm
theorem refGroup_is (A : Option Addr) (n c : Nat) (xs : List Int) (w : World) (h : IRd w A xs) (hn : Hid (xs.length = n)) (hm : Hid (n ≤ 140737488351232)) {r : Int} (hr : Hid (grp xs = r)) :
    Calls Tryd.prog 20 #[.slice A n c] w fun e w' => e = .returned (.int .i64 r) ∧ w = w' := by
  rw [← hr.out]
  exact refGroup_any A n c xs w h hn hm
end Go.Proofs.YtamagcffcepaeaaDoor
