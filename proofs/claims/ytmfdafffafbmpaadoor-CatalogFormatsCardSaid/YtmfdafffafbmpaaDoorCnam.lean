/- Contracts: which strings are reserved, which are names. -/
import Derived.Test.YtmfdafffafbmpaaDoorCrows
namespace Go.Proofs.YtmfdafffafbmpaaDoor
open Go.RowKit
set_option linter.unusedVariables false
set_option linter.unusedSimpArgs false

theorem ltr_any (c : Int) (w : World) : Calls Tryd.prog 37 #[.int .u8 c] w fun e w' => e = .returned (.bool (ltr c)) ∧ w = w' := by
  obtain ⟨r, hr⟩ : ∃ r, Hid (ltr c = r) := ⟨_, rfl⟩
  rw [hr.out]
  go_enter Tryd.func37, Tryd.ntmps37
  go_wp2
  all_goals (go_ret; have h := hr.out; unfold ltr at h; clear hr; refine ⟨ret_bool ?_, rfl⟩; subst h; (try simp only [beq_iff_eq, beq_eq_false_iff_ne, ne_eq] at *); rw [Bool.eq_iff_iff]; simp; omega)
theorem refLtr_any (c : Int) (w : World) : Calls Tryd.prog 39 #[.int .u8 c] w fun e w' => e = .returned (.bool (ltr c)) ∧ w = w' := by
  obtain ⟨r, hr⟩ : ∃ r, Hid (ltr c = r) := ⟨_, rfl⟩
  rw [hr.out]
  go_enter Tryd.func39, Tryd.ntmps39
  go_wp2
  all_goals (go_ret; have h := hr.out; unfold ltr at h; clear hr; refine ⟨ret_bool ?_, rfl⟩; subst h; (try simp only [beq_iff_eq, beq_eq_false_iff_ne, ne_eq] at *); rw [Bool.eq_iff_iff]; simp; omega)
theorem prt_any (c : Int) (w : World) : Calls Tryd.prog 38 #[.int .u8 c] w fun e w' => e = .returned (.bool (prt c)) ∧ w = w' := by
  obtain ⟨r, hr⟩ : ∃ r, Hid (prt c = r) := ⟨_, rfl⟩
  rw [hr.out]
  go_enter Tryd.func38, Tryd.ntmps38
  go_wp2_with (first | (go_at_call 37; refine (ltr_any _ _).mono ?_; rintro e W1 ⟨rfl, rfl⟩))
  all_goals (go_ret; have h := hr.out; unfold prt at h; clear hr; refine ⟨ret_bool ?_, rfl⟩; subst h; (try simp only [beq_iff_eq, beq_eq_false_iff_ne, ne_eq, ltr, decide_eq_true_eq, decide_eq_false_iff_not] at *); rw [Bool.eq_iff_iff]; simp; omega)
theorem refPrt_any (c : Int) (w : World) : Calls Tryd.prog 40 #[.int .u8 c] w fun e w' => e = .returned (.bool (prt c)) ∧ w = w' := by
  obtain ⟨r, hr⟩ : ∃ r, Hid (prt c = r) := ⟨_, rfl⟩
  rw [hr.out]
  go_enter Tryd.func40, Tryd.ntmps40
  go_wp2_with (first | (go_at_call 39; refine (refLtr_any _ _).mono ?_; rintro e W1 ⟨rfl, rfl⟩))
  all_goals (go_ret; have h := hr.out; unfold prt at h; clear hr; refine ⟨ret_bool ?_, rfl⟩; subst h; (try simp only [beq_iff_eq, beq_eq_false_iff_ne, ne_eq, ltr, decide_eq_true_eq, decide_eq_false_iff_not] at *); rw [Bool.eq_iff_iff]; simp; omega)
theorem ltr_is (c : Int) (w : World) {r : Bool} (hr : Hid (ltr c = r)) : Calls Tryd.prog 37 #[.int .u8 c] w fun e w' => e = .returned (.bool r) ∧ w = w' := by rw [← hr.out]; exact ltr_any c w
theorem refLtr_is (c : Int) (w : World) {r : Bool} (hr : Hid (ltr c = r)) : Calls Tryd.prog 39 #[.int .u8 c] w fun e w' => e = .returned (.bool r) ∧ w = w' := by rw [← hr.out]; exact refLtr_any c w
theorem prt_is (c : Int) (w : World) {r : Bool} (hr : Hid (prt c = r)) : Calls Tryd.prog 38 #[.int .u8 c] w fun e w' => e = .returned (.bool r) ∧ w = w' := by rw [← hr.out]; exact prt_any c w
theorem refPrt_is (c : Int) (w : World) {r : Bool} (hr : Hid (prt c = r)) : Calls Tryd.prog 40 #[.int .u8 c] w fun e w' => e = .returned (.bool r) ∧ w = w' := by rw [← hr.out]; exact refPrt_any c w

theorem rsv_eq (s : ByteArray) : rsv s = (s.toList == [97, 108, 108] || s.toList == [97, 110, 121] || s.toList == [111, 102] || s.toList == [112, 114, 105, 111] || s.toList == [108, 105, 109, 105, 116]) := by
  unfold rsv eqS
  simp only [ByteArray.toList_mk]
theorem rsv_any (s : ByteArray) (w : World) : Calls Tryd.prog 14 #[.string s] w fun e w' => e = .returned (.bool (rsv s)) ∧ w = w' := by
  obtain ⟨r, hr⟩ : ∃ r, Hid (rsv s = r) := ⟨_, rfl⟩
  rw [hr.out]
  go_enter Tryd.func14, Tryd.ntmps14
  go_wp2
  all_goals (go_ret; have h := hr.out; rw [rsv_eq] at h; clear hr; refine ⟨ret_bool ?_, rfl⟩; subst h; simp_all)
theorem refRsv_any (s : ByteArray) (w : World) : Calls Tryd.prog 15 #[.string s] w fun e w' => e = .returned (.bool (rsv s)) ∧ w = w' := by
  obtain ⟨r, hr⟩ : ∃ r, Hid (rsv s = r) := ⟨_, rfl⟩
  rw [hr.out]
  go_enter Tryd.func15, Tryd.ntmps15
  go_wp2
  all_goals (go_ret; have h := hr.out; rw [rsv_eq] at h; clear hr; refine ⟨ret_bool ?_, rfl⟩; subst h; simp_all)
theorem rsv_is (s : ByteArray) (w : World) {r : Bool} (hr : Hid (rsv s = r)) : Calls Tryd.prog 14 #[.string s] w fun e w' => e = .returned (.bool r) ∧ w = w' := by rw [← hr.out]; exact rsv_any s w
theorem refRsv_is (s : ByteArray) (w : World) {r : Bool} (hr : Hid (rsv s = r)) : Calls Tryd.prog 15 #[.string s] w fun e w' => e = .returned (.bool r) ∧ w = w' := by rw [← hr.out]; exact refRsv_any s w

theorem byt_at (s : ByteArray) (k : Nat) (h : k < s.size) : ((s[k]'h).toNat : Int) = byt s k := by
  have hb : s.data.toList[k]? = some s[k] := by
    rw [List.getElem?_eq_getElem (by simpa using h)]
    rfl
  unfold byt
  rw [List.getD_eq_getElem?_getD, hb]
  rfl
theorem iff_no {p : Prop} {r : Bool} (h : p ↔ r = true) (hp : ¬ p) : r = false := by
  cases r with
  | false => rfl
  | true => exact absurd (h.2 rfl) hp
set_option maxHeartbeats 1000000 in
set_option maxRecDepth 8000 in
theorem nam_is (s : ByteArray) (w : World) {r : Bool} (hr : Hid (Nam s ↔ r = true)) : Calls Tryd.prog 16 #[.string s] w fun e w' => e = .returned (.bool r) ∧ w = w' := by
  by_cases h1 : (s.size : Int) < 1
  · have hend : Hid (r = false) := iff_no hr.out (fun h => by have := h.1; omega)
    clear hr
    go_enter Tryd.func16, Tryd.ntmps16
    go_wp2
    go_ret
    exact ⟨ret_bool hend.out.symm, rfl⟩
  · by_cases h2 : 12 < (s.size : Int)
    · have hend : Hid (r = false) := iff_no hr.out (fun h => by have := h.2.1; omega)
      clear hr
      go_enter Tryd.func16, Tryd.ntmps16
      go_wp2
      go_ret
      exact ⟨ret_bool hend.out.symm, rfl⟩
    · have jx := byt_at s 0 (by omega)
      obtain ⟨l0, hl0⟩ : ∃ v, Hid (ltr (byt s 0) = v) := ⟨_, rfl⟩
      have hsz : 1 ≤ s.size ∧ s.size ≤ 12 := by omega
      have HS := Lib.hid hsz
      cases l0 with
      | false =>
        have hend : Hid (r = false) := iff_no hr.out (fun h => by have := h.2.2.1; rw [hl0.out] at this; cases this)
        clear hr
        go_enter Tryd.func16, Tryd.ntmps16
        go_wp2_with (first | (go_at_call 37; refine (ltr_is _ _ hl0).mono ?_; rintro e W1 ⟨rfl, rfl⟩))
        go_ret
        exact ⟨ret_bool hend.out.symm, rfl⟩
      | true =>
        go_enter Tryd.func16, Tryd.ntmps16
        go_wp2_with (first | (go_at_call 37; refine (ltr_is _ _ hl0).mono ?_; rintro e W1 ⟨rfl, rfl⟩))
        clear jx
        go_loopw [3, 20] (fun x i wr => ∃ (j : Nat), j ≤ s.size ∧ i = .int .i64 j ∧ Hid (w = wr) ∧ Hid (∀ q, q < j → prt (byt s q) = true)) (fun _ i _ => s.size - (intOf i).toNat)
        case atStart => exact ⟨0, by omega, rfl, rfl, fun q hq => by omega⟩
        case round =>
          obtain ⟨j, hj, rfl, hw, hall⟩ := hrel
          have hw' := hw.out
          subst hw'
          by_cases hlt : (j : Int) < (s.size : Int)
          · have jy := byt_at s j (by omega)
            have e5 : IntKind.i64.wrap ((j : Int) + 1) = (j : Int) + 1 := by rw [IntKind.wrap_i64]; omega
            obtain ⟨p, hp⟩ : ∃ v, Hid (prt (byt s j) = v) := ⟨_, rfl⟩
            cases p with
            | false =>
              have hend : Hid (r = false) := iff_no hr.out (fun h => by have := h.2.2.2.1 j (by omega); rw [hp.out] at this; cases this)
              go_wp2_with (first | (go_at_call 38; refine (prt_is _ _ hp).mono ?_; rintro e W1 ⟨rfl, rfl⟩))
              go_ret
              exact ⟨ret_bool hend.out.symm, rfl⟩
            | true =>
              have hall2 : Hid (∀ q, q < j + 1 → prt (byt s q) = true) := fun q hq => by
                by_cases e : q = j
                · subst e; exact hp.out
                · exact hall.out q (by omega)
              go_wp2_with (first | (go_at_call 38; refine (prt_is _ _ hp).mono ?_; rintro e W1 ⟨rfl, rfl⟩))
              go_roundw
              case rel => exact ⟨j + 1, by omega, by go_num, trivial, hall2⟩
              case measure => simp [intOf]; omega
          · obtain ⟨v, hv⟩ : ∃ v, Hid (rsv s = v) := ⟨_, rfl⟩
            have hend : Hid (r = !v) := by
              show _ = _
              have : Nam s ↔ rsv s = false := ⟨fun h => h.2.2.2.2, fun h => ⟨HS.out.1, HS.out.2, hl0.out, fun q hq => hall.out q (by omega), h⟩⟩
              have h2 := hr.out
              rw [this, hv.out] at h2
              cases r <;> cases v <;> simp_all
            go_wp2_with (first | (go_at_call 14; refine (rsv_is _ _ hv).mono ?_; rintro e W1 ⟨rfl, rfl⟩))
            go_ret
            exact ⟨ret_bool hend.out.symm, rfl⟩
set_option maxHeartbeats 1000000 in
set_option maxRecDepth 8000 in
theorem refNam_is (s : ByteArray) (w : World) {r : Bool} (hr : Hid (Nam s ↔ r = true)) : Calls Tryd.prog 17 #[.string s] w fun e w' => e = .returned (.bool r) ∧ w = w' := by
  by_cases h1 : (s.size : Int) < 1
  · have hend : Hid (r = false) := iff_no hr.out (fun h => by have := h.1; omega)
    clear hr
    go_enter Tryd.func17, Tryd.ntmps17
    go_wp2
    go_ret
    exact ⟨ret_bool hend.out.symm, rfl⟩
  · by_cases h2 : 12 < (s.size : Int)
    · have hend : Hid (r = false) := iff_no hr.out (fun h => by have := h.2.1; omega)
      clear hr
      go_enter Tryd.func17, Tryd.ntmps17
      go_wp2
      go_ret
      exact ⟨ret_bool hend.out.symm, rfl⟩
    · have jx := byt_at s 0 (by omega)
      obtain ⟨l0, hl0⟩ : ∃ v, Hid (ltr (byt s 0) = v) := ⟨_, rfl⟩
      obtain ⟨v, hv⟩ : ∃ v, Hid (rsv s = v) := ⟨_, rfl⟩
      have hsz : 1 ≤ s.size ∧ s.size ≤ 12 := by omega
      have HS := Lib.hid hsz
      cases l0 with
      | false =>
        have hend : Hid (r = false) := iff_no hr.out (fun h => by have := h.2.2.1; rw [hl0.out] at this; cases this)
        clear hr
        go_enter Tryd.func17, Tryd.ntmps17
        go_wp2_with (first | (go_at_call 39; refine (refLtr_is _ _ hl0).mono ?_; rintro e W1 ⟨rfl, rfl⟩))
        go_ret
        exact ⟨ret_bool hend.out.symm, rfl⟩
      | true =>
        cases v with
        | true =>
          have hend : Hid (r = false) := iff_no hr.out (fun h => by have := h.2.2.2.2; rw [hv.out] at this; cases this)
          clear hr
          go_enter Tryd.func17, Tryd.ntmps17
          go_wp2_with (first
            | (go_at_call 39; refine (refLtr_is _ _ hl0).mono ?_; rintro e W1 ⟨rfl, rfl⟩)
            | (go_at_call 15; refine (refRsv_is _ _ hv).mono ?_; rintro e W1 ⟨rfl, rfl⟩))
          go_ret
          exact ⟨ret_bool hend.out.symm, rfl⟩
        | false =>
          go_enter Tryd.func17, Tryd.ntmps17
          go_wp2_with (first
            | (go_at_call 39; refine (refLtr_is _ _ hl0).mono ?_; rintro e W1 ⟨rfl, rfl⟩)
            | (go_at_call 15; refine (refRsv_is _ _ hv).mono ?_; rintro e W1 ⟨rfl, rfl⟩))
          clear jx
          go_loopw [3] (fun i wr => ∃ (j : Nat), j ≤ s.size ∧ i = .int .i64 j ∧ Hid (w = wr) ∧ Hid (∀ q, q < j → prt (byt s q) = true)) (fun i _ => s.size - (intOf i).toNat)
          case atStart => exact ⟨0, by omega, rfl, rfl, fun q hq => by omega⟩
          case round =>
            obtain ⟨j, hj, rfl, hw, hall⟩ := hrel
            have hw' := hw.out
            subst hw'
            by_cases hlt : (j : Int) < (s.size : Int)
            · have jy := byt_at s j (by omega)
              have e5 : IntKind.i64.wrap ((j : Int) + 1) = (j : Int) + 1 := by rw [IntKind.wrap_i64]; omega
              obtain ⟨p, hp⟩ : ∃ v, Hid (prt (byt s j) = v) := ⟨_, rfl⟩
              cases p with
              | false =>
                have hend : Hid (r = false) := iff_no hr.out (fun h => by have := h.2.2.2.1 j (by omega); rw [hp.out] at this; cases this)
                go_wp2_with (first | (go_at_call 40; refine (refPrt_is _ _ hp).mono ?_; rintro e W1 ⟨rfl, rfl⟩))
                go_ret
                exact ⟨ret_bool hend.out.symm, rfl⟩
              | true =>
                have hall2 : Hid (∀ q, q < j + 1 → prt (byt s q) = true) := fun q hq => by
                  by_cases e : q = j
                  · subst e; exact hp.out
                  · exact hall.out q (by omega)
                go_wp2_with (first | (go_at_call 40; refine (refPrt_is _ _ hp).mono ?_; rintro e W1 ⟨rfl, rfl⟩))
                go_roundw
                case rel => exact ⟨j + 1, by omega, by go_num, trivial, hall2⟩
                case measure => simp [intOf]; omega
            · have hend : Hid (r = true) := hr.out.1 ⟨HS.out.1, HS.out.2, hl0.out, fun q hq => hall.out q (by omega), hv.out⟩
              go_wp2
              go_ret
              exact ⟨ret_bool hend.out.symm, rfl⟩
end Go.Proofs.YtmfdafffafbmpaaDoor
