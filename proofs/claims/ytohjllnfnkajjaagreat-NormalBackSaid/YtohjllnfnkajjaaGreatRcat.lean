/- Contracts: names, modes, amounts that fit, of both sides; worlds below towers of new blocks. Contracts of the reference: names, modes. -/
import Derived.Test.YtohjllnfnkajjaaGreatLadd
import Derived.Test.YtohjllnfnkajjaaGreatLmod
import Derived.Test.YtohjllnfnkajjaaGreatAd
import Derived.Test.YtohjllnfnkajjaaGreatCd
namespace Go.Proofs.YtohjllnfnkajjaaGreat
open Go.RowKit
set_option linter.unusedVariables false
set_option linter.unusedSimpArgs false

theorem cltr_any (c : Int) (w : World) : Calls Tryz.prog 116 #[.int .u8 c] w fun e w' => e = .returned (.bool (ltr c)) ∧ w = w' := by
  obtain ⟨r, hr⟩ : ∃ r, Hid (ltr c = r) := ⟨_, rfl⟩
  rw [hr.out]
  go_enter Tryz.func116, Tryz.ntmps116
  go_wp2
  all_goals (go_ret; have h := hr.out; unfold ltr at h; clear hr; refine ⟨ret_bool ?_, rfl⟩; subst h; (try simp only [beq_iff_eq, beq_eq_false_iff_ne, ne_eq] at *); rw [Bool.eq_iff_iff]; simp; omega)
theorem cprt_any (c : Int) (w : World) : Calls Tryz.prog 117 #[.int .u8 c] w fun e w' => e = .returned (.bool (prt c)) ∧ w = w' := by
  obtain ⟨r, hr⟩ : ∃ r, Hid (prt c = r) := ⟨_, rfl⟩
  rw [hr.out]
  go_enter Tryz.func117, Tryz.ntmps117
  go_wp2_with (first | (go_at_call 116; refine (cltr_any _ _).mono ?_; rintro e W1 ⟨rfl, rfl⟩))
  all_goals (go_ret; have h := hr.out; unfold prt at h; clear hr; refine ⟨ret_bool ?_, rfl⟩; subst h; (try simp only [beq_iff_eq, beq_eq_false_iff_ne, ne_eq, ltr, decide_eq_true_eq, decide_eq_false_iff_not] at *); rw [Bool.eq_iff_iff]; simp; omega)
theorem cltr_is (c : Int) (w : World) {r : Bool} (hr : Hid (ltr c = r)) : Calls Tryz.prog 116 #[.int .u8 c] w fun e w' => e = .returned (.bool r) ∧ w = w' := by rw [← hr.out]; exact cltr_any c w
theorem cprt_is (c : Int) (w : World) {r : Bool} (hr : Hid (prt c = r)) : Calls Tryz.prog 117 #[.int .u8 c] w fun e w' => e = .returned (.bool r) ∧ w = w' := by rw [← hr.out]; exact cprt_any c w
theorem rsv_eq (s : ByteArray) : rsv s = (s.toList == [97, 108, 108] || s.toList == [97, 110, 121] || s.toList == [111, 102] || s.toList == [112, 114, 105, 111] || s.toList == [108, 105, 109, 105, 116]) := by
  unfold rsv eqS
  simp only [ByteArray.toList_mk]
theorem rsv_any (s : ByteArray) (w : World) : Calls Tryz.prog 118 #[.string s] w fun e w' => e = .returned (.bool (rsv s)) ∧ w = w' := by
  obtain ⟨r, hr⟩ : ∃ r, Hid (rsv s = r) := ⟨_, rfl⟩
  rw [hr.out]
  go_enter Tryz.func118, Tryz.ntmps118
  go_wp2
  all_goals (go_ret; have h := hr.out; rw [rsv_eq] at h; clear hr; refine ⟨ret_bool ?_, rfl⟩; subst h; simp_all)
theorem rsv_is (s : ByteArray) (w : World) {r : Bool} (hr : Hid (rsv s = r)) : Calls Tryz.prog 118 #[.string s] w fun e w' => e = .returned (.bool r) ∧ w = w' := by rw [← hr.out]; exact rsv_any s w
theorem iff_no {p : Prop} {r : Bool} (h : p ↔ r = true) (hp : ¬ p) : r = false := by
  cases r with
  | false => rfl
  | true => exact absurd (h.2 rfl) hp
set_option maxHeartbeats 1000000 in
set_option maxRecDepth 8000 in
theorem nam_is (s : ByteArray) (w : World) {r : Bool} (hr : Hid (Nam s ↔ r = true)) : Calls Tryz.prog 93 #[.string s] w fun e w' => e = .returned (.bool r) ∧ w = w' := by
  by_cases h1 : (s.size : Int) < 1
  · have hend : Hid (r = false) := iff_no hr.out (fun h => by have := h.1; omega)
    clear hr
    go_enter Tryz.func93, Tryz.ntmps93
    go_wp2
    go_ret
    exact ⟨ret_bool hend.out.symm, rfl⟩
  · by_cases h2 : 12 < (s.size : Int)
    · have hend : Hid (r = false) := iff_no hr.out (fun h => by have := h.2.1; omega)
      clear hr
      go_enter Tryz.func93, Tryz.ntmps93
      go_wp2
      go_ret
      exact ⟨ret_bool hend.out.symm, rfl⟩
    · have jx := byt_at s 0 (by omega)
      obtain ⟨l0, hl0⟩ : ∃ v, Hid (ltr (byt s 0) = v) := ⟨_, rfl⟩
      have hsz : 1 ≤ s.size ∧ s.size ≤ 12 := by omega
      have HS := Lib.hid hsz
      cases l0 with
      | false =>
        have hend : Hid (r = false) := iff_no hr.out (fun h => by have := h.2.2.1; rw [hl0.out] at this; cases this)
        clear hr
        go_enter Tryz.func93, Tryz.ntmps93
        go_wp2_with (first | (go_at_call 116; refine (cltr_is _ _ hl0).mono ?_; rintro e W1 ⟨rfl, rfl⟩))
        go_ret
        exact ⟨ret_bool hend.out.symm, rfl⟩
      | true =>
        go_enter Tryz.func93, Tryz.ntmps93
        go_wp2_with (first | (go_at_call 116; refine (cltr_is _ _ hl0).mono ?_; rintro e W1 ⟨rfl, rfl⟩))
        clear jx
        go_loopw [3, 20] (fun x i wr => ∃ (j : Nat), j ≤ s.size ∧ i = .int .i64 j ∧ Hid (w = wr) ∧ Hid (∀ q, q < j → prt (byt s q) = true)) (fun _ i _ => s.size - (intOf i).toNat)
        case atStart => exact ⟨0, by omega, rfl, rfl, fun q hq => by omega⟩
        case round =>
          obtain ⟨j, hj, rfl, hw, hall⟩ := hrel
          have hw' := hw.out
          subst hw'
          by_cases hlt : (j : Int) < (s.size : Int)
          · have jy := byt_at s j (by omega)
            have e5 : IntKind.i64.wrap ((j : Int) + 1) = (j : Int) + 1 := by rw [IntKind.wrap_i64]; omega
            obtain ⟨p, hp⟩ : ∃ v, Hid (prt (byt s j) = v) := ⟨_, rfl⟩
            cases p with
            | false =>
              have hend : Hid (r = false) := iff_no hr.out (fun h => by have := h.2.2.2.1 j (by omega); rw [hp.out] at this; cases this)
              go_wp2_with (first | (go_at_call 117; refine (cprt_is _ _ hp).mono ?_; rintro e W1 ⟨rfl, rfl⟩))
              go_ret
              exact ⟨ret_bool hend.out.symm, rfl⟩
            | true =>
              have hall2 : Hid (∀ q, q < j + 1 → prt (byt s q) = true) := fun q hq => by
                by_cases e : q = j
                · subst e; exact hp.out
                · exact hall.out q (by omega)
              go_wp2_with (first | (go_at_call 117; refine (cprt_is _ _ hp).mono ?_; rintro e W1 ⟨rfl, rfl⟩))
              go_roundw
              case rel => exact ⟨j + 1, by omega, by go_num, trivial, hall2⟩
              case measure => simp [intOf]; omega
          · obtain ⟨v, hv⟩ : ∃ v, Hid (rsv s = v) := ⟨_, rfl⟩
            have hend : Hid (r = !v) := by
              show _ = _
              have : Nam s ↔ rsv s = false := ⟨fun h => h.2.2.2.2, fun h => ⟨HS.out.1, HS.out.2, hl0.out, fun q hq => hall.out q (by omega), h⟩⟩
              have h2 := hr.out
              rw [this, hv.out] at h2
              cases r <;> cases v <;> simp_all
            go_wp2_with (first | (go_at_call 118; refine (rsv_is _ _ hv).mono ?_; rintro e W1 ⟨rfl, rfl⟩))
            go_ret
            exact ⟨ret_bool hend.out.symm, rfl⟩
theorem valid_any (a : Int) (w : World) : Calls Tryz.prog 128 #[.int .i64 a] w fun e w' => e = .returned (.bool (vmd a)) ∧ w = w' := by
  obtain ⟨r, hr⟩ : ∃ r, Hid (vmd a = r) := ⟨_, rfl⟩
  rw [hr.out]
  go_enter Tryz.func128, Tryz.ntmps128
  go_wp2
  all_goals (go_ret; have h := hr.out; unfold vmd at h; clear hr; refine ⟨ret_bool ?_, rfl⟩; subst h; (try simp only [beq_iff_eq, beq_eq_false_iff_ne, ne_eq] at *); rw [Bool.eq_iff_iff]; simp; omega)
theorem new3 (w : World) (o p q : Obj) : Below w.heap.size w (((w.alloc o).alloc p).alloc q) := nxA (new2 w o p) q
theorem new4 (w : World) (o p q r : Obj) : Below w.heap.size w ((((w.alloc o).alloc p).alloc q).alloc r) := nxA (new3 w o p q) r
theorem dn2 {w W : World} {o p : Obj} (h : Below ((w.alloc o).alloc p).heap.size ((w.alloc o).alloc p) W) : Below w.heap.size w W := nx (new2 w o p) h
theorem dn3 {w W : World} {o p q : Obj} (h : Below (((w.alloc o).alloc p).alloc q).heap.size (((w.alloc o).alloc p).alloc q) W) : Below w.heap.size w W := nx (new3 w o p q) h
theorem dn4 {w W : World} {o p q r : Obj} (h : Below ((((w.alloc o).alloc p).alloc q).alloc r).heap.size ((((w.alloc o).alloc p).alloc q).alloc r) W) : Below w.heap.size w W := nx (new4 w o p q r) h

abbrev ra (s : ByteArray) (k u h : Int) : Value := .agg #[.string s, .int .i64 k, .int .i64 u, .int .i64 h]
abbrev aa (m n : Int) : Value := .agg #[.int .i64 m, .int .i64 n]

theorem pu_any (n : Int) (w : World) : Calls Tryz.prog 130 #[.int .i64 n] w fun e w' => e = .returned (.bool (pu n)) ∧ w = w' := by
  obtain ⟨r, hr⟩ : ∃ r, Hid (pu n = r) := ⟨_, rfl⟩
  rw [hr.out]
  go_enter Tryz.func130, Tryz.ntmps130
  go_wp2
  all_goals (go_ret; have h := hr.out; unfold pu at h; clear hr; refine ⟨ret_bool ?_, rfl⟩; subst h; (try simp only [beq_iff_eq, beq_eq_false_iff_ne, ne_eq] at *); rw [Bool.eq_iff_iff]; simp; omega)
theorem shaped_any (s : ByteArray) (k u h : Int) (w : World) : Calls Tryz.prog 127 #[ra s k u h] w fun e w' => e = .returned (.bool (shp k u)) ∧ Below w.heap.size w w' := by
  obtain ⟨r, hr⟩ : ∃ r, Hid (shp k u = r) := ⟨_, rfl⟩
  rw [hr.out]
  go_enter Tryz.func127, Tryz.ntmps127
  go_wp2_with (first
    | (go_at_call 130; refine (pu_any _ _).mono ?_; rintro e W1 ⟨rfl, rfl⟩))
  all_goals (go_ret; have h := hr.out; unfold shp at h; clear hr; refine ⟨ret_bool ?_, newB _ _⟩; subst h; (try simp only [beq_iff_eq, beq_eq_false_iff_ne, ne_eq, pu] at *); rw [Bool.eq_iff_iff]; simp; omega)
set_option maxHeartbeats 1000000 in
theorem fits_any (s : ByteArray) (k u h m n : Int) (w : World) : Calls Tryz.prog 119 #[ra s k u h, aa m n] w fun e w' => e = .returned (.bool (fit k u m n)) ∧ Below w.heap.size w w' := by
  obtain ⟨r, hr⟩ : ∃ r, Hid (fit k u m n = r) := ⟨_, rfl⟩
  rw [hr.out]
  go_enter Tryz.func119, Tryz.ntmps119
  go_wp2_with (first
    | (go_at_call 127; refine (shaped_any _ _ _ _ _).mono ?_; rintro e W1 ⟨rfl, hb1⟩; obtain ⟨hc1, hf1⟩ := bcell hb1)
    | (go_at_call 128; refine (valid_any _ _).mono ?_; rintro e W2 ⟨rfl, rfl⟩))
  all_goals (go_ret; have h := hr.out; unfold fit at h; clear hr; refine ⟨ret_bool ?_, by first | exact dn2 hb1 | exact new2 _ _ _⟩; subst h; (try simp only [beq_iff_eq, beq_eq_false_iff_ne, ne_eq, shp, vmd, decide_eq_true_eq, decide_eq_false_iff_not] at *); rw [Bool.eq_iff_iff]; simp; omega)
theorem fits_is (s : ByteArray) (k u h m n : Int) (w : World) {r : Bool} (hr : Hid (fit k u m n = r)) : Calls Tryz.prog 119 #[ra s k u h, aa m n] w fun e w' => e = .returned (.bool r) ∧ Below w.heap.size w w' := by
  rw [← hr.out]; exact fits_any s k u h m n w
theorem shaped_is (s : ByteArray) (k u h : Int) (w : World) {r : Bool} (hr : Hid (shp k u = r)) : Calls Tryz.prog 127 #[ra s k u h] w fun e w' => e = .returned (.bool r) ∧ Below w.heap.size w w' := by
  rw [← hr.out]; exact shaped_any s k u h w
end Go.Proofs.YtohjllnfnkajjaaGreat

namespace Go.Proofs.YtohjllnfnkajjaaGreat
open Go.RowKit
set_option linter.unusedVariables false
set_option linter.unusedSimpArgs false

theorem refRsv_any (s : ByteArray) (w : World) : Calls Tryz.prog 112 #[.string s] w fun e w' => e = .returned (.bool (rsv s)) ∧ w = w' := by
  obtain ⟨r, hr⟩ : ∃ r, Hid (rsv s = r) := ⟨_, rfl⟩
  rw [hr.out]
  go_enter Tryz.func112, Tryz.ntmps112
  go_wp2
  all_goals (go_ret; have h := hr.out; rw [rsv_eq] at h; clear hr; refine ⟨ret_bool ?_, rfl⟩; subst h; simp_all)
theorem refRsv_is (s : ByteArray) (w : World) {r : Bool} (hr : Hid (rsv s = r)) : Calls Tryz.prog 112 #[.string s] w fun e w' => e = .returned (.bool r) ∧ w = w' := by rw [← hr.out]; exact refRsv_any s w

set_option maxHeartbeats 1000000 in
set_option maxRecDepth 8000 in
theorem refNam_is (s : ByteArray) (w : World) {r : Bool} (hr : Hid (Nam s ↔ r = true)) : Calls Tryz.prog 88 #[.string s] w fun e w' => e = .returned (.bool r) ∧ w = w' := by
  by_cases h1 : (s.size : Int) < 1
  · have hend : Hid (r = false) := iff_no hr.out (fun h => by have := h.1; omega)
    clear hr
    go_enter Tryz.func88, Tryz.ntmps88
    go_wp2
    go_ret
    exact ⟨ret_bool hend.out.symm, rfl⟩
  · by_cases h2 : 12 < (s.size : Int)
    · have hend : Hid (r = false) := iff_no hr.out (fun h => by have := h.2.1; omega)
      clear hr
      go_enter Tryz.func88, Tryz.ntmps88
      go_wp2
      go_ret
      exact ⟨ret_bool hend.out.symm, rfl⟩
    · have jx := byt_at s 0 (by omega)
      obtain ⟨l0, hl0⟩ : ∃ v, Hid (ltr (byt s 0) = v) := ⟨_, rfl⟩
      obtain ⟨v, hv⟩ : ∃ v, Hid (rsv s = v) := ⟨_, rfl⟩
      have hsz : 1 ≤ s.size ∧ s.size ≤ 12 := by omega
      have HS := Lib.hid hsz
      cases l0 with
      | false =>
        have hend : Hid (r = false) := iff_no hr.out (fun h => by have := h.2.2.1; rw [hl0.out] at this; cases this)
        clear hr
        go_enter Tryz.func88, Tryz.ntmps88
        go_wp2_with (first | (go_at_call 111; refine (refLtr_is _ _ hl0).mono ?_; rintro e W1 ⟨rfl, rfl⟩))
        go_ret
        exact ⟨ret_bool hend.out.symm, rfl⟩
      | true =>
        cases v with
        | true =>
          have hend : Hid (r = false) := iff_no hr.out (fun h => by have := h.2.2.2.2; rw [hv.out] at this; cases this)
          clear hr
          go_enter Tryz.func88, Tryz.ntmps88
          go_wp2_with (first
            | (go_at_call 111; refine (refLtr_is _ _ hl0).mono ?_; rintro e W1 ⟨rfl, rfl⟩)
            | (go_at_call 112; refine (refRsv_is _ _ hv).mono ?_; rintro e W1 ⟨rfl, rfl⟩))
          go_ret
          exact ⟨ret_bool hend.out.symm, rfl⟩
        | false =>
          go_enter Tryz.func88, Tryz.ntmps88
          go_wp2_with (first
            | (go_at_call 111; refine (refLtr_is _ _ hl0).mono ?_; rintro e W1 ⟨rfl, rfl⟩)
            | (go_at_call 112; refine (refRsv_is _ _ hv).mono ?_; rintro e W1 ⟨rfl, rfl⟩))
          clear jx
          go_loopw [3] (fun i wr => ∃ (j : Nat), j ≤ s.size ∧ i = .int .i64 j ∧ Hid (w = wr) ∧ Hid (∀ q, q < j → prt (byt s q) = true)) (fun i _ => s.size - (intOf i).toNat)
          case atStart => exact ⟨0, by omega, rfl, rfl, fun q hq => by omega⟩
          case round =>
            obtain ⟨j, hj, rfl, hw, hall⟩ := hrel
            have hw' := hw.out
            subst hw'
            by_cases hlt : (j : Int) < (s.size : Int)
            · have jy := byt_at s j (by omega)
              have e5 : IntKind.i64.wrap ((j : Int) + 1) = (j : Int) + 1 := by rw [IntKind.wrap_i64]; omega
              obtain ⟨p, hp⟩ : ∃ v, Hid (prt (byt s j) = v) := ⟨_, rfl⟩
              cases p with
              | false =>
                have hend : Hid (r = false) := iff_no hr.out (fun h => by have := h.2.2.2.1 j (by omega); rw [hp.out] at this; cases this)
                go_wp2_with (first | (go_at_call 113; refine (refPrt_is _ _ hp).mono ?_; rintro e W1 ⟨rfl, rfl⟩))
                go_ret
                exact ⟨ret_bool hend.out.symm, rfl⟩
              | true =>
                have hall2 : Hid (∀ q, q < j + 1 → prt (byt s q) = true) := fun q hq => by
                  by_cases e : q = j
                  · subst e; exact hp.out
                  · exact hall.out q (by omega)
                go_wp2_with (first | (go_at_call 113; refine (refPrt_is _ _ hp).mono ?_; rintro e W1 ⟨rfl, rfl⟩))
                go_roundw
                case rel => exact ⟨j + 1, by omega, by go_num, trivial, hall2⟩
                case measure => simp [intOf]; omega
            · have hend : Hid (r = true) := hr.out.1 ⟨HS.out.1, HS.out.2, hl0.out, fun q hq => hall.out q (by omega), hv.out⟩
              go_wp2
              go_ret
              exact ⟨ret_bool hend.out.symm, rfl⟩
theorem refValid_any (a : Int) (w : World) : Calls Tryz.prog 114 #[.int .i64 a] w fun e w' => e = .returned (.bool (vmd a)) ∧ w = w' := by
  obtain ⟨r, hr⟩ : ∃ r, Hid (vmd a = r) := ⟨_, rfl⟩
  rw [hr.out]
  go_enter Tryz.func114, Tryz.ntmps114
  go_wp2
  all_goals (go_ret; have h := hr.out; unfold vmd at h; clear hr; refine ⟨ret_bool ?_, rfl⟩; subst h; (try simp only [beq_iff_eq, beq_eq_false_iff_ne, ne_eq] at *); rw [Bool.eq_iff_iff]; simp; omega)
end Go.Proofs.YtohjllnfnkajjaaGreat
