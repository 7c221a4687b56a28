/- Contracts: names of modes, of both sides. -/
import Derived.Test.YtlokcmbkkfjlkaaGreatDoorLval
import Derived.Test.YtlokcmbkkfjlkaaGreatDoorMd
namespace Go.Proofs.YtlokcmbkkfjlkaaGreatDoor
set_option linter.unusedVariables false
open Go.RowKit

theorem str_ne {x s : ByteArray} (h : ¬ x = s) : (x.data.toList == s.toList) = false := by
  rw [ByteArray.toList_eq, beq_eq_false_iff_ne]
  exact fun e => h (ByteArray.ext (Array.toList_inj.mp e))
theorem str_eq {x s : ByteArray} (h : x = s) : (x.data.toList == s.toList) = true := by
  subst h
  rw [ByteArray.toList_eq, beq_iff_eq]
def nmB (a : Int) : ByteArray := if a = 1 then ⟨#[73, 83]⟩ else if a = 2 then ⟨#[73, 88]⟩ else if a = 3 then ⟨#[83]⟩ else if a = 4 then ⟨#[83, 73, 88]⟩ else if a = 5 then ⟨#[88]⟩ else ⟨#[]⟩
theorem nmB_no {a : Int} (h : ¬ (1 ≤ a ∧ a ≤ 5)) : nmB a = ⟨#[]⟩ := by
  unfold nmB
  rw [if_neg (by omega), if_neg (by omega), if_neg (by omega), if_neg (by omega), if_neg (by omega)]
theorem refFormat_any (a : Int) (w : World) : Calls Tryz.prog 71 #[.int .i64 a] w fun e w' => e = .returned (.string (nmB a)) ∧ w = w' := by
  by_cases h : 1 ≤ a ∧ a ≤ 5
  · rcases md_cases h with rfl | rfl | rfl | rfl | rfl
    all_goals (
      clear h
      go_enter Tryz.func71, Tryz.ntmps71
      go_wp2
      go_ret
      exact ⟨rfl, rfl⟩)
  · rw [nmB_no h]
    go_enter Tryz.func71, Tryz.ntmps71
    go_wp2
    go_ret
    exact ⟨rfl, rfl⟩
/-- The table of names lies in the world. -/
structure VN (w : World) : Prop where
  names : ∀ i : Nat, i < 5 → w.cell? ⟨0, i, none⟩ = some (.string (nmB ((i : Int) + 1)))
theorem VN.below {w w' : World} (h : VN w) (hb : Below w.heap.size w w') : VN w' :=
  ⟨fun i hi => by rw [← h.names i hi]; exact hb.cell (p := ⟨_, i, none⟩) (World.block_lt_of_cell? w _ (h.names 0 (by omega)) : _ < _)⟩
def prs (s : ByteArray) : Int := if s = ⟨#[73, 83]⟩ then 1 else if s = ⟨#[73, 88]⟩ then 2 else if s = ⟨#[83]⟩ then 3 else if s = ⟨#[83, 73, 88]⟩ then 4 else if s = ⟨#[88]⟩ then 5 else 0
set_option maxHeartbeats 1000000 in
theorem parse_any (s : ByteArray) (w : World) (hV : VN w) : Calls Tryz.prog 118 #[.string s] w fun e w' => e = .returned (.tuple #[.int .i64 (prs s), .bool (decide (1 ≤ prs s))]) ∧ w = w' := by
  obtain ⟨r, hr⟩ : ∃ r, Hid (prs s = r) := ⟨_, rfl⟩
  rw [hr.out]
  have e0 : w.cell? ⟨0, 0, none⟩ = some (.string ⟨#[73, 83]⟩) := hV.names 0 (by omega)
  have e1 : w.cell? ⟨0, 1, none⟩ = some (.string ⟨#[73, 88]⟩) := hV.names 1 (by omega)
  have e2 : w.cell? ⟨0, 2, none⟩ = some (.string ⟨#[83]⟩) := hV.names 2 (by omega)
  have e3 : w.cell? ⟨0, 3, none⟩ = some (.string ⟨#[83, 73, 88]⟩) := hV.names 3 (by omega)
  have e4 : w.cell? ⟨0, 4, none⟩ = some (.string ⟨#[88]⟩) := hV.names 4 (by omega)
  clear hV
  go_enter Tryz.func118, Tryz.ntmps118
  go_wp2
  go_loopw [7] (fun i wr => ∃ (k : Int), 0 ≤ k ∧ k ≤ 5 ∧ i = .int .i64 k ∧ Hid (w = wr) ∧ Hid (∀ j, 1 ≤ j → j ≤ k → ¬ nmB j = s)) (fun i _ => (5 - intOf i).toNat)
  case atStart => exact ⟨0, by omega, by omega, rfl, rfl, fun j h1 h2 => by omega⟩
  case round =>
    obtain ⟨k, hk, hk5, rfl, hw, hno⟩ := hrel
    have hw' := hw.out
    subst hw'
    have hc : k = 0 ∨ k = 1 ∨ k = 2 ∨ k = 3 ∨ k = 4 ∨ k = 5 := by omega
    rcases hc with rfl | rfl | rfl | rfl | rfl | rfl
    · have ix : (Instr.index 136 (.agg #[.string ⟨#[73, 83]⟩, .string ⟨#[73, 88]⟩, .string ⟨#[83]⟩, .string ⟨#[83, 73, 88]⟩, .string ⟨#[88]⟩]) (.int .i64 0)).run Tryz.prog w = .ok (.string ⟨#[73, 83]⟩) w := by kernel_rfl
      by_cases he : nmB 1 = s
      · have hend : Hid (r = 1) := by show _ = _; rw [← hr.out, ← he]; decide
        have he' : (([73, 83] : List UInt8) == s.toList) = true := str_eq he
        clear he
        go_wp2
        go_ret2
        exact ⟨by rw [hend.out]; rfl, rfl⟩
      · have hno2 : Hid (∀ j, 1 ≤ j → j ≤ (1 : Int) → ¬ nmB j = s) := fun j h1 h2 => by
          by_cases hj : j = 1
          · subst hj; exact he
          · exact hno.out j h1 (by omega)
        have he' : (([73, 83] : List UInt8) == s.toList) = false := str_ne he
        clear he
        go_wp2
        go_roundw
        case rel => exact ⟨1, by omega, by omega, rfl, trivial, hno2⟩
        case measure => simp [intOf]
    · have ix : (Instr.index 136 (.agg #[.string ⟨#[73, 83]⟩, .string ⟨#[73, 88]⟩, .string ⟨#[83]⟩, .string ⟨#[83, 73, 88]⟩, .string ⟨#[88]⟩]) (.int .i64 1)).run Tryz.prog w = .ok (.string ⟨#[73, 88]⟩) w := by kernel_rfl
      by_cases he : nmB 2 = s
      · have hend : Hid (r = 2) := by show _ = _; rw [← hr.out, ← he]; decide
        have he' : (([73, 88] : List UInt8) == s.toList) = true := str_eq he
        clear he
        go_wp2
        go_ret2
        exact ⟨by rw [hend.out]; rfl, rfl⟩
      · have hno2 : Hid (∀ j, 1 ≤ j → j ≤ (2 : Int) → ¬ nmB j = s) := fun j h1 h2 => by
          by_cases hj : j = 2
          · subst hj; exact he
          · exact hno.out j h1 (by omega)
        have he' : (([73, 88] : List UInt8) == s.toList) = false := str_ne he
        clear he
        go_wp2
        go_roundw
        case rel => exact ⟨2, by omega, by omega, rfl, trivial, hno2⟩
        case measure => simp [intOf]
    · have ix : (Instr.index 136 (.agg #[.string ⟨#[73, 83]⟩, .string ⟨#[73, 88]⟩, .string ⟨#[83]⟩, .string ⟨#[83, 73, 88]⟩, .string ⟨#[88]⟩]) (.int .i64 2)).run Tryz.prog w = .ok (.string ⟨#[83]⟩) w := by kernel_rfl
      by_cases he : nmB 3 = s
      · have hend : Hid (r = 3) := by show _ = _; rw [← hr.out, ← he]; decide
        have he' : (([83] : List UInt8) == s.toList) = true := str_eq he
        clear he
        go_wp2
        go_ret2
        exact ⟨by rw [hend.out]; rfl, rfl⟩
      · have hno2 : Hid (∀ j, 1 ≤ j → j ≤ (3 : Int) → ¬ nmB j = s) := fun j h1 h2 => by
          by_cases hj : j = 3
          · subst hj; exact he
          · exact hno.out j h1 (by omega)
        have he' : (([83] : List UInt8) == s.toList) = false := str_ne he
        clear he
        go_wp2
        go_roundw
        case rel => exact ⟨3, by omega, by omega, rfl, trivial, hno2⟩
        case measure => simp [intOf]
    · have ix : (Instr.index 136 (.agg #[.string ⟨#[73, 83]⟩, .string ⟨#[73, 88]⟩, .string ⟨#[83]⟩, .string ⟨#[83, 73, 88]⟩, .string ⟨#[88]⟩]) (.int .i64 3)).run Tryz.prog w = .ok (.string ⟨#[83, 73, 88]⟩) w := by kernel_rfl
      by_cases he : nmB 4 = s
      · have hend : Hid (r = 4) := by show _ = _; rw [← hr.out, ← he]; decide
        have he' : (([83, 73, 88] : List UInt8) == s.toList) = true := str_eq he
        clear he
        go_wp2
        go_ret2
        exact ⟨by rw [hend.out]; rfl, rfl⟩
      · have hno2 : Hid (∀ j, 1 ≤ j → j ≤ (4 : Int) → ¬ nmB j = s) := fun j h1 h2 => by
          by_cases hj : j = 4
          · subst hj; exact he
          · exact hno.out j h1 (by omega)
        have he' : (([83, 73, 88] : List UInt8) == s.toList) = false := str_ne he
        clear he
        go_wp2
        go_roundw
        case rel => exact ⟨4, by omega, by omega, rfl, trivial, hno2⟩
        case measure => simp [intOf]
    · have ix : (Instr.index 136 (.agg #[.string ⟨#[73, 83]⟩, .string ⟨#[73, 88]⟩, .string ⟨#[83]⟩, .string ⟨#[83, 73, 88]⟩, .string ⟨#[88]⟩]) (.int .i64 4)).run Tryz.prog w = .ok (.string ⟨#[88]⟩) w := by kernel_rfl
      by_cases he : nmB 5 = s
      · have hend : Hid (r = 5) := by show _ = _; rw [← hr.out, ← he]; decide
        have he' : (([88] : List UInt8) == s.toList) = true := str_eq he
        clear he
        go_wp2
        go_ret2
        exact ⟨by rw [hend.out]; rfl, rfl⟩
      · have hno2 : Hid (∀ j, 1 ≤ j → j ≤ (5 : Int) → ¬ nmB j = s) := fun j h1 h2 => by
          by_cases hj : j = 5
          · subst hj; exact he
          · exact hno.out j h1 (by omega)
        have he' : (([88] : List UInt8) == s.toList) = false := str_ne he
        clear he
        go_wp2
        go_roundw
        case rel => exact ⟨5, by omega, by omega, rfl, trivial, hno2⟩
        case measure => simp [intOf]
    · have hend : Hid (r = 0) := by
        show _ = _
        rw [← hr.out]
        unfold prs
        rw [if_neg (fun e => hno.out 1 (by omega) (by omega) e.symm), if_neg (fun e => hno.out 2 (by omega) (by omega) e.symm), if_neg (fun e => hno.out 3 (by omega) (by omega) e.symm), if_neg (fun e => hno.out 4 (by omega) (by omega) e.symm), if_neg (fun e => hno.out 5 (by omega) (by omega) e.symm)]
      go_wp2
      go_ret2
      exact ⟨by rw [hend.out]; rfl, rfl⟩
theorem refFormat_is (a : Int) (w : World) {r : ByteArray} (h : Hid (nmB a = r)) : Calls Tryz.prog 71 #[.int .i64 a] w fun e w' => e = .returned (.string r) ∧ w = w' := by
  rw [← h.out]
  exact refFormat_any a w
theorem nm_prs {k : Int} (h : 1 ≤ k ∧ k ≤ 5) : prs (nmB k) = k := by
  rcases md_cases h with rfl | rfl | rfl | rfl | rfl <;> decide
set_option maxHeartbeats 1000000 in
theorem refParse_any (s : ByteArray) (w : World) : Calls Tryz.prog 49 #[.string s] w fun e w' => e = .returned (.tuple #[.int .i64 (prs s), .bool (decide (1 ≤ prs s))]) ∧ w = w' := by
  obtain ⟨r, hr⟩ : ∃ r, Hid (prs s = r) := ⟨_, rfl⟩
  rw [hr.out]
  go_enter Tryz.func49, Tryz.ntmps49
  go_wp2
  go_loopw [4] (fun i wr => ∃ (k : Int), 1 ≤ k ∧ k ≤ 6 ∧ i = .int .i64 k ∧ Hid (w = wr) ∧ Hid (∀ j, 1 ≤ j → j < k → ¬ nmB j = s)) (fun i _ => (6 - intOf i).toNat)
  case atStart => exact ⟨1, by omega, by omega, rfl, rfl, fun j h1 h2 => by omega⟩
  case round =>
    obtain ⟨k, hk, hk6, rfl, hw, hno⟩ := hrel
    have hw' := hw.out
    subst hw'
    by_cases hlt : k ≤ 5
    · have e5 : IntKind.i64.wrap (k + 1) = k + 1 := by rw [IntKind.wrap_i64]; omega
      obtain ⟨nm, hnm⟩ : ∃ nm, Hid (nmB k = nm) := ⟨_, rfl⟩
      by_cases he : nm = s
      · have hend : Hid (r = k) := by
          show _ = _
          rw [← hr.out, ← he, ← hnm.out]
          exact nm_prs ⟨hk, hlt⟩
        subst he
        have hk1 := Lib.hid hk
        go_wp2_with (first | (go_at_call 71; refine (refFormat_is _ _ hnm).mono ?_; rintro e W1 ⟨rfl, rfl⟩))
        go_ret2
        exact ⟨by rw [hend.out, decide_eq_true hk1.out]; rfl, rfl⟩
      · have hno2 : Hid (∀ j, 1 ≤ j → j < k + 1 → ¬ nmB j = s) := fun j h1 h2 => by
          by_cases hj : j = k
          · subst hj
            rw [hnm.out]
            exact he
          · exact hno.out j h1 (by omega)
        have he' : (nm.toList == s.toList) = false := by rw [ByteArray.toList_eq nm]; exact str_ne he
        clear he
        go_wp2_with (first | (go_at_call 71; refine (refFormat_is _ _ hnm).mono ?_; rintro e W1 ⟨rfl, rfl⟩))
        go_roundw
        case rel => exact ⟨k + 1, by omega, by omega, rfl, trivial, hno2⟩
        case measure => simp [intOf]; omega
    · have hend : Hid (r = 0) := by
        show _ = _
        rw [← hr.out]
        unfold prs
        rw [if_neg (fun e => hno.out 1 (by omega) (by omega) e.symm), if_neg (fun e => hno.out 2 (by omega) (by omega) e.symm), if_neg (fun e => hno.out 3 (by omega) (by omega) e.symm), if_neg (fun e => hno.out 4 (by omega) (by omega) e.symm), if_neg (fun e => hno.out 5 (by omega) (by omega) e.symm)]
      go_wp2
      go_ret2
      exact ⟨by rw [hend.out]; rfl, rfl⟩
theorem mkB_inj {a b : List UInt8} : mkB a = mkB b ↔ a = b := ⟨fun h => by rw [← mkB_data a, h, mkB_data], fun h => by rw [h]⟩
theorem prs_mdL (l : List UInt8) : prs (mkB l) = mdL l := by
  have e : ∀ x : List UInt8, (mkB l = (⟨x.toArray⟩ : ByteArray)) ↔ l = x := fun x => mkB_inj (b := x)
  unfold prs mdL
  have e1 := e [73, 83]
  have e2 := e [73, 88]
  have e3 := e [83]
  have e4 := e [83, 73, 88]
  have e5 := e [88]
  simp only [e1, e2, e3, e4, e5]
theorem mdL_nn (l : List UInt8) : 0 ≤ mdL l := by unfold mdL; repeat (first | split | omega)
theorem parse_yes (s : ByteArray) (w : World) (hV : VN w) {v : Int} (hv : Hid (prs s = v)) (h1 : Hid (1 ≤ v)) : Calls Tryz.prog 118 #[.string s] w fun e w' => e = .returned (.tuple #[.int .i64 v, .bool true]) ∧ w = w' := by
  have := parse_any s w hV
  rw [hv.out, decide_eq_true h1.out] at this
  exact this
theorem parse_no (s : ByteArray) (w : World) (hV : VN w) (hv : Hid (prs s = 0)) : Calls Tryz.prog 118 #[.string s] w fun e w' => e = .returned (.tuple #[.int .i64 0, .bool false]) ∧ w = w' := by
  have := parse_any s w hV
  rw [hv.out] at this
  exact this
theorem refParse_yes (s : ByteArray) (w : World) {v : Int} (hv : Hid (prs s = v)) (h1 : Hid (1 ≤ v)) : Calls Tryz.prog 49 #[.string s] w fun e w' => e = .returned (.tuple #[.int .i64 v, .bool true]) ∧ w = w' := by
  have := refParse_any s w
  rw [hv.out, decide_eq_true h1.out] at this
  exact this
theorem refParse_no (s : ByteArray) (w : World) (hv : Hid (prs s = 0)) : Calls Tryz.prog 49 #[.string s] w fun e w' => e = .returned (.tuple #[.int .i64 0, .bool false]) ∧ w = w' := by
  have := refParse_any s w
  rw [hv.out] at this
  exact this
end Go.Proofs.YtlokcmbkkfjlkaaGreatDoor
