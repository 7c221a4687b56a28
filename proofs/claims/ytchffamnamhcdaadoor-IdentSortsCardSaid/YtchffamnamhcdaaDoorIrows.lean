/- Slices of processes as lists of triples; HasProc, by the program and by the reference. -/
import Derived.Test.YtchffamnamhcdaaDoorIb
import Derived.Deep.QuietTactic
import Derived.Laws.StructEq
namespace Go.Proofs.YtchffamnamhcdaaDoor
set_option linter.unusedVariables false
open Go.RowKit

abbrev P3 := Int × Int × Int
abbrev ag (p : P3) : Value := .agg #[.int .i64 p.1, .int .i64 p.2.1, .int .i64 p.2.2]
/-- The slice at A reads as the processes ps, three cells each. -/
def PRd (w : World) (A : Option Addr) (ps : List P3) : Prop :=
  ps ≠ [] → ∃ b o, A = some ⟨b, o, none⟩ ∧ b < w.heap.size ∧ ∀ i, i < ps.length →
    w.cell? ⟨b, o + i * 3, none⟩ = some (.int .i64 (ps.getD i default).1) ∧ w.cell? ⟨b, o + i * 3 + 1, none⟩ = some (.int .i64 (ps.getD i default).2.1) ∧ w.cell? ⟨b, o + i * 3 + 2, none⟩ = some (.int .i64 (ps.getD i default).2.2)
theorem PRd.below {w w' : World} {A : Option Addr} {ps : List P3} (h : PRd w A ps) (hb : Below w.heap.size w w') : PRd w' A ps := fun hx => by
  obtain ⟨b, o, hA, hlt, hc⟩ := h hx
  refine ⟨b, o, hA, Nat.lt_of_lt_of_le hlt hb.size, fun i hi => ?_⟩
  obtain ⟨h1, h2, h3⟩ := hc i hi
  exact ⟨(hb.cell (p := ⟨b, o + i * 3, none⟩) hlt).trans h1, (hb.cell (p := ⟨b, o + i * 3 + 1, none⟩) hlt).trans h2, (hb.cell (p := ⟨b, o + i * 3 + 2, none⟩) hlt).trans h3⟩
theorem PRd.at_ {w : World} {A : Option Addr} {ps : List P3} (h : PRd w A ps) {i : Nat} (hi : i < ps.length) :
    ∃ b o x y z, A = some ⟨b, o, none⟩ ∧ b < w.heap.size ∧ Hid (ps.getD i default = (x, y, z)) ∧ w.cell? ⟨b, o + i * 3, none⟩ = some (.int .i64 x) ∧ w.cell? ⟨b, o + i * 3 + 1, none⟩ = some (.int .i64 y) ∧ w.cell? ⟨b, o + i * 3 + 2, none⟩ = some (.int .i64 z) := by
  obtain ⟨b, o, hA, hb, hc⟩ := h (by rintro rfl; simp at hi)
  obtain ⟨h1, h2, h3⟩ := hc i hi
  exact ⟨b, o, _, _, _, hA, hb, rfl, h1, h2, h3⟩
theorem getD_mem {ps : List P3} {i : Nat} (hi : i < ps.length) : ps.getD i default ∈ ps := by
  rw [List.getD_eq_getElem?_getD, List.getElem?_eq_getElem hi]
  exact List.getElem_mem hi
theorem mem_getD {ps : List P3} {p : P3} (h : p ∈ ps) : ∃ i, i < ps.length ∧ ps.getD i default = p := by
  obtain ⟨i, hi, h⟩ := List.getElem_of_mem h
  exact ⟨i, hi, by rw [List.getD_eq_getElem?_getD, List.getElem?_eq_getElem hi]; exact h⟩

theorem bdN {B : Nat} {a w : World} (h : Below B a w) (q : Nat) : Below B a (w.drewN q) := ⟨h.os, h.tape, h.output, h.size, h.block⟩
theorem eqPr (x y z a b c : Int) (w : World) : (binOp .eql 23 (.agg #[.int .i64 x, .int .i64 y, .int .i64 z]) (.agg #[.int .i64 a, .int .i64 b, .int .i64 c])).run Tryd.prog w = .ok (.bool (decide (x = a ∧ y = b ∧ z = c))) w := by
  have u3 := Tryd.underlying3
  have hS : Tryd.prog.underlying 23 = some (.struct (Tryd.prog.fieldsOf 23)) := by kernel_rfl
  have hp : Tryd.prog.stoodInHeld 23 = false := by kernel_rfl
  rw [run_eql_struct, show (10000 : Nat) = 9999 + 1 from rfl, run_equalIn_agg w 9999 23 _ _ hS hp]
  simp only [Program.fieldsOf, Tryd.underlying23]
  go_simp
  by_cases h1 : x = a <;> by_cases h2 : y = b <;> by_cases h3 : z = c <;> simp [h1, h2, h3]
theorem eqPr_no {x y z a b c : Int} (h : ¬ (x = a ∧ y = b ∧ z = c)) (w : World) : (binOp .eql 23 (.agg #[.int .i64 x, .int .i64 y, .int .i64 z]) (.agg #[.int .i64 a, .int .i64 b, .int .i64 c])).run Tryd.prog w = .ok (.bool false) w := by
  rw [eqPr, decide_eq_false h]

set_option maxHeartbeats 1000000 in
set_option maxRecDepth 8000 in
theorem refHas_any (A : Option Addr) (n c : Nat) (ps : List P3) (a b d : Int) (w : World) (h : PRd w A ps) (hn : Hid (ps.length = n)) (hm : Hid (n ≤ 100)) {r : Bool} (hr : Hid (r = decide ((a, b, d) ∈ ps))) :
    Calls Tryd.prog 28 #[.slice A n c, .agg #[.int .i64 a, .int .i64 b, .int .i64 d]] w fun e w' => e = .returned (.bool r) ∧ Below w.heap.size w w' := by
  have HR := Lib.hid h
  clear h
  go_enter Tryd.func28, Tryd.ntmps28
  go_wp2
  go_loopw [5] (fun i wr => ∃ (k : Nat), k ≤ n ∧ i = .int .i64 k ∧ Hid (B3 wr w.heap.size (.int .i64 a) (.int .i64 b) (.int .i64 d)) ∧ Hid (Below w.heap.size w wr) ∧ Hid (∀ j, j < k → ¬ ps.getD j default = (a, b, d))) (fun i _ => n - (intOf i).toNat)
  case atStart => exact ⟨0, by omega, rfl, B3.new _ _ _ _ _, newB _ _, fun j hj => by omega⟩
  case round =>
    obtain ⟨k, hk, rfl, hbx, hbl, hno⟩ := hrel
    obtain ⟨i0, i1, i2, i3⟩ := hbx.out
    by_cases hlt : (k : Int) < (n : Int)
    · obtain ⟨g, o, x, y, z, rfl, hg, hxyz, c1, c2, c3⟩ := (HR.out.below hbl.out).at_ (i := k) (by have := hn.out; omega)
      have e5 : IntKind.i64.wrap ((k : Int) + 1) = (k : Int) + 1 := by have := hm.out; rw [IntKind.wrap_i64]; omega
      by_cases he : x = a ∧ y = b ∧ z = d
      · obtain ⟨rfl, rfl, rfl⟩ := he
        have hyes : Hid (r = true) := by
          show _ = _
          rw [hr.out, decide_eq_true_eq, ← hxyz.out]
          exact getD_mem (by have := hn.out; omega)
        go_wp2
        go_quiet (fail)
        go_wp2
        go_ret
        exact ⟨by rw [hyes.out]; rfl, bdN hbl.out _⟩
      · have hno2 : Hid (∀ j, j < k + 1 → ¬ ps.getD j default = (a, b, d)) := fun j hj e => by
          by_cases hjk : j = k
          · subst hjk
            rw [hxyz.out] at e
            exact he (by simpa using e)
          · exact hno.out j (by omega) e
        have hne := eqPr_no he
        clear he
        go_wp2
        go_quiet (fail)
        go_wp2
        go_roundw
        case rel => exact ⟨k + 1, by omega, by go_num, hbx.out.below (bdN (Below.refl _ _) _), bdN hbl.out _, hno2⟩
        case measure => simp [intOf]; omega
    · have hyes : Hid (r = false) := by
        show _ = _
        rw [hr.out, decide_eq_false_iff_not]
        intro hmem
        obtain ⟨i, hi, he⟩ := mem_getD hmem
        exact hno.out i (by have := hn.out; omega) he
      go_wp2
      go_ret
      exact ⟨by rw [hyes.out]; rfl, hbl.out⟩
end Go.Proofs.YtchffamnamhcdaaDoor
