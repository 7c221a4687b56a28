/- Contracts of ident for the grants: ValidProc and CompareProc of the program and of the reference; == of processes; slices of processes (picked by wip/pick.py from Ival Icmp Iord Ismall Ib Irows). -/
import Derived.Test.YtfcekfdoafpmoaaHd
import Derived.Test.YtfcekfdoafpmoaaAval
import Derived.WalkLawsBesides
import Derived.Deep.RegionHeld3
import Derived.KernelRfl
import Derived.BigQuiet
import Derived.Deep.QuietTactic
import Derived.Laws.StructEq
namespace Go.Proofs.Ytfcekfdoafpmoaa
open Go.RowKit
open Go.Sort (grow grow_grow alloc_eq_grow)
set_option linter.unusedVariables false
set_option linter.unusedSimpArgs false

/-- A call that leaves the world, in a region behind draws. -/
theorem quietA {P : Program} {f : FuncId} {args : Array Value} {w : World} {a n : Nat} {v : Value} (h : ∀ W, Calls P f args W fun e w' => e = .returned v ∧ w' = W) :
    Calls P f args (w.drewN (a + n)) fun e w' => e = .returned v ∧ ∃ m, w' = w.drewN (a + m) := (h _).mono fun _ _ k => ⟨k.1, n, k.2⟩
theorem pvalid_yes (a b c : Int) (w : World) (h : 0 ≤ a ∧ a < 4 ∧ 1 ≤ b ∧ b ≤ 99 ∧ 1 ≤ c ∧ c ≤ 999) :
    Calls Try.prog 31 #[.agg #[.int .i64 a, .int .i64 b, .int .i64 c]] w fun e w' => e = .returned (.bool true) ∧ Gro w w' := by
  obtain ⟨h1, h2, h3, h4, h5, h6⟩ := h
  go_enter Try.func31, Try.ntmps31
  go_wp2
  go_ret
  exact ⟨rfl, (Gro.refl _).alloc _⟩
theorem pvalid_no (a b c : Int) (w : World) (h : ¬ (0 ≤ a ∧ a < 4 ∧ 1 ≤ b ∧ b ≤ 99 ∧ 1 ≤ c ∧ c ≤ 999)) :
    Calls Try.prog 31 #[.agg #[.int .i64 a, .int .i64 b, .int .i64 c]] w fun e w' => e = .returned (.bool false) ∧ Gro w w' := by
  by_cases h1 : 0 ≤ a
  · by_cases h2 : a < 4
    · by_cases h3 : 1 ≤ b
      · by_cases h4 : b ≤ 99
        · by_cases h5 : 1 ≤ c
          · have h6 : ¬ c ≤ 999 := by omega
            clear h
            go_enter Try.func31, Try.ntmps31
            go_wp2
            go_ret
            exact ⟨rfl, (Gro.refl _).alloc _⟩
          · clear h
            go_enter Try.func31, Try.ntmps31
            go_wp2
            go_ret
            exact ⟨rfl, (Gro.refl _).alloc _⟩
        · clear h
          go_enter Try.func31, Try.ntmps31
          go_wp2
          go_ret
          exact ⟨rfl, (Gro.refl _).alloc _⟩
      · clear h
        go_enter Try.func31, Try.ntmps31
        go_wp2
        go_ret
        exact ⟨rfl, (Gro.refl _).alloc _⟩
    · clear h
      go_enter Try.func31, Try.ntmps31
      go_wp2
      go_ret
      exact ⟨rfl, (Gro.refl _).alloc _⟩
  · clear h
    go_enter Try.func31, Try.ntmps31
    go_wp2
    go_ret
    exact ⟨rfl, (Gro.refl _).alloc _⟩
theorem pvalid_any (a b c : Int) (w : World) :
    Calls Try.prog 31 #[.agg #[.int .i64 a, .int .i64 b, .int .i64 c]] w fun e w' => e = .returned (.bool (vpB a b c)) ∧ Gro w w' := by
  by_cases h : 0 ≤ a ∧ a < 4 ∧ 1 ≤ b ∧ b ≤ 99 ∧ 1 ≤ c ∧ c ≤ 999
  · rw [vpB_mk h]; exact pvalid_yes a b c w h
  · rw [vpB_false h]; exact pvalid_no a b c w h
/-- Two blocks of three numbers read as they were laid in every world that kept them. -/
theorem two3 {w W : World} {T U : TypeId} {a b c x y z : Value} (h : Below ((w.alloc (.cells #[a, b, c] T)).alloc (.cells #[x, y, z] U)).heap.size ((w.alloc (.cells #[a, b, c] T)).alloc (.cells #[x, y, z] U)) W) :
    W.cell? ⟨w.heap.size, 0, none⟩ = some a ∧ W.cell? ⟨w.heap.size, 1, none⟩ = some b ∧ W.cell? ⟨w.heap.size, 2, none⟩ = some c ∧
      W.cell? ⟨w.heap.size + 1, 0, none⟩ = some x ∧ W.cell? ⟨w.heap.size + 1, 1, none⟩ = some y ∧ W.cell? ⟨w.heap.size + 1, 2, none⟩ = some z := by
  have e : ∀ p : Addr, p.block < w.heap.size + 2 → W.cell? p = ((w.alloc (.cells #[a, b, c] T)).alloc (.cells #[x, y, z] U)).cell? p := fun p hp => h.cell (by simp; omega)
  refine ⟨?_, ?_, ?_, ?_, ?_, ?_⟩ <;> rw [e _ (by simp)] <;> simp
theorem two3G {w W : World} {T U : TypeId} {a b c x y z : Value} (h : Gro ((w.alloc (.cells #[a, b, c] T)).alloc (.cells #[x, y, z] U)) W) :
    Gro ((w.alloc (.cells #[a, b, c] T)).alloc (.cells #[x, y, z] U)) W ∧ W.cell? ⟨w.heap.size, 0, none⟩ = some a ∧ W.cell? ⟨w.heap.size, 1, none⟩ = some b ∧ W.cell? ⟨w.heap.size, 2, none⟩ = some c ∧
      W.cell? ⟨w.heap.size + 1, 0, none⟩ = some x ∧ W.cell? ⟨w.heap.size + 1, 1, none⟩ = some y ∧ W.cell? ⟨w.heap.size + 1, 2, none⟩ = some z := ⟨h, two3 h.below⟩

theorem prefValid_any (a b c : Int) (w : World) :
    Calls Try.prog 33 #[.agg #[.int .i64 a, .int .i64 b, .int .i64 c]] w fun e w' => e = .returned (.bool (vpB a b c)) ∧ Gro w w' := by
  by_cases h0 : 0 ≤ a
  · skip
    by_cases h1 : a < 4
    · skip
      by_cases h2 : 1 ≤ b
      · skip
        by_cases h3 : b ≤ 99
        · skip
          by_cases h4 : 1 ≤ c
          · skip
            by_cases h5 : c ≤ 999
            · skip
              rw [vpB_mk ⟨h0, h1, h2, h3, h4, h5⟩]
              go_enter Try.func33, Try.ntmps33
              go_wp2
              go_ret
              exact ⟨rfl, (Gro.refl _).alloc _⟩
            · rw [vpB_false (fun h => h5 (by omega))]
              go_enter Try.func33, Try.ntmps33
              go_wp2
              go_ret
              exact ⟨rfl, (Gro.refl _).alloc _⟩
          · rw [vpB_false (fun h => h4 (by omega))]
            go_enter Try.func33, Try.ntmps33
            go_wp2
            go_ret
            exact ⟨rfl, (Gro.refl _).alloc _⟩
        · rw [vpB_false (fun h => h3 (by omega))]
          go_enter Try.func33, Try.ntmps33
          go_wp2
          go_ret
          exact ⟨rfl, (Gro.refl _).alloc _⟩
      · rw [vpB_false (fun h => h2 (by omega))]
        go_enter Try.func33, Try.ntmps33
        go_wp2
        go_ret
        exact ⟨rfl, (Gro.refl _).alloc _⟩
    · rw [vpB_false (fun h => h1 (by omega))]
      go_enter Try.func33, Try.ntmps33
      go_wp2
      go_ret
      exact ⟨rfl, (Gro.refl _).alloc _⟩
  · rw [vpB_false (fun h => h0 (by omega))]
    go_enter Try.func33, Try.ntmps33
    go_wp2
    go_ret
    exact ⟨rfl, (Gro.refl _).alloc _⟩
theorem pvalid_is (a b c : Int) (w : World) {r : Bool} (h : Hid (vpB a b c = r)) :
    Calls Try.prog 31 #[.agg #[.int .i64 a, .int .i64 b, .int .i64 c]] w fun e w' => e = .returned (.bool r) ∧ Gro w w' := by
  have h' := h.out
  subst h'
  exact pvalid_any a b c w
theorem prefValid_is (a b c : Int) (w : World) {r : Bool} (h : Hid (vpB a b c = r)) :
    Calls Try.prog 33 #[.agg #[.int .i64 a, .int .i64 b, .int .i64 c]] w fun e w' => e = .returned (.bool r) ∧ Gro w w' := by
  have h' := h.out
  subst h'
  exact prefValid_any a b c w
theorem valid_b (a b c : Int) (w : World) {r : Bool} (h : Hid (vpB a b c = r)) :
    Calls Try.prog 31 #[.agg #[.int .i64 a, .int .i64 b, .int .i64 c]] w fun e w' => e = .returned (.bool r) ∧ Below w.heap.size w w' := (pvalid_is a b c w h).mono fun _ _ h => ⟨h.1, h.2.below⟩
theorem refValid_b (a b c : Int) (w : World) {r : Bool} (h : Hid (vpB a b c = r)) :
    Calls Try.prog 33 #[.agg #[.int .i64 a, .int .i64 b, .int .i64 c]] w fun e w' => e = .returned (.bool r) ∧ Below w.heap.size w w' := (prefValid_is a b c w h).mono fun _ _ h => ⟨h.1, h.2.below⟩
abbrev P3 := Int × Int × Int
abbrev ag (p : P3) : Value := .agg #[.int .i64 p.1, .int .i64 p.2.1, .int .i64 p.2.2]
/-- The slice at A reads as the processes ps, three cells each. -/
def PRd (w : World) (A : Option Addr) (ps : List P3) : Prop :=
  ps ≠ [] → ∃ b o, A = some ⟨b, o, none⟩ ∧ b < w.heap.size ∧ ∀ i, i < ps.length →
    w.cell? ⟨b, o + i * 3, none⟩ = some (.int .i64 (ps.getD i default).1) ∧ w.cell? ⟨b, o + i * 3 + 1, none⟩ = some (.int .i64 (ps.getD i default).2.1) ∧ w.cell? ⟨b, o + i * 3 + 2, none⟩ = some (.int .i64 (ps.getD i default).2.2)
theorem PRd.below {w w' : World} {A : Option Addr} {ps : List P3} (h : PRd w A ps) (hb : Below w.heap.size w w') : PRd w' A ps := fun hx => by
  obtain ⟨b, o, hA, hlt, hc⟩ := h hx
  refine ⟨b, o, hA, Nat.lt_of_lt_of_le hlt hb.size, fun i hi => ?_⟩
  obtain ⟨h1, h2, h3⟩ := hc i hi
  exact ⟨(hb.cell (p := ⟨b, o + i * 3, none⟩) hlt).trans h1, (hb.cell (p := ⟨b, o + i * 3 + 1, none⟩) hlt).trans h2, (hb.cell (p := ⟨b, o + i * 3 + 2, none⟩) hlt).trans h3⟩
theorem PRd.at_ {w : World} {A : Option Addr} {ps : List P3} (h : PRd w A ps) {i : Nat} (hi : i < ps.length) :
    ∃ b o x y z, A = some ⟨b, o, none⟩ ∧ b < w.heap.size ∧ Hid (ps.getD i default = (x, y, z)) ∧ w.cell? ⟨b, o + i * 3, none⟩ = some (.int .i64 x) ∧ w.cell? ⟨b, o + i * 3 + 1, none⟩ = some (.int .i64 y) ∧ w.cell? ⟨b, o + i * 3 + 2, none⟩ = some (.int .i64 z) := by
  obtain ⟨b, o, hA, hb, hc⟩ := h (by rintro rfl; simp at hi)
  obtain ⟨h1, h2, h3⟩ := hc i hi
  exact ⟨b, o, _, _, _, hA, hb, rfl, h1, h2, h3⟩
theorem eqPr (x y z a b c : Int) (w : World) : (binOp .eql 24 (.agg #[.int .i64 x, .int .i64 y, .int .i64 z]) (.agg #[.int .i64 a, .int .i64 b, .int .i64 c])).run Try.prog w = .ok (.bool (decide (x = a ∧ y = b ∧ z = c))) w := by
  have u3 := Try.underlying3
  have hS : Try.prog.underlying 24 = some (.struct (Try.prog.fieldsOf 24)) := by kernel_rfl
  have hp : Try.prog.stoodInHeld 24 = false := by kernel_rfl
  rw [run_eql_struct, show (10000 : Nat) = 9999 + 1 from rfl, run_equalIn_agg w 9999 24 _ _ hS hp]
  simp only [Program.fieldsOf, Try.underlying24]
  go_simp
  by_cases h1 : x = a <;> by_cases h2 : y = b <;> by_cases h3 : z = c <;> simp [h1, h2, h3]
theorem eqPr_no {x y z a b c : Int} (h : ¬ (x = a ∧ y = b ∧ z = c)) (w : World) : (binOp .eql 24 (.agg #[.int .i64 x, .int .i64 y, .int .i64 z]) (.agg #[.int .i64 a, .int .i64 b, .int .i64 c])).run Try.prog w = .ok (.bool false) w := by
  rw [eqPr, decide_eq_false h]
end Go.Proofs.Ytfcekfdoafpmoaa
