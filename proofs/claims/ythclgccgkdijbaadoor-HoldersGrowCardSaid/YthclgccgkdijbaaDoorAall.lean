/- Contracts: whether all amounts of a list are permitted. -/
import Derived.Test.YthclgccgkdijbaaDoorArows
namespace Go.Proofs.YthclgccgkdijbaaDoor
open Go.RowKit
set_option linter.unusedVariables false
set_option linter.unusedSimpArgs false

/-- Blocks of four cells, of two, carried from world to world. -/
def Q4 (W : World) (k : Nat) (a b c d : Value) : Prop := k < W.heap.size ∧ W.cell? ⟨k, 0, none⟩ = some a ∧ W.cell? ⟨k, 1, none⟩ = some b ∧ W.cell? ⟨k, 2, none⟩ = some c ∧ W.cell? ⟨k, 3, none⟩ = some d
def Q2 (W : World) (k : Nat) (a b : Value) : Prop := k < W.heap.size ∧ W.cell? ⟨k, 0, none⟩ = some a ∧ W.cell? ⟨k, 1, none⟩ = some b
theorem Q4.new (W : World) (T : TypeId) (a b c d : Value) : Q4 (W.alloc (.cells #[a, b, c, d] T)) W.heap.size a b c d := ⟨by simp, by simp, by simp, by simp, by simp⟩
theorem Q2.new (W : World) (T : TypeId) (a b : Value) : Q2 (W.alloc (.cells #[a, b] T)) W.heap.size a b := ⟨by simp, by simp, by simp⟩
theorem Q4.below {W W' : World} {k : Nat} {a b c d : Value} (h : Q4 W k a b c d) (hb : Below W.heap.size W W') : Q4 W' k a b c d := by
  obtain ⟨h0, h1, h2, h3, h4⟩ := h
  have := hb.size
  exact ⟨by omega, (hb.cell (p := ⟨k, 0, none⟩) h0).trans h1, (hb.cell (p := ⟨k, 1, none⟩) h0).trans h2, (hb.cell (p := ⟨k, 2, none⟩) h0).trans h3, (hb.cell (p := ⟨k, 3, none⟩) h0).trans h4⟩
theorem Q2.below {W W' : World} {k : Nat} {a b : Value} (h : Q2 W k a b) (hb : Below W.heap.size W W') : Q2 W' k a b := by
  obtain ⟨h0, h1, h2⟩ := h
  have := hb.size
  exact ⟨by omega, (hb.cell (p := ⟨k, 0, none⟩) h0).trans h1, (hb.cell (p := ⟨k, 1, none⟩) h0).trans h2⟩
abbrev R4 (W : World) (g : Nat) (s : ByteArray) (k u h : Int) : Prop := Q4 W g (.string s) (.int .i64 k) (.int .i64 u) (.int .i64 h)

def allP (k u : Int) (l : List P2) : Bool := shp k u && l.all (fun a => per k u a.1 a.2)
theorem allP_iff {k u : Int} {l : List P2} : allP k u l = true ↔ shp k u = true ∧ pers k u l := by
  unfold allP pers
  rw [Bool.and_eq_true, List.all_eq_true]
theorem allP_no {k u : Int} {l : List P2} {i : Nat} {x y : Int} (hi : i < l.length) (hx : l.getD i default = (x, y)) (h : per k u x y = false) : allP k u l = false := by
  cases e : allP k u l with
  | false => rfl
  | true =>
    have := (allP_iff.1 e).2 _ (getD_mem2 hi)
    rw [hx] at this
    rw [h] at this
    cases this
theorem allP_end {k u : Int} {l : List P2} {n : Nat} (hn : l.length = n) (h : ∀ j, j < n → per k u (l.getD j default).1 (l.getD j default).2 = true) : allP k u l = shp k u := by
  have hp : pers k u l := fun a ha => by
    obtain ⟨i, hi, e⟩ := mem_getD2 ha
    rw [← e]
    exact h i (by omega)
  rw [Bool.eq_iff_iff, allP_iff]
  exact ⟨fun h => h.1, fun h => ⟨h, hp⟩⟩

set_option maxHeartbeats 1000000 in
set_option maxRecDepth 8000 in
theorem allPermitted_is (s : ByteArray) (k u h : Int) (A : Option Addr) (n c : Nat) (l : List P2) (w : World) (hl : ARd w A l) (hn : Hid (l.length = n)) (hm : Hid (n ≤ 1000)) {r : Bool} (hr : Hid (allP k u l = r)) :
    Calls Tryd.prog 60 #[ra s k u h, .slice A n c] w fun e w' => e = .returned (.bool r) ∧ Below w.heap.size w w' := by
  have HR := Lib.hid hl
  clear hl
  go_enter Tryd.func60, Tryd.ntmps60
  go_wp2
  go_loopw [6, 9] (fun p i wr => ∃ (j : Nat), j ≤ n ∧ i = .int .i64 j ∧ Hid (R4 wr w.heap.size s k u h) ∧ Hid (Below w.heap.size w wr) ∧ Hid (∀ q, q < j → per k u (l.getD q default).1 (l.getD q default).2 = true)) (fun _ i _ => n - (intOf i).toNat)
  case atStart => exact ⟨0, by omega, rfl, Q4.new _ _ _ _ _ _, newB _ _, fun q hq => by omega⟩
  case round =>
    obtain ⟨j, hj, rfl, hbx, hbl, hall⟩ := hrel
    obtain ⟨i0, i1, i2, i3, i4⟩ := hbx.out
    by_cases hlt : (j : Int) < (n : Int)
    · obtain ⟨g, o, x, y, rfl, hg, hxy, c1, c2⟩ := (HR.out.below hbl.out).at_ (i := j) (by have := hn.out; omega)
      have e5 : IntKind.i64.wrap ((j : Int) + 1) = (j : Int) + 1 := by have := hm.out; rw [IntKind.wrap_i64]; omega
      obtain ⟨v, hv⟩ : ∃ v, Hid (per k u x y = v) := ⟨_, rfl⟩
      cases v with
      | false =>
        have hend : Hid (r = false) := by show _ = _; rw [← hr.out]; exact allP_no (by have := hn.out; omega) hxy.out hv.out
        go_wp2_with (first
          | (go_at_call 75; refine (permitted_is _ _ _ _ _ _ _ hv).mono ?_; rintro e W1 ⟨rfl, hb1⟩))
        go_ret
        exact ⟨ret_bool hend.out.symm, nx (nxA hbl.out _) hb1⟩
      | true =>
        have hall2 : Hid (∀ q, q < j + 1 → per k u (l.getD q default).1 (l.getD q default).2 = true) := fun q hq => by
          by_cases e : q = j
          · subst e; rw [hxy.out]; exact hv.out
          · exact hall.out q (by omega)
        go_wp2_with (first
          | (go_at_call 75; refine (permitted_is _ _ _ _ _ _ _ hv).mono ?_; rintro e W1 ⟨rfl, hb1⟩))
        go_roundw
        case rel => exact ⟨j + 1, by omega, by go_num, (hbx.out.below (newB _ _)).below hb1, nx (nxA hbl.out _) hb1, hall2⟩
        case measure => simp [intOf]; omega
    · have hend : Hid (shp k u = r) := by show _ = _; rw [← hr.out]; exact (allP_end (n := n) hn.out (fun q hq => hall.out q (by omega))).symm
      go_wp2_with (first
        | (go_at_call 56; refine (shaped_is _ _ _ _ _ hend).mono ?_; rintro e W1 ⟨rfl, hb1⟩))
      go_ret
      exact ⟨rfl, nx hbl.out hb1⟩

theorem pers_at {k u : Int} {l : List P2} (h : pers k u l) {j : Nat} (hj : j < l.length) {x y : Int} (hx : l.getD j default = (x, y)) : per k u x y = true := by
  have := h _ (getD_mem2 hj)
  rwa [hx] at this
theorem usum_step {l : List P2} {j : Nat} (hj : j < l.length) {x y : Int} (hx : l.getD j default = (x, y)) : usum (l.take (j + 1)) = usum (l.take j) + y := by rw [take_snoc2 hj, usum_snoc, hx]
set_option maxHeartbeats 1000000 in
set_option maxRecDepth 8000 in
theorem unitsSuffice_is (u : Int) (A : Option Addr) (n c : Nat) (l : List P2) (w : World) (hl : ARd w A l) (hn : Hid (l.length = n)) (hm : Hid (n ≤ 1000)) (hp : Hid (pers 2 u l)) (hu : Hid (1 ≤ u ∧ u ≤ 8)) {r : Bool} (hr : Hid (decide (usum l ≤ u) = r)) :
    Calls Tryd.prog 62 #[.int .i64 u, .slice A n c] w fun e w' => e = .returned (.bool r) ∧ Below w.heap.size w w' := by
  have HR := Lib.hid hl
  clear hl
  go_enter Tryd.func62, Tryd.ntmps62
  go_wp2
  go_loopw [0, 6, 9] (fun t p i wr => ∃ (j : Nat) (v : Int), j ≤ n ∧ i = .int .i64 j ∧ t = .int .i64 v ∧ 0 ≤ v ∧ v ≤ 8 ∧ Hid (v = u - usum (l.take j)) ∧ Hid (Below w.heap.size w wr)) (fun _ _ i _ => n - (intOf i).toNat)
  case atStart => exact ⟨0, u, by omega, rfl, rfl, by have := hu.out; omega, by have := hu.out; omega, by show _ = _; simp [usum], Below.refl _ _⟩
  case round =>
    obtain ⟨j, v, hj, rfl, rfl, hv0, hv8, hv, hbl⟩ := hrel
    by_cases hlt : (j : Int) < (n : Int)
    · obtain ⟨g, o, x, y, rfl, hg, hxy, c1, c2⟩ := (HR.out.below hbl.out).at_ (i := j) (by have := hn.out; omega)
      have e5 : IntKind.i64.wrap ((j : Int) + 1) = (j : Int) + 1 := by have := hm.out; rw [IntKind.wrap_i64]; omega
      have hy := per_is (pers_at hp.out (j := j) (by have := hn.out; omega) hxy.out)
      have hy0 : 0 ≤ y := by omega
      have hy8 : y ≤ 8 := by omega
      clear hy
      have e6 : IntKind.i64.wrap (v - y) = v - y := by rw [IntKind.wrap_i64]; omega
      have hst : Hid (v - y = u - usum (l.take (j + 1))) := by show _ = _; rw [usum_step (by have := hn.out; omega) hxy.out, hv.out]; omega
      by_cases hneg : v - y < 0
      · have hend : Hid (r = false) := by
          show _ = _
          rw [← hr.out]
          refine decide_eq_false (fun e => ?_)
          have := usum_take hp.out (j + 1)
          have := hst.out
          omega
        go_wp2
        go_ret
        exact ⟨ret_bool hend.out.symm, nxA hbl.out _⟩
      · have hneg' : 0 ≤ v - y := by omega
        go_wp2
        go_roundw
        case rel => exact ⟨j + 1, v - y, by omega, by go_num, rfl, by omega, by omega, hst, nxA hbl.out _⟩
        case measure => simp [intOf]; omega
    · have hend : Hid (r = true) := by
        show _ = _
        rw [← hr.out]
        refine decide_eq_true ?_
        have h1 := hv.out
        rw [List.take_of_length_le (by have := hn.out; omega)] at h1
        omega
      go_wp2
      go_ret
      exact ⟨ret_bool hend.out.symm, hbl.out⟩
end Go.Proofs.YthclgccgkdijbaaDoor
