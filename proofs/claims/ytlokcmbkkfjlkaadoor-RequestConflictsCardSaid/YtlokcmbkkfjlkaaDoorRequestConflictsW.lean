/- RequestConflicts walked. -/
import Derived.Test.YtlokcmbkkfjlkaaDoorRaw
import Derived.Deep.QuietTactic
import Derived.BigQuiet
namespace Go.Proofs.YtlokcmbkkfjlkaaDoor
set_option linter.unusedVariables false
set_option linter.unusedSimpArgs false
open Go.RowKit
def nm5 (i : Nat) : ByteArray := if i = 0 then ⟨#[73, 83]⟩ else if i = 1 then ⟨#[73, 88]⟩ else if i = 2 then ⟨#[83]⟩ else if i = 3 then ⟨#[83, 73, 88]⟩ else ⟨#[88]⟩
def cfT (i j : Nat) : ByteArray := ((((⟨#[97, 110, 121, 40, 97, 58]⟩ : ByteArray) ++ nm5 i) ++ ⟨#[44, 32, 98, 58, 83, 44, 32, 97, 58]⟩) ++ nm5 j) ++ ⟨#[41]⟩
def cfE (i : Nat) : Ex := .nd 1 z3 [.nd 0 (mkB [97], (i : Int) + 1, 0) [], .nd 0 (mkB [98], 3, 0) [], .nd 0 (mkB [97], (i : Int) + 1, 0) []]
def isC (n : Nat) : QR → Bool
  | .no p e => decide (p = (13 + n : Nat) ∧ e = 13)
  | .ok _ => false
theorem cf_all : ((List.range 5).all fun i => (List.range 5).all fun j => decide (i = j) || isC (nm5 i).size (pR (cfT i j))) = true := by kernel_rfl
theorem cf_no {i j : Nat} (hi : i < 5) (hj : j < 5) (h : i ≠ j) : pR (cfT i j) = .no ((13 + (nm5 i).size : Nat) : Int) 13 := by
  have := List.all_eq_true.1 (List.all_eq_true.1 cf_all i (List.mem_range.2 hi)) j (List.mem_range.2 hj)
  rw [decide_eq_false h, Bool.false_or] at this
  cases hr : pR (cfT i j) with
  | ok z => rw [hr] at this; cases this
  | no p e =>
    rw [hr] at this
    obtain ⟨rfl, rfl⟩ := of_decide_eq_true this
    rfl
theorem cf_yes {i : Nat} (hi : i < 5) : pR (cfT i i) = .ok (cfE i, 0, 0) ∧ ((surN (cfE i)).length : Int) = 4 := by
  have hc : i = 0 ∨ i = 1 ∨ i = 2 ∨ i = 3 ∨ i = 4 := by omega
  rcases hc with rfl | rfl | rfl | rfl | rfl
  · exact ⟨by kernel_rfl, by kernel_rfl⟩
  · exact ⟨by kernel_rfl, by kernel_rfl⟩
  · exact ⟨by kernel_rfl, by kernel_rfl⟩
  · exact ⟨by kernel_rfl, by kernel_rfl⟩
  · exact ⟨by kernel_rfl, by kernel_rfl⟩
theorem nm5_inj {i j : Nat} (hi : i < 5) (hj : j < 5) (h : nm5 i = nm5 j) : i = j := by
  have := List.all_eq_true.1 (List.all_eq_true.1 (show ((List.range 5).all fun i => (List.range 5).all fun j => decide (i = j) || !decide (nm5 i = nm5 j)) = true by kernel_rfl) i (List.mem_range.2 hi)) j (List.mem_range.2 hj)
  rw [decide_eq_true h, Bool.not_true, Bool.or_false] at this
  exact of_decide_eq_true this
theorem nm5_size (i : Nat) : (nm5 i).size ≤ 3 := by
  unfold nm5
  repeat (first | decide | split)
theorem mod5_is (n : Int) (w : World) (hn : (Lit.int .i64 n).wf = true) {i : Nat} (hi : Hid (n % 5 = (i : Int))) : Calls Tryd.prog 9 #[.int .i64 n, .int .i64 5] w fun e w' => e = .returned (.int .i64 (i : Int)) ∧ w = w' := by
  have hwf : -9223372036854775808 ≤ n ∧ n ≤ 9223372036854775807 := by
    have h := Bool.and_eq_true_iff.1 hn
    have h1 : (-9223372036854775808 : Int) ≤ n := of_decide_eq_true h.1
    have h2 : n ≤ (9223372036854775807 : Int) := of_decide_eq_true h.2
    exact ⟨h1, h2⟩
  have h5 : 0 ≤ n % 5 ∧ n % 5 < 5 := by omega
  by_cases hneg : n < 0 ∧ n % 5 ≠ 0
  · have e1 : n.tmod 5 = n % 5 - 5 := by
      rw [Int.tmod_eq_emod]
      split
      · omega
      · simp
    have e2 : IntKind.i64.wrap (n % 5 - 5 + 5) = n % 5 := by rw [IntKind.wrap_i64]; omega
    have q1 : n % 5 - 5 < 0 := by omega
    obtain ⟨x, hx⟩ : ∃ x, Hid (n % 5 - 5 = x) := ⟨_, rfl⟩
    rw [hx.out] at e1 q1 e2
    have hfin : Hid (n % 5 = (i : Int)) := hi
    clear hi hneg h5 hn hwf
    go_enter Tryd.func9, Tryd.ntmps9
    go_wp2
    go_ret
    exact ⟨by rw [← hfin.out]; rfl, rfl⟩
  · have e1 : n.tmod 5 = n % 5 := by
      rw [Int.tmod_eq_emod]
      split
      · omega
      · simp
        omega
    have q1 : ¬ n % 5 < 0 := by omega
    obtain ⟨x, hx⟩ : ∃ x, Hid (n % 5 = x) := ⟨_, rfl⟩
    rw [hx.out] at e1 q1
    have hfin : Hid (x = (i : Int)) := by show _ = _; rw [← hx.out]; exact hi.out
    clear hi hneg h5 hn hwf
    go_enter Tryd.func9, Tryd.ntmps9
    go_wp2
    go_ret
    exact ⟨by rw [← hfin.out]; rfl, rfl⟩
set_option maxHeartbeats 8000000 in
set_option maxRecDepth 100000 in
theorem RequestConflicts_walk (a0 a1 : Int) (w : World) (hV : VR w) (w0 : (Lit.int .i64 a0).wf = true) (w1 : (Lit.int .i64 a1).wf = true) :
    Calls Tryd.prog 4 #[.int .i64 a0, .int .i64 a1] w fun e w' => e = .returned (.bool true) ∧ Below w.heap.size w w' := by
  have HV := Lib.hid hV
  have W0 := Lib.hid w0
  have W1' := Lib.hid w1
  clear hV w0 w1
  obtain ⟨i, hi⟩ : ∃ i : Nat, Hid (a0 % 5 = (i : Int)) := ⟨(a0 % 5).toNat, by show _ = _; omega⟩
  obtain ⟨j, hj⟩ : ∃ j : Nat, Hid (a1 % 5 = (j : Int)) := ⟨(a1 % 5).toNat, by show _ = _; omega⟩
  have hi5 : i < 5 := by have := hi.out; omega
  have hj5 : j < 5 := by have := hj.out; omega
  have hcell : ∀ i, i < 5 → (w.alloc (.cells #[.string ⟨#[73, 83]⟩, .string ⟨#[73, 88]⟩, .string ⟨#[83]⟩, .string ⟨#[83, 73, 88]⟩, .string ⟨#[88]⟩] 9)).cell? ⟨w.heap.size, i, none⟩ = some (.string (nm5 i)) := fun i h => by
    have hc : i = 0 ∨ i = 1 ∨ i = 2 ∨ i = 3 ∨ i = 4 := by omega
    rcases hc with rfl | rfl | rfl | rfl | rfl <;> simp [nm5]
  have ci := hcell i hi5
  have cj := hcell j hj5
  have hyes := fun (h : i = j) => cf_yes hi5
  have hno := fun (h : i ≠ j) => cf_no hi5 hj5 h
  have hinj := fun (h : nm5 i = nm5 j) => nm5_inj hi5 hj5 h
  have hX3 := nm5_size i
  have hY3 := nm5_size j
  unfold cfT at hyes hno
  obtain ⟨X, hX⟩ : ∃ X, Hid (nm5 i = X) := ⟨_, rfl⟩
  obtain ⟨Y, hY⟩ : ∃ Y, Hid (nm5 j = Y) := ⟨_, rfl⟩
  rw [hX.out] at ci hX3 hno hyes hinj
  rw [hY.out] at cj hY3 hno hinj
  have q1 : (i : Int) < 5 := by omega
  have q2 : (j : Int) < 5 := by omega
  have m1 : ¬ 9223372036854775807 < 6 + X.size := by omega
  have m2 : ¬ 9223372036854775807 < 6 + X.size + 9 := by omega
  have m3 : ¬ 9223372036854775807 < 6 + X.size + 9 + Y.size := by omega
  have m4 : ¬ 9223372036854775807 < 6 + X.size + 9 + Y.size + 1 := by omega
  have m5 : ¬ 9223372036854775807 < 6 + X.size + 7 := by omega
  clear hcell hX3 hY3
  by_cases hij : i = j
  · have hxy : X = Y := by rw [← hX.out, ← hY.out, hij]
    obtain ⟨hp, hn⟩ := hyes hij
    subst hxy
    have hx := Lib.hid hp
    have HN := Lib.hid hn
    have b1 : (X.toList != X.toList) = false := by simp
    clear hyes hno hinj hp hn hij
    go_enter Tryd.func4, Tryd.ntmps4
    go_wp2
    go_quiet ((first
      | (go_at_call 9; (with_reducible exact Calls.quiet_of_same ((mod5_is a0 _ W0.out hi).mono fun _ _ ⟨p1, p2⟩ => ⟨p1, p2.symm⟩)))
      | (go_at_call 9; exact Calls.quiet_of_same ((mod5_is a1 _ W1'.out hj).mono fun _ _ ⟨p1, p2⟩ => ⟨p1, p2.symm⟩))))
    have HB0 := Lib.hid (bdN (newB w (.cells #[.string ⟨#[73, 83]⟩, .string ⟨#[73, 88]⟩, .string ⟨#[83]⟩, .string ⟨#[83, 73, 88]⟩, .string ⟨#[88]⟩] 9)) nq)
    go_wp2_with (first
      | (go_at_call 6; refine (parse_is _ _ (HV.out.below HB0.out).1 hx).mono ?_; rintro e W1 ⟨⟨k', s', m', u', A', n', c', rfl, ht⟩, hb1⟩; have HK1 := Lib.hid (Blk.new W1 [.int .i64 k', .string s', .int .i64 m', .int .i64 u', .slice A' n' c', .int .i64 0, .int .i64 0] 31 rfl); have HT1 : Hid (TIn (Lo W1.heap.size) W1 ⟨k', s', m', u', A', n', c'⟩ (cfE i)) := ht; have HB1 := Lib.hid (nx HB0.out hb1); clear hb1 ht)
      | (go_at_call 5; refine (awake_any _ (HV.out.below (nx HB1.out (newB _ _)))).mono ?_; rintro e W2 ⟨rfl, hb2⟩; have hk2 := HK1.out.up hb2 (by simp); obtain ⟨x0, x1, x2, x3, x4, x5, x6⟩ := hk2.s7; have HT2 := Lib.hid ((HT1.out.grow _).up hb2); have HB2 := Lib.hid (nx HB1.out (dn1 hb2)); clear hb2 hk2)
      | (go_at_call 8; refine (nodes_is (e := cfE i) k' s' m' u' A' n' c' _ HT2.out HN).mono ?_; rintro e W4 ⟨rfl, hb4⟩; have HB4 := Lib.hid (nx HB2.out hb4); clear hb4))
    go_ret
    exact ⟨by simp, HB4.out⟩
  · have hxy : X ≠ Y := fun h => hij (hinj h)
    have hx := Lib.hid (hno hij)
    have b0 : (X.toList == Y.toList) = false := eqS_no.2 hxy
    have b1 : (X.toList != Y.toList) = true := by rw [bne, b0]; rfl
    clear hyes hno hinj hij hxy
    go_enter Tryd.func4, Tryd.ntmps4
    go_wp2
    go_quiet ((first
      | (go_at_call 9; (with_reducible exact Calls.quiet_of_same ((mod5_is a0 _ W0.out hi).mono fun _ _ ⟨p1, p2⟩ => ⟨p1, p2.symm⟩)))
      | (go_at_call 9; exact Calls.quiet_of_same ((mod5_is a1 _ W1'.out hj).mono fun _ _ ⟨p1, p2⟩ => ⟨p1, p2.symm⟩))))
    have HB0 := Lib.hid (bdN (newB w (.cells #[.string ⟨#[73, 83]⟩, .string ⟨#[73, 88]⟩, .string ⟨#[83]⟩, .string ⟨#[83, 73, 88]⟩, .string ⟨#[88]⟩] 9)) nq)
    go_wp2_with (first
      | (go_at_call 6; refine (parse_is _ _ (HV.out.below HB0.out).1 hx).mono ?_; rintro e W1 ⟨rfl, hb1⟩; have HB1 := Lib.hid (nx HB0.out hb1); clear hb1)
      | (go_at_call 5; refine (awake_any _ (HV.out.below (nx HB1.out (newB _ _)))).mono ?_; rintro e W2 ⟨rfl, hb2⟩; have HB2 := Lib.hid (nx HB1.out (dn1 hb2)); clear hb2))
    go_ret
    exact ⟨ret_bool (by simp; omega), HB2.out⟩
end Go.Proofs.YtlokcmbkkfjlkaaDoor
