/- Contracts: which resources are shaped, which amounts are zero, fit, are permitted. -/
import Derived.Test.YtfcekfdoafpmoaaMcmp
import Derived.Test.YtfcekfdoafpmoaaAd
import Derived.Laws.StructEq
namespace Go.Proofs.Ytfcekfdoafpmoaa
open Go.RowKit
set_option linter.unusedSimpArgs false
set_option linter.unusedVariables false

/-! ### Worlds that have only grown -/
theorem new2 (w : World) (o p : Obj) : Below w.heap.size w ((w.alloc o).alloc p) := nxA (newB w o) p
theorem new3 (w : World) (o p q : Obj) : Below w.heap.size w (((w.alloc o).alloc p).alloc q) := nxA (new2 w o p) q
theorem new4 (w : World) (o p q r : Obj) : Below w.heap.size w ((((w.alloc o).alloc p).alloc q).alloc r) := nxA (new3 w o p q) r
theorem bcell {W w1 : World} (hb : Below W.heap.size W w1) : (∀ b o, b < W.heap.size → w1.cell? ⟨b, o, none⟩ = W.cell? ⟨b, o, none⟩) ∧ (∀ b o, b < W.heap.size → w1.frozen? ⟨b, o, none⟩ = W.frozen? ⟨b, o, none⟩) :=
  ⟨fun b o h => hb.cell (p := ⟨b, o, none⟩) h, fun b o h => hb.frozen (p := ⟨b, o, none⟩) h⟩
/-- Below a tower of new blocks is below what it stands on. -/
theorem dn1 {w W : World} {o : Obj} (h : Below (w.alloc o).heap.size (w.alloc o) W) : Below w.heap.size w W := nx (newB w o) h
theorem dn2 {w W : World} {o p : Obj} (h : Below ((w.alloc o).alloc p).heap.size ((w.alloc o).alloc p) W) : Below w.heap.size w W := nx (new2 w o p) h
theorem dn3 {w W : World} {o p q : Obj} (h : Below (((w.alloc o).alloc p).alloc q).heap.size (((w.alloc o).alloc p).alloc q) W) : Below w.heap.size w W := nx (new3 w o p q) h
theorem dn4 {w W : World} {o p q r : Obj} (h : Below ((((w.alloc o).alloc p).alloc q).alloc r).heap.size ((((w.alloc o).alloc p).alloc q).alloc r) W) : Below w.heap.size w W := nx (new4 w o p q r) h

abbrev ra (s : ByteArray) (k u h : Int) : Value := .agg #[.string s, .int .i64 k, .int .i64 u, .int .i64 h]
abbrev aa (m n : Int) : Value := .agg #[.int .i64 m, .int .i64 n]

theorem eqAm (x y a b : Int) (w : World) : (binOp .eql 26 (.agg #[.int .i64 x, .int .i64 y]) (.agg #[.int .i64 a, .int .i64 b])).run Try.prog w = .ok (.bool (decide (x = a ∧ y = b))) w := by
  have u3 := Try.underlying3
  have hS : Try.prog.underlying 26 = some (.struct (Try.prog.fieldsOf 26)) := by kernel_rfl
  have hp : Try.prog.stoodInHeld 26 = false := by kernel_rfl
  rw [run_eql_struct, show (10000 : Nat) = 9999 + 1 from rfl, run_equalIn_agg w 9999 26 _ _ hS hp]
  simp only [Program.fieldsOf, Try.underlying26]
  go_simp
  by_cases h1 : x = a <;> by_cases h2 : y = b <;> simp [h1, h2]

theorem pu_any (n : Int) (w : World) : Calls Try.prog 48 #[.int .i64 n] w fun e w' => e = .returned (.bool (pu n)) ∧ w = w' := by
  obtain ⟨r, hr⟩ : ∃ r, Hid (pu n = r) := ⟨_, rfl⟩
  rw [hr.out]
  go_enter Try.func48, Try.ntmps48
  go_wp2
  all_goals (go_ret; have h := hr.out; unfold pu at h; clear hr; refine ⟨ret_bool ?_, rfl⟩; subst h; (try simp only [beq_iff_eq, beq_eq_false_iff_ne, ne_eq] at *); rw [Bool.eq_iff_iff]; simp; omega)
theorem shaped_any (s : ByteArray) (k u h : Int) (w : World) : Calls Try.prog 46 #[ra s k u h] w fun e w' => e = .returned (.bool (shp k u)) ∧ Below w.heap.size w w' := by
  obtain ⟨r, hr⟩ : ∃ r, Hid (shp k u = r) := ⟨_, rfl⟩
  rw [hr.out]
  go_enter Try.func46, Try.ntmps46
  go_wp2_with (first
    | (go_at_call 48; refine (pu_any _ _).mono ?_; rintro e W1 ⟨rfl, rfl⟩))
  all_goals (go_ret; have h := hr.out; unfold shp at h; clear hr; refine ⟨ret_bool ?_, newB _ _⟩; subst h; (try simp only [beq_iff_eq, beq_eq_false_iff_ne, ne_eq, pu] at *); rw [Bool.eq_iff_iff]; simp; omega)
set_option maxHeartbeats 1000000 in
theorem fits_any (s : ByteArray) (k u h m n : Int) (w : World) : Calls Try.prog 43 #[ra s k u h, aa m n] w fun e w' => e = .returned (.bool (fit k u m n)) ∧ Below w.heap.size w w' := by
  obtain ⟨r, hr⟩ : ∃ r, Hid (fit k u m n = r) := ⟨_, rfl⟩
  rw [hr.out]
  go_enter Try.func43, Try.ntmps43
  go_wp2_with (first
    | (go_at_call 46; refine (shaped_any _ _ _ _ _).mono ?_; rintro e W1 ⟨rfl, hb1⟩; obtain ⟨hc1, hf1⟩ := bcell hb1)
    | (go_at_call 47; refine (valid_any _ _).mono ?_; rintro e W2 ⟨rfl, rfl⟩))
  all_goals (go_ret; have h := hr.out; unfold fit at h; clear hr; refine ⟨ret_bool ?_, by first | exact dn2 hb1 | exact new2 _ _ _⟩; subst h; (try simp only [beq_iff_eq, beq_eq_false_iff_ne, ne_eq, shp, vmd, decide_eq_true_eq, decide_eq_false_iff_not] at *); rw [Bool.eq_iff_iff]; simp; omega)
theorem fits_is (s : ByteArray) (k u h m n : Int) (w : World) {r : Bool} (hr : Hid (fit k u m n = r)) : Calls Try.prog 43 #[ra s k u h, aa m n] w fun e w' => e = .returned (.bool r) ∧ Below w.heap.size w w' := by
  rw [← hr.out]; exact fits_any s k u h m n w
theorem shaped_is (s : ByteArray) (k u h : Int) (w : World) {r : Bool} (hr : Hid (shp k u = r)) : Calls Try.prog 46 #[ra s k u h] w fun e w' => e = .returned (.bool r) ∧ Below w.heap.size w w' := by
  rw [← hr.out]; exact shaped_any s k u h w
end Go.Proofs.Ytfcekfdoafpmoaa
