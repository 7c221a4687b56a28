/- Contracts: classes of bytes, of both sides; worlds below towers of new blocks. -/
import Derived.Test.YtlokcmbkkfjlkaaGreatDoorProg
import Derived.Test.YtlokcmbkkfjlkaaGreatDoorLd
import Derived.Test.YtlokcmbkkfjlkaaGreatDoorIdn
import Derived.WalkKit
import Derived.Lib.Hide
import Derived.WalkLawsBesides
import Derived.KernelRfl
import Derived.ChangeBears2
import Derived.Deep.RegionHeld3
import Derived.BigQuiet
import Derived.Deep.QuietTactic
import Derived.Laws.StructEq
namespace Go.Proofs.YtlokcmbkkfjlkaaGreatDoor
open Go.RowKit
set_option linter.unusedSimpArgs false
set_option linter.unusedVariables false

theorem new2 (w : World) (o p : Obj) : Below w.heap.size w ((w.alloc o).alloc p) := nxA (newB w o) p
theorem bcell {W w1 : World} (hb : Below W.heap.size W w1) : (∀ b o, b < W.heap.size → w1.cell? ⟨b, o, none⟩ = W.cell? ⟨b, o, none⟩) ∧ (∀ b o, b < W.heap.size → w1.frozen? ⟨b, o, none⟩ = W.frozen? ⟨b, o, none⟩) :=
  ⟨fun b o h => hb.cell (p := ⟨b, o, none⟩) h, fun b o h => hb.frozen (p := ⟨b, o, none⟩) h⟩
theorem dn1 {w W : World} {o : Obj} (h : Below (w.alloc o).heap.size (w.alloc o) W) : Below w.heap.size w W := nx (newB w o) h
theorem bdD {B : Nat} {a w : World} (h : Below B a w) : Below B a w.drew := ⟨h.os, h.tape, h.output, h.size, h.block⟩

/-! ### Classes -/
theorem spc_any (c : Int) (w : World) : Calls Tryz.prog 80 #[.int .u8 c] w fun e w' => e = .returned (.bool (spc c)) ∧ w = w' := by
  obtain ⟨r, hr⟩ : ∃ r, Hid (spc c = r) := ⟨_, rfl⟩
  rw [hr.out]
  go_enter Tryz.func80, Tryz.ntmps80
  go_wp2
  all_goals (go_ret; have h := hr.out; unfold spc at h; clear hr; refine ⟨ret_bool ?_, rfl⟩; subst h; (try simp only [beq_iff_eq, beq_eq_false_iff_ne, ne_eq] at *); rw [Bool.eq_iff_iff]; simp; omega)
theorem refSpc_any (c : Int) (w : World) : Calls Tryz.prog 46 #[.int .u8 c] w fun e w' => e = .returned (.bool (spc c)) ∧ w = w' := by
  obtain ⟨r, hr⟩ : ∃ r, Hid (spc c = r) := ⟨_, rfl⟩
  rw [hr.out]
  go_enter Tryz.func46, Tryz.ntmps46
  go_wp2
  all_goals (go_ret; have h := hr.out; unfold spc at h; clear hr; refine ⟨ret_bool ?_, rfl⟩; subst h; (try simp only [beq_iff_eq, beq_eq_false_iff_ne, ne_eq] at *); rw [Bool.eq_iff_iff]; simp; omega)
theorem ltr_any (c : Int) (w : World) : Calls Tryz.prog 100 #[.int .u8 c] w fun e w' => e = .returned (.bool (ltr c)) ∧ w = w' := by
  obtain ⟨r, hr⟩ : ∃ r, Hid (ltr c = r) := ⟨_, rfl⟩
  rw [hr.out]
  go_enter Tryz.func100, Tryz.ntmps100
  go_wp2
  all_goals (go_ret; have h := hr.out; unfold ltr at h; clear hr; refine ⟨ret_bool ?_, rfl⟩; subst h; (try simp only [beq_iff_eq, beq_eq_false_iff_ne, ne_eq] at *); rw [Bool.eq_iff_iff]; simp; omega)
theorem refLtr_any (c : Int) (w : World) : Calls Tryz.prog 47 #[.int .u8 c] w fun e w' => e = .returned (.bool (ltr c)) ∧ w = w' := by
  obtain ⟨r, hr⟩ : ∃ r, Hid (ltr c = r) := ⟨_, rfl⟩
  rw [hr.out]
  go_enter Tryz.func47, Tryz.ntmps47
  go_wp2
  all_goals (go_ret; have h := hr.out; unfold ltr at h; clear hr; refine ⟨ret_bool ?_, rfl⟩; subst h; (try simp only [beq_iff_eq, beq_eq_false_iff_ne, ne_eq] at *); rw [Bool.eq_iff_iff]; simp; omega)
theorem cpl_any (c : Int) (w : World) : Calls Tryz.prog 102 #[.int .u8 c] w fun e w' => e = .returned (.bool (cpl c)) ∧ w = w' := by
  obtain ⟨r, hr⟩ : ∃ r, Hid (cpl c = r) := ⟨_, rfl⟩
  rw [hr.out]
  go_enter Tryz.func102, Tryz.ntmps102
  go_wp2
  all_goals (go_ret; have h := hr.out; unfold cpl at h; clear hr; refine ⟨ret_bool ?_, rfl⟩; subst h; (try simp only [beq_iff_eq, beq_eq_false_iff_ne, ne_eq] at *); rw [Bool.eq_iff_iff]; simp; omega)
theorem dig_any (c : Int) (w : World) : Calls Tryz.prog 104 #[.int .u8 c] w fun e w' => e = .returned (.bool (dig c)) ∧ w = w' := by
  obtain ⟨r, hr⟩ : ∃ r, Hid (dig c = r) := ⟨_, rfl⟩
  rw [hr.out]
  go_enter Tryz.func104, Tryz.ntmps104
  go_wp2
  all_goals (go_ret; have h := hr.out; unfold dig at h; clear hr; refine ⟨ret_bool ?_, rfl⟩; subst h; (try simp only [beq_iff_eq, beq_eq_false_iff_ne, ne_eq] at *); rw [Bool.eq_iff_iff]; simp; omega)
theorem pun_any (c : Int) (w : World) : Calls Tryz.prog 106 #[.int .u8 c] w fun e w' => e = .returned (.bool (pun c)) ∧ w = w' := by
  obtain ⟨r, hr⟩ : ∃ r, Hid (pun c = r) := ⟨_, rfl⟩
  rw [hr.out]
  go_enter Tryz.func106, Tryz.ntmps106
  go_wp2
  all_goals (go_ret; have h := hr.out; unfold pun at h; clear hr; refine ⟨ret_bool ?_, rfl⟩; subst h; (try simp only [beq_iff_eq, beq_eq_false_iff_ne, ne_eq] at *); rw [Bool.eq_iff_iff]; simp; omega)
theorem prt_any (c : Int) (w : World) : Calls Tryz.prog 117 #[.int .u8 c] w fun e w' => e = .returned (.bool (prt c)) ∧ w = w' := by
  obtain ⟨r, hr⟩ : ∃ r, Hid (prt c = r) := ⟨_, rfl⟩
  rw [hr.out]
  go_enter Tryz.func117, Tryz.ntmps117
  go_wp2_with (first
    | (go_at_call 100; refine (ltr_any _ _).mono ?_; rintro e W1 ⟨rfl, rfl⟩)
    | (go_at_call 104; refine (dig_any _ _).mono ?_; rintro e W2 ⟨rfl, rfl⟩))
  all_goals (go_ret; have h := hr.out; unfold prt at h; clear hr; refine ⟨ret_bool ?_, rfl⟩; subst h; (try simp only [beq_iff_eq, beq_eq_false_iff_ne, ne_eq, ltr, dig, decide_eq_true_eq, decide_eq_false_iff_not] at *); rw [Bool.eq_iff_iff]; simp; omega)
theorem refPrt_any (c : Int) (w : World) : Calls Tryz.prog 48 #[.int .u8 c] w fun e w' => e = .returned (.bool (prt c)) ∧ w = w' := by
  obtain ⟨r, hr⟩ : ∃ r, Hid (prt c = r) := ⟨_, rfl⟩
  rw [hr.out]
  go_enter Tryz.func48, Tryz.ntmps48
  go_wp2_with (first | (go_at_call 47; refine (refLtr_any _ _).mono ?_; rintro e W1 ⟨rfl, rfl⟩))
  all_goals (go_ret; have h := hr.out; unfold prt at h; clear hr; refine ⟨ret_bool ?_, rfl⟩; subst h; (try simp only [beq_iff_eq, beq_eq_false_iff_ne, ne_eq, ltr, decide_eq_true_eq, decide_eq_false_iff_not] at *); rw [Bool.eq_iff_iff]; simp; omega)
theorem byt_at (s : ByteArray) (k : Nat) (h : k < s.size) : ((s[k]'h).toNat : Int) = byt s k := by
  have hb : s.data.toList[k]? = some s[k] := by
    rw [List.getElem?_eq_getElem (by simpa using h)]
    rfl
  unfold byt
  rw [List.getD_eq_getElem?_getD, hb]
  rfl

theorem spc_is (c : Int) (w : World) {r : Bool} (hr : Hid (spc c = r)) : Calls Tryz.prog 80 #[.int .u8 c] w fun e w' => e = .returned (.bool r) ∧ w = w' := by rw [← hr.out]; exact spc_any c w
theorem refSpc_is (c : Int) (w : World) {r : Bool} (hr : Hid (spc c = r)) : Calls Tryz.prog 46 #[.int .u8 c] w fun e w' => e = .returned (.bool r) ∧ w = w' := by rw [← hr.out]; exact refSpc_any c w
theorem ltr_is (c : Int) (w : World) {r : Bool} (hr : Hid (ltr c = r)) : Calls Tryz.prog 100 #[.int .u8 c] w fun e w' => e = .returned (.bool r) ∧ w = w' := by rw [← hr.out]; exact ltr_any c w
theorem refLtr_is (c : Int) (w : World) {r : Bool} (hr : Hid (ltr c = r)) : Calls Tryz.prog 47 #[.int .u8 c] w fun e w' => e = .returned (.bool r) ∧ w = w' := by rw [← hr.out]; exact refLtr_any c w
theorem cpl_is (c : Int) (w : World) {r : Bool} (hr : Hid (cpl c = r)) : Calls Tryz.prog 102 #[.int .u8 c] w fun e w' => e = .returned (.bool r) ∧ w = w' := by rw [← hr.out]; exact cpl_any c w
theorem dig_is (c : Int) (w : World) {r : Bool} (hr : Hid (dig c = r)) : Calls Tryz.prog 104 #[.int .u8 c] w fun e w' => e = .returned (.bool r) ∧ w = w' := by rw [← hr.out]; exact dig_any c w
theorem pun_is (c : Int) (w : World) {r : Bool} (hr : Hid (pun c = r)) : Calls Tryz.prog 106 #[.int .u8 c] w fun e w' => e = .returned (.bool r) ∧ w = w' := by rw [← hr.out]; exact pun_any c w
theorem refPrt_is (c : Int) (w : World) {r : Bool} (hr : Hid (prt c = r)) : Calls Tryz.prog 48 #[.int .u8 c] w fun e w' => e = .returned (.bool r) ∧ w = w' := by rw [← hr.out]; exact refPrt_any c w
end Go.Proofs.YtlokcmbkkfjlkaaGreatDoor
