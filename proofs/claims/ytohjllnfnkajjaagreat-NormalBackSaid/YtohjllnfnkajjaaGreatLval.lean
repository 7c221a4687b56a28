/- Contracts: classes of bytes, of both sides; worlds below towers of new blocks. -/
import Derived.Test.YtohjllnfnkajjaaGreatProg
import Derived.Test.YtohjllnfnkajjaaGreatLd
import Derived.Test.YtohjllnfnkajjaaGreatIdn
import Derived.WalkKit
import Derived.Lib.Hide
import Derived.WalkLawsBesides
import Derived.KernelRfl
import Derived.ChangeBears2
import Derived.Deep.RegionHeld3
import Derived.BigQuiet
import Derived.Deep.QuietTactic
import Derived.Laws.StructEq
namespace Go.Proofs.YtohjllnfnkajjaaGreat
open Go.RowKit
set_option linter.unusedSimpArgs false
set_option linter.unusedVariables false

theorem new2 (w : World) (o p : Obj) : Below w.heap.size w ((w.alloc o).alloc p) := nxA (newB w o) p
theorem bcell {W w1 : World} (hb : Below W.heap.size W w1) : (∀ b o, b < W.heap.size → w1.cell? ⟨b, o, none⟩ = W.cell? ⟨b, o, none⟩) ∧ (∀ b o, b < W.heap.size → w1.frozen? ⟨b, o, none⟩ = W.frozen? ⟨b, o, none⟩) :=
  ⟨fun b o h => hb.cell (p := ⟨b, o, none⟩) h, fun b o h => hb.frozen (p := ⟨b, o, none⟩) h⟩
theorem dn1 {w W : World} {o : Obj} (h : Below (w.alloc o).heap.size (w.alloc o) W) : Below w.heap.size w W := nx (newB w o) h
theorem bdD {B : Nat} {a w : World} (h : Below B a w) : Below B a w.drew := ⟨h.os, h.tape, h.output, h.size, h.block⟩

/-! ### Classes -/
theorem refLtr_any (c : Int) (w : World) : Calls Tryz.prog 111 #[.int .u8 c] w fun e w' => e = .returned (.bool (ltr c)) ∧ w = w' := by
  obtain ⟨r, hr⟩ : ∃ r, Hid (ltr c = r) := ⟨_, rfl⟩
  rw [hr.out]
  go_enter Tryz.func111, Tryz.ntmps111
  go_wp2
  all_goals (go_ret; have h := hr.out; unfold ltr at h; clear hr; refine ⟨ret_bool ?_, rfl⟩; subst h; (try simp only [beq_iff_eq, beq_eq_false_iff_ne, ne_eq] at *); rw [Bool.eq_iff_iff]; simp; omega)
theorem refPrt_any (c : Int) (w : World) : Calls Tryz.prog 113 #[.int .u8 c] w fun e w' => e = .returned (.bool (prt c)) ∧ w = w' := by
  obtain ⟨r, hr⟩ : ∃ r, Hid (prt c = r) := ⟨_, rfl⟩
  rw [hr.out]
  go_enter Tryz.func113, Tryz.ntmps113
  go_wp2_with (first | (go_at_call 111; refine (refLtr_any _ _).mono ?_; rintro e W1 ⟨rfl, rfl⟩))
  all_goals (go_ret; have h := hr.out; unfold prt at h; clear hr; refine ⟨ret_bool ?_, rfl⟩; subst h; (try simp only [beq_iff_eq, beq_eq_false_iff_ne, ne_eq, ltr, decide_eq_true_eq, decide_eq_false_iff_not] at *); rw [Bool.eq_iff_iff]; simp; omega)
theorem byt_at (s : ByteArray) (k : Nat) (h : k < s.size) : ((s[k]'h).toNat : Int) = byt s k := by
  have hb : s.data.toList[k]? = some s[k] := by
    rw [List.getElem?_eq_getElem (by simpa using h)]
    rfl
  unfold byt
  rw [List.getD_eq_getElem?_getD, hb]
  rfl

theorem refLtr_is (c : Int) (w : World) {r : Bool} (hr : Hid (ltr c = r)) : Calls Tryz.prog 111 #[.int .u8 c] w fun e w' => e = .returned (.bool r) ∧ w = w' := by rw [← hr.out]; exact refLtr_any c w
theorem refPrt_is (c : Int) (w : World) {r : Bool} (hr : Hid (prt c = r)) : Calls Tryz.prog 113 #[.int .u8 c] w fun e w' => e = .returned (.bool r) ∧ w = w' := by rw [← hr.out]; exact refPrt_any c w
end Go.Proofs.YtohjllnfnkajjaaGreat
