/- Contracts: Valid. -/
import Derived.Test.YtlokcmbkkfjlkaaGreatDoorRvx
namespace Go.Proofs.YtlokcmbkkfjlkaaGreatDoor
open Go.RowKit
set_option linter.unusedVariables false
set_option linter.unusedSimpArgs false

/-- A request as a value. -/
abbrev rq (k : Int) (s : ByteArray) (m u : Int) (A : Option Addr) (n c : Nat) (p t : Int) : Value := .agg #[.int .i64 k, .string s, .int .i64 m, .int .i64 u, .slice A n c, .int .i64 p, .int .i64 t]
noncomputable def vrqB (e : Ex) (p t : Int) : Bool := vexB e && (btw p 0 7 && btw t 0 1000)
theorem vrqB_iff {e : Ex} {p t : Int} : vrqB e p t = true ↔ Vrq (e, p, t) := by
  unfold vrqB btw Vrq
  rw [Bool.and_eq_true, Bool.and_eq_true, vexB_iff, decide_eq_true_iff, decide_eq_true_iff]
  simp [and_assoc]
set_option maxHeartbeats 1000000 in
set_option maxRecDepth 8000 in
theorem valid_is {e : Ex} (k : Int) (s : ByteArray) (m u : Int) (A : Option Addr) (n c : Nat) (p t : Int) (w : World) (hT : TIn (Lo w.heap.size) w ⟨k, s, m, u, A, n, c⟩ e) {r : Bool} (hr : Hid (vrqB e p t = r)) :
    Calls Tryz.prog 13 #[rq k s m u A n c p t] w fun x w' => x = .returned (.bool r) ∧ Below w.heap.size w w' := by
  have HT := Lib.hid hT
  clear hT
  obtain ⟨x1, hx1⟩ : ∃ x, Hid (vexB e = x) := ⟨_, rfl⟩
  obtain ⟨x2, hx2⟩ : ∃ x, Hid (btw p 0 7 = x) := ⟨_, rfl⟩
  obtain ⟨x3, hx3⟩ : ∃ x, Hid (btw t 0 1000 = x) := ⟨_, rfl⟩
  have hend : Hid (r = (x1 && (x2 && x3))) := by show _ = _; rw [← hr.out, ← hx1.out, ← hx2.out, ← hx3.out]; rfl
  clear hr
  cases x1 with
  | false =>
    go_enter Tryz.func13, Tryz.ntmps13
    go_wp2_with (go_at_call 11; refine (validExpr_is (e := e) k s m u A n c _ (HT.out.grow _) hx1).mono ?_; rintro x W1 ⟨rfl, hb1⟩; have HB1 := Lib.hid (dn1 hb1); clear hb1)
    go_ret
    exact ⟨ret_bool (by rw [hend.out]; rfl), HB1.out⟩
  | true =>
    cases x2 with
    | false =>
      go_enter Tryz.func13, Tryz.ntmps13
      go_wp2_with (first
        | (go_at_call 11; refine (validExpr_is (e := e) k s m u A n c _ (HT.out.grow _) hx1).mono ?_; rintro x W1 ⟨rfl, hb1⟩; obtain ⟨hc1, hf1⟩ := bcell hb1; have HB1 := Lib.hid (dn1 hb1); clear hb1)
        | (go_at_call 32; refine (within_is _ _ _ _ hx2).mono ?_; rintro x W2 ⟨rfl, rfl⟩))
      go_ret
      exact ⟨ret_bool (by rw [hend.out]; rfl), HB1.out⟩
    | true =>
      go_enter Tryz.func13, Tryz.ntmps13
      have tok : True := trivial
      go_wp2_with (first
        | (go_at_call 11; refine (validExpr_is (e := e) k s m u A n c _ (HT.out.grow _) hx1).mono ?_; rintro x W1 ⟨rfl, hb1⟩; obtain ⟨hc1, hf1⟩ := bcell hb1; have HB1 := Lib.hid (dn1 hb1); clear hb1)
        | (go_at_call 32; have _t := tok; (with_reducible refine (within_is _ _ _ _ hx2).mono ?_); rintro x W2 ⟨rfl, rfl⟩; clear tok)
        | (go_at_call 32; refine (within_is _ _ _ _ hx3).mono ?_; rintro x W2 ⟨rfl, rfl⟩))
      go_ret
      exact ⟨ret_bool (by rw [hend.out]; rfl), HB1.out⟩
end Go.Proofs.YtlokcmbkkfjlkaaGreatDoor
