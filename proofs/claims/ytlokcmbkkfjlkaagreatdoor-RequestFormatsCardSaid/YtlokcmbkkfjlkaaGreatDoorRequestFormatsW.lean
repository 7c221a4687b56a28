/- RequestFormats walked. -/
import Derived.Test.YtlokcmbkkfjlkaaGreatDoorRaw
import Derived.Test.YtlokcmbkkfjlkaaGreatDoorRtr
namespace Go.Proofs.YtlokcmbkkfjlkaaGreatDoor
set_option linter.unusedVariables false
set_option linter.unusedSimpArgs false
open Go.RowKit
noncomputable def fmR (e : Ex) (p t : Int) : ByteArray := @ite _ (Vrq (e, p, t)) (Classical.propDecidable _) (mkB (txR (e, p, t))) ⟨#[]⟩
noncomputable def fmX (e : Ex) : ByteArray := @ite _ (Vex e) (Classical.propDecidable _) (mkB e.txt) ⟨#[]⟩
section
variable {e : Ex} (k : Int) (s : ByteArray) (m u : Int) (A : Option Addr) (n c : Nat) (p t : Int) (w : World)
theorem format_an {r : ByteArray} (hV : VR w) (hT : TIn (Lo w.heap.size) w ⟨k, s, m, u, A, n, c⟩ e) (hr : Hid (fmR e p t = r)) : Calls Tryz.prog 18 #[rq k s m u A n c p t] w fun x w' => x = .returned (.string r) ∧ Below w.heap.size w w' := by
  have h := hr.out
  unfold fmR at h
  by_cases hv : Vrq (e, p, t)
  · rw [if_pos hv] at h
    exact format_yes k s m u A n c p t w hV hT (Lib.hid hv) (Lib.hid h)
  · rw [if_neg hv] at h
    rw [← h]
    exact format_no k s m u A n c p t w hT (Lib.hid hv)
theorem refFormat_an {r : ByteArray} (hT : TIn (Lo w.heap.size) w ⟨k, s, m, u, A, n, c⟩ e) (hr : Hid (fmR e p t = r)) : Calls Tryz.prog 19 #[rq k s m u A n c p t] w fun x w' => x = .returned (.string r) ∧ Below w.heap.size w w' := by
  have h := hr.out
  unfold fmR at h
  by_cases hv : Vrq (e, p, t)
  · rw [if_pos hv] at h
    exact refFormat_yes k s m u A n c p t w hT (Lib.hid hv) (Lib.hid h)
  · rw [if_neg hv] at h
    rw [← h]
    exact refFormat_no k s m u A n c p t w hT (Lib.hid hv)
theorem formatExpr_an {r : ByteArray} (hV : VR w) (hT : TIn (Lo w.heap.size) w ⟨k, s, m, u, A, n, c⟩ e) (hr : Hid (fmX e = r)) : Calls Tryz.prog 20 #[xe k s m u A n c] w fun x w' => x = .returned (.string r) ∧ Below w.heap.size w w' := by
  have h := hr.out
  unfold fmX at h
  by_cases hv : Vex e
  · rw [if_pos hv] at h
    exact formatExpr_yes k s m u A n c w hV hT (Lib.hid hv) (Lib.hid h)
  · rw [if_neg hv] at h
    rw [← h]
    exact formatExpr_no k s m u A n c w hT (Lib.hid hv)
theorem refFormatExpr_an {r : ByteArray} (hT : TIn (Lo w.heap.size) w ⟨k, s, m, u, A, n, c⟩ e) (hr : Hid (fmX e = r)) : Calls Tryz.prog 21 #[xe k s m u A n c] w fun x w' => x = .returned (.string r) ∧ Below w.heap.size w w' := by
  have h := hr.out
  unfold fmX at h
  by_cases hv : Vex e
  · rw [if_pos hv] at h
    exact refFormatExpr_yes k s m u A n c w hT (Lib.hid hv) (Lib.hid h)
  · rw [if_neg hv] at h
    rw [← h]
    exact refFormatExpr_no k s m u A n c w hT (Lib.hid hv)
end
set_option maxHeartbeats 4000000 in
set_option maxRecDepth 100000 in
theorem RequestFormats_walk (k0 : Int) (s0 : ByteArray) (m0 u0 : Int) (A0 : Option Addr) (n0 c0 : Nat) (p0 t0 : Int) (e0 : Ex) (w : World) (hV : VR w) (T0 : TIn (Lo w.heap.size) w ⟨k0, s0, m0, u0, A0, n0, c0⟩ e0) :
    Calls Tryz.prog 5 #[rq k0 s0 m0 u0 A0 n0 c0 p0 t0] w fun e w' => e = .returned (.bool true) ∧ Below w.heap.size w w' := by
  obtain ⟨a, ha⟩ : ∃ a, Hid (fmX e0 = a) := ⟨_, rfl⟩
  obtain ⟨b, hb⟩ : ∃ b, Hid (fmR e0 p0 t0 = b) := ⟨_, rfl⟩
  have hS : Hid (∀ W, Below (w.alloc (.cells #[.int .i64 k0, .string s0, .int .i64 m0, .int .i64 u0, .slice A0 n0 c0, .int .i64 p0, .int .i64 t0] 30)).heap.size (w.alloc (.cells #[.int .i64 k0, .string s0, .int .i64 m0, .int .i64 u0, .slice A0 n0 c0, .int .i64 p0, .int .i64 t0] 30)) W → S7 W w.heap.size k0 s0 m0 u0 A0 n0 c0 p0 t0 ∧ VR W ∧ TIn (Lo W.heap.size) W ⟨k0, s0, m0, u0, A0, n0, c0⟩ e0) := fun W hW =>
    ⟨((Blk.new w [.int .i64 k0, .string s0, .int .i64 m0, .int .i64 u0, .slice A0 n0 c0, .int .i64 p0, .int .i64 t0] 30 rfl).up hW (by simp)).s7, hV.below (dn1 hW), T0.up (dn1 hW)⟩
  clear hV T0
  go_enter Tryz.func5, Tryz.ntmps5
  go_wp2
  go_region_held3 (fun W => Below (w.alloc (.cells #[.int .i64 k0, .string s0, .int .i64 m0, .int .i64 u0, .slice A0 n0 c0, .int .i64 p0, .int .i64 t0] 30)).heap.size (w.alloc (.cells #[.int .i64 k0, .string s0, .int .i64 m0, .int .i64 u0, .slice A0 n0 c0, .int .i64 p0, .int .i64 t0] 30)) W ∧ S7 W w.heap.size k0 s0 m0 u0 A0 n0 c0 p0 t0)
    (first
      | exact ⟨Below.refl _ _, (hS.out _ (Below.refl _ _)).1⟩
      | exact ⟨bdD (Below.refl _ _), (hS.out _ (bdD (Below.refl _ _))).1⟩
      | (go_split_ands; exact ⟨nx (by assumption) hb1, (hS.out _ (nx (by assumption) hb1)).1⟩))
    (first
      | (go_at_call 10; go_split_ands; (with_reducible refine (awake_any _ (hS.out _ ?_).2.1).mono ?_); (· assumption); rintro e W1 ⟨rfl, hb1⟩)
      | (go_at_call 18; go_split_ands; (with_reducible refine (format_an (e := e0) k0 s0 m0 u0 A0 n0 c0 p0 t0 _ (hS.out _ ?_).2.1 (hS.out _ ?_).2.2 hb).mono ?_); (· assumption); (· assumption); rintro e W1 ⟨rfl, hb1⟩)
      | (go_at_call 19; go_split_ands; (with_reducible refine (refFormat_an (e := e0) k0 s0 m0 u0 A0 n0 c0 p0 t0 _ (hS.out _ ?_).2.2 hb).mono ?_); (· assumption); rintro e W1 ⟨rfl, hb1⟩)
      | (go_at_call 20; go_split_ands; (with_reducible refine (formatExpr_an (e := e0) k0 s0 m0 u0 A0 n0 c0 _ (hS.out _ ?_).2.1 (hS.out _ ?_).2.2 ha).mono ?_); (· assumption); (· assumption); rintro e W1 ⟨rfl, hb1⟩)
      | (go_at_call 21; go_split_ands; (with_reducible refine (refFormatExpr_an (e := e0) k0 s0 m0 u0 A0 n0 c0 _ (hS.out _ ?_).2.2 ha).mono ?_); (· assumption); rintro e W1 ⟨rfl, hb1⟩))
  all_goals (go_wp2; go_ret; go_split_ands; exact ⟨by simp, dn1 (by assumption)⟩)
end Go.Proofs.YtlokcmbkkfjlkaaGreatDoor
