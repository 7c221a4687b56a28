/- RequestValid walked. -/
import Derived.Test.YtlokcmbkkfjlkaaGreatDoorRaw
import Derived.Test.YtlokcmbkkfjlkaaGreatDoorRrv
namespace Go.Proofs.YtlokcmbkkfjlkaaGreatDoor
set_option linter.unusedVariables false
set_option linter.unusedSimpArgs false
open Go.RowKit
set_option maxHeartbeats 4000000 in
set_option maxRecDepth 100000 in
theorem RequestValid_walk (k0 : Int) (s0 : ByteArray) (m0 u0 : Int) (A0 : Option Addr) (n0 c0 : Nat) (p0 t0 : Int) (e0 : Ex) (w : World) (hV : VR w) (T0 : TIn (Lo w.heap.size) w ⟨k0, s0, m0, u0, A0, n0, c0⟩ e0) :
    Calls Tryz.prog 3 #[rq k0 s0 m0 u0 A0 n0 c0 p0 t0] w fun e w' => e = .returned (.bool true) ∧ Below w.heap.size w w' := by
  obtain ⟨a, ha⟩ : ∃ a, Hid (vexB e0 = a) := ⟨_, rfl⟩
  obtain ⟨b, hb⟩ : ∃ b, Hid (vrqB e0 p0 t0 = b) := ⟨_, rfl⟩
  have hS : Hid (∀ W, Below (w.alloc (.cells #[.int .i64 k0, .string s0, .int .i64 m0, .int .i64 u0, .slice A0 n0 c0, .int .i64 p0, .int .i64 t0] 30)).heap.size (w.alloc (.cells #[.int .i64 k0, .string s0, .int .i64 m0, .int .i64 u0, .slice A0 n0 c0, .int .i64 p0, .int .i64 t0] 30)) W → S7 W w.heap.size k0 s0 m0 u0 A0 n0 c0 p0 t0 ∧ VR W ∧ TIn (Lo W.heap.size) W ⟨k0, s0, m0, u0, A0, n0, c0⟩ e0) := fun W hW =>
    ⟨((Blk.new w [.int .i64 k0, .string s0, .int .i64 m0, .int .i64 u0, .slice A0 n0 c0, .int .i64 p0, .int .i64 t0] 30 rfl).up hW (by simp)).s7, hV.below (dn1 hW), T0.up (dn1 hW)⟩
  clear hV T0
  go_enter Tryz.func3, Tryz.ntmps3
  go_wp2
  go_region_held3 (fun W => Below (w.alloc (.cells #[.int .i64 k0, .string s0, .int .i64 m0, .int .i64 u0, .slice A0 n0 c0, .int .i64 p0, .int .i64 t0] 30)).heap.size (w.alloc (.cells #[.int .i64 k0, .string s0, .int .i64 m0, .int .i64 u0, .slice A0 n0 c0, .int .i64 p0, .int .i64 t0] 30)) W ∧ S7 W w.heap.size k0 s0 m0 u0 A0 n0 c0 p0 t0)
    (first
      | exact ⟨Below.refl _ _, (hS.out _ (Below.refl _ _)).1⟩
      | exact ⟨bdD (Below.refl _ _), (hS.out _ (bdD (Below.refl _ _))).1⟩
      | (go_split_ands; exact ⟨nx (by assumption) hb1, (hS.out _ (nx (by assumption) hb1)).1⟩))
    (first
      | (go_at_call 10; go_split_ands; (with_reducible refine (awake_any _ (hS.out _ ?_).2.1).mono ?_); (· assumption); rintro e W1 ⟨rfl, hb1⟩)
      | (go_at_call 11; go_split_ands; (with_reducible refine (validExpr_is (e := e0) k0 s0 m0 u0 A0 n0 c0 _ (hS.out _ ?_).2.2 ha).mono ?_); (· assumption); rintro e W1 ⟨rfl, hb1⟩)
      | (go_at_call 12; go_split_ands; (with_reducible refine (refValidExpr_is (e := e0) k0 s0 m0 u0 A0 n0 c0 _ (hS.out _ ?_).2.2 ha).mono ?_); (· assumption); rintro e W1 ⟨rfl, hb1⟩)
      | (go_at_call 13; go_split_ands; (with_reducible refine (valid_is (e := e0) k0 s0 m0 u0 A0 n0 c0 p0 t0 _ (hS.out _ ?_).2.2 hb).mono ?_); (· assumption); rintro e W1 ⟨rfl, hb1⟩)
      | (go_at_call 14; go_split_ands; (with_reducible refine (refValid7_is (e := e0) k0 s0 m0 u0 A0 n0 c0 p0 t0 _ (hS.out _ ?_).2.2 hb).mono ?_); (· assumption); rintro e W1 ⟨rfl, hb1⟩))
  all_goals (go_wp2; go_ret; go_split_ands; exact ⟨by simp, dn1 (by assumption)⟩)
end Go.Proofs.YtlokcmbkkfjlkaaGreatDoor
