/- AmountCompatible walked. -/
import Derived.Test.YtbddgdicnonadaaDoorAmountFitsW
import Derived.Test.YtbddgdicnonadaaDoorAopen
namespace Go.Proofs.YtbddgdicnonadaaDoor
set_option linter.unusedVariables false
set_option linter.unusedSimpArgs false
open Go.RowKit
theorem bool_of (p : Prop) : ∃ r : Bool, Hid (p ↔ r = true) := by
  by_cases h : p
  · exact ⟨true, fun _ => rfl, fun _ => h⟩
  · exact ⟨false, fun k => absurd k h, fun k => by cases k⟩
set_option maxHeartbeats 1000000 in
theorem AmountCompatible_walk (s0 : ByteArray) (a0 b0 c0 : Int) (A1 : Option Addr) (n1 c1 : Nat) (x1 : List (Int × Int)) (a2 b2 : Int) (w : World) (hV : Vars w) (wa0 : (Lit.int .i64 a0).wf = true) (wb0 : (Lit.int .i64 b0).wf = true) (wc0 : (Lit.int .i64 c0).wf = true) (w1 : InA w A1 n1 c1 x1) (wa2 : (Lit.int .i64 a2).wf = true) (wb2 : (Lit.int .i64 b2).wf = true) :
    Calls Tryd.prog 6 #[.agg #[.string s0, .int .i64 a0, .int .i64 b0, .int .i64 c0], .slice A1 n1 c1, .agg #[.int .i64 a2, .int .i64 b2]] w fun e w' => e = .returned (.bool true) ∧ Below w.heap.size w w' := by
  have HV : Hid (∀ W, Below (T2 w s0 a0 b0 c0 a2 b2).heap.size (T2 w s0 a0 b0 c0 a2 b2) W → Vars W) := fun W hW => hV.below (nx (new2 w _ _) hW)
  have HL : Hid (∀ W, Below (T2 w s0 a0 b0 c0 a2 b2).heap.size (T2 w s0 a0 b0 c0 a2 b2) W → ARd W A1 x1) := fun W hW => w1.rd.below (nx (new2 w _ _) hW)
  have hn : Hid (x1.length = n1) := w1.len
  obtain ⟨r1, h1⟩ := bool_of (Cmp a0 b0 x1)
  obtain ⟨r2, h2⟩ := bool_of (Cmp a0 b0 (x1 ++ [(a2, b2)]))
  clear hV w1 wa0 wb0 wc0 wa2 wb2
  by_cases h100 : 100 < (n1 : Int)
  · clear hn h1 h2
    go_enter Tryd.func6, Tryd.ntmps6
    go_wp2_with (first
      | (go_at_call 12; refine (awake_K (Below.refl _ _) HV).mono ?_; rintro e W1 ⟨rfl, hb1⟩))
    go_ret
    exact ⟨rfl, dn2 hb1⟩
  · have hm : Hid (n1 ≤ 1000) := by show _ ≤ _; omega
    have hm9 : Hid (n1 ≤ 900) := by show _ ≤ _; omega
    have h100' : (n1 : Int) ≤ 100 := by omega
    clear h100
    go_enter Tryd.func6, Tryd.ntmps6
    go_wp2
    go_region_held3 (fun W => Below (T2 w s0 a0 b0 c0 a2 b2).heap.size (T2 w s0 a0 b0 c0 a2 b2) W ∧ S4 W w.heap.size s0 a0 b0 c0 ∧ E2 W (w.heap.size + 1) a2 b2)
      (first
        | exact keep2 (Below.refl _ _)
        | exact keep2 (bdD (Below.refl _ _))
        | (go_split_ands; exact keep2 (nx (by assumption) hb1)))
      (first
        | (go_at_call 12; go_split_ands; (with_reducible refine (awake_K ?_ HV).mono ?_); (· assumption); rintro e W1 ⟨rfl, hb1⟩)
        | (go_at_call 23; go_split_ands; (with_reducible refine (compat_is _ _ _ _ _ _ _ _ _ (HV.out _ ?_) (HL.out _ ?_) hn hm h1).mono ?_); (· assumption); (· assumption); rintro e W1 ⟨rfl, hb1⟩)
        | (go_at_call 24; go_split_ands; (with_reducible refine (refCompat_is _ _ _ _ _ _ _ _ _ (HL.out _ ?_) hn hm h1).mono ?_); (· assumption); rintro e W1 ⟨rfl, hb1⟩)
        | (go_at_call 25; go_split_ands; (with_reducible refine (room_is _ _ _ _ _ _ _ _ _ _ _ (HV.out _ ?_) (HL.out _ ?_) hn hm9 h2).mono ?_); (· assumption); (· assumption); rintro e W1 ⟨rfl, hb1⟩)
        | (go_at_call 26; go_split_ands; (with_reducible refine (refRoom_is _ _ _ _ _ _ _ _ _ _ _ (HL.out _ ?_) hn hm9 h2).mono ?_); (· assumption); rintro e W1 ⟨rfl, hb1⟩))
    all_goals (go_wp2; go_ret; go_split_ands; exact ⟨by simp, nx (new2 w _ _) (by assumption)⟩)
end Go.Proofs.YtbddgdicnonadaaDoor
