/- CatalogValid walked. -/
import Derived.Test.YtmfdafffafbmpaaDoorCall
namespace Go.Proofs.YtmfdafffafbmpaaDoor
set_option linter.unusedVariables false
open Go.RowKit
set_option maxHeartbeats 1000000 in
theorem CatalogValid_walk (A0 : Option Addr) (n0 c0 : Nat) (x0 : List P4) (s1 : ByteArray) (a1 b1 c1 : Int) (w : World) (hV : Vars w) (w0 : InR w A0 n0 c0 x0) (wa1 : (Lit.int .i64 a1).wf = true) (wb1 : (Lit.int .i64 b1).wf = true) (wc1 : (Lit.int .i64 c1).wf = true) :
    Calls Tryd.prog 4 #[.slice A0 n0 c0, .agg #[.string s1, .int .i64 a1, .int .i64 b1, .int .i64 c1]] w fun e w' => e = .returned (.bool true) ∧ Below w.heap.size w w' := by
  obtain ⟨a, ha⟩ := rsr_ex s1 a1 b1 c1
  obtain ⟨b, hb⟩ := vcat_ex x0
  have hn : Hid (x0.length = n0) := w0.len
  have hS : Hid (∀ W, Below (BX w s1 a1 b1 c1).heap.size (BX w s1 a1 b1 c1) W → S4 W w.heap.size s1 a1 b1 c1 ∧ RRd W A0 x0) := fun W hW => ⟨S4.of hW (by simp [BX]) (S4.new _ _ _ _ _), w0.rd.below (dn1 hW)⟩
  clear hV w0 wa1 wb1 wc1
  go_enter Tryd.func4, Tryd.ntmps4
  go_wp2
  go_region_held3 (fun W => Below (BX w s1 a1 b1 c1).heap.size (BX w s1 a1 b1 c1) W ∧ S4 W w.heap.size s1 a1 b1 c1)
    (first
      | exact ⟨Below.refl _ _, (hS.out _ (Below.refl _ _)).1⟩
      | exact ⟨bdD (Below.refl _ _), (hS.out _ (bdD (Below.refl _ _))).1⟩
      | (go_split_ands; exact ⟨nx (by assumption) hb1, (hS.out _ (nx (by assumption) hb1)).1⟩))
    (first
      | (go_at_call 13; (with_reducible refine (awake_any _).mono ?_); rintro e W1 ⟨rfl, hb1⟩)
      | (go_at_call 18; (with_reducible refine (rsr_is _ _ _ _ _ ha).mono ?_); rintro e W1 ⟨rfl, hg1⟩; have hb1 := hg1.below)
      | (go_at_call 19; (with_reducible refine (refRsr_is _ _ _ _ _ ha).mono ?_); rintro e W1 ⟨rfl, hg1⟩; have hb1 := hg1.below)
      | (go_at_call 20; go_split_ands; (with_reducible refine (vcat_is _ _ _ _ _ (hS.out _ ?_).2 hn hb).mono ?_); (· assumption); rintro e W1 ⟨rfl, hg1⟩; have hb1 := hg1.below)
      | (go_at_call 21; go_split_ands; (with_reducible refine (refVcat_is _ _ _ _ _ (hS.out _ ?_).2 hn hb).mono ?_); (· assumption); rintro e W1 ⟨rfl, hg1⟩; have hb1 := hg1.below))
  all_goals (go_wp2; go_ret; go_split_ands; exact ⟨by simp, dn1 (by assumption)⟩)
end Go.Proofs.YtmfdafffafbmpaaDoor
