/- CatalogResolves walked. -/
import Derived.Test.YtmfdafffafbmpaaDoorCall
namespace Go.Proofs.YtmfdafffafbmpaaDoor
set_option linter.unusedVariables false
open Go.RowKit
set_option maxHeartbeats 2000000 in
theorem CatalogResolves_walk (A0 : Option Addr) (n0 c0 : Nat) (x0 : List P4) (s1 : ByteArray) (a1 b1 : Int) (a2 : Int) (w : World) (hV : Vars w) (w0 : InR w A0 n0 c0 x0) (wa1 : (Lit.int .i64 a1).wf = true) (wb1 : (Lit.int .i64 b1).wf = true) (w2 : (Lit.int .i64 a2).wf = true) :
    Calls Tryd.prog 8 #[.slice A0 n0 c0, .agg #[.string s1, .int .i64 a1, .int .i64 b1], .int .i64 a2] w fun e w' => e = .returned (.bool true) ∧ Below w.heap.size w w' := by
  obtain ⟨e0, hi⟩ : ∃ e, Hid (Rsv x0 s1 a1 b1 e) := rsv_ex x0 s1 a1 b1
  obtain ⟨x, hx⟩ : ∃ x, Hid (atL x0 a2 = x) := ⟨_, rfl⟩
  have hS : Hid (∀ W, Below (TA w s1 a1 b1).heap.size (TA w s1 a1 b1) W → S3 W w.heap.size s1 a1 b1 ∧ InR W A0 n0 c0 x0) := fun W hW => ⟨S3.of hW (by simp [TA]) ⟨by simp [TA], by simp [TA], by simp [TA]⟩, w0.below (dn1 hW)⟩
  clear hV w0 wa1 wb1 w2
  go_enter Tryd.func8, Tryd.ntmps8
  go_wp2
  go_region_held3 (fun W => Below (TA w s1 a1 b1).heap.size (TA w s1 a1 b1) W ∧ S3 W w.heap.size s1 a1 b1)
    (first
      | exact ⟨Below.refl _ _, (hS.out _ (Below.refl _ _)).1⟩
      | exact ⟨bdD (Below.refl _ _), (hS.out _ (bdD (Below.refl _ _))).1⟩
      | (go_split_ands; exact ⟨nx (by assumption) hb1, (hS.out _ (nx (by assumption) hb1)).1⟩))
    (first
      | (go_at_call 13; (with_reducible refine (awake_any _).mono ?_); rintro e W1 ⟨rfl, hb1⟩)
      | (go_at_call 29; go_split_ands; (with_reducible refine (resolve_is _ _ _ _ _ _ _ _ (hS.out _ ?_).2 hi).mono ?_); (· assumption); rintro e W1 ⟨rfl, hb1⟩)
      | (go_at_call 30; go_split_ands; (with_reducible refine (refResolve_is _ _ _ _ _ _ _ _ (hS.out _ ?_).2 hi).mono ?_); (· assumption); rintro e W1 ⟨rfl, hb1⟩)
      | (go_at_call 31; go_split_ands; (with_reducible refine (at_is _ _ _ _ _ _ (hS.out _ ?_).2 hx).mono ?_); (· assumption); rintro e W1 ⟨A1, k1, rfl, hr1, hb1⟩; have HR1 := Lib.hid hr1)
      | (go_at_call 32; go_split_ands; (with_reducible refine (refAt_is _ _ _ _ _ _ (hS.out _ ?_).2 hx).mono ?_); (· assumption); rintro e W2 ⟨A2, k2, rfl, hr2, hb1⟩; have HR2 := Lib.hid hr2; have HR3 := Lib.hid (HR1.out.below hb1))
      | (go_at_call 24; (with_reducible refine (same_yes _ _ _ _ _ _ _ _ HR3.out HR2.out).mono ?_); rintro e W1 ⟨rfl, hb1⟩))
  all_goals (go_wp2; go_ret; go_split_ands; exact ⟨by simp, dn1 (by assumption)⟩)
end Go.Proofs.YtmfdafffafbmpaaDoor
