/- CatalogInserts walked. -/
import Derived.Test.YtmfdafffafbmpaaDoorCall
namespace Go.Proofs.YtmfdafffafbmpaaDoor
set_option linter.unusedVariables false
open Go.RowKit
set_option maxHeartbeats 1000000 in
theorem CatalogInserts_walk (A0 : Option Addr) (n0 c0 : Nat) (x0 : List P4) (s1 : ByteArray) (a1 b1 c1 : Int) (w : World) (hV : Vars w) (w0 : InR w A0 n0 c0 x0) (wa1 : (Lit.int .i64 a1).wf = true) (wb1 : (Lit.int .i64 b1).wf = true) (wc1 : (Lit.int .i64 c1).wf = true) :
    Calls Tryd.prog 5 #[.slice A0 n0 c0, .agg #[.string s1, .int .i64 a1, .int .i64 b1, .int .i64 c1]] w fun e w' => e = .returned (.bool true) ∧ Below w.heap.size w w' := by
  obtain ⟨e0, x, hi⟩ : ∃ e x, Hid (Ins x0 (s1, a1, b1, c1) e x) := ins_ex x0 (s1, a1, b1, c1)
  have HI := Lib.hid w0
  have hS : Hid (∀ W, Below (BX w s1 a1 b1 c1).heap.size (BX w s1 a1 b1 c1) W → S4 W w.heap.size s1 a1 b1 c1) := fun W hW => S4.of hW (by simp [BX]) (S4.new _ _ _ _ _)
  clear hV w0 wa1 wb1 wc1
  go_enter Tryd.func5, Tryd.ntmps5
  go_wp2_with (first
    | (go_at_call 22; refine (insert_is _ _ _ _ _ _ _ _ _ (HI.out.below (newB _ _)) hi).mono ?_; rintro e W1 ⟨A1, m1, k1, rfl, hr1, hb1⟩; obtain ⟨g1, g2, g3, g4⟩ := hS.out W1 hb1; have HR1 := Lib.hid hr1; have HB1 := Lib.hid hb1; clear hr1 hb1)
    | (go_at_call 23; refine (refInsert_is _ _ _ _ _ _ _ _ _ (HI.out.below (dn1 HB1.out)) hi).mono ?_; rintro e W2 ⟨A2, m2, k2, rfl, hr2, hb2⟩; clear g1 g2 g3 g4; have HR2 := Lib.hid hr2; have HB2 := Lib.hid hb2; clear hr2 hb2)
    | (go_at_call 13; refine (awake_any _).mono ?_; rintro e W3 ⟨rfl, hb3⟩; have HB3 := Lib.hid hb3; clear hb3)
    | (go_at_call 24; refine (same_yes _ _ _ _ _ _ _ _ (HR1.out.below (nx HB2.out HB3.out)) (HR2.out.below HB3.out)).mono ?_; rintro e W4 ⟨rfl, hb4⟩; have HB4 := Lib.hid hb4; clear hb4))
  go_ret
  exact ⟨by simp, nx (nx (nx (dn1 HB1.out) HB2.out) HB3.out) HB4.out⟩
end Go.Proofs.YtmfdafffafbmpaaDoor
