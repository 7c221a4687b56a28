/- HoldersSets walked. -/
import Derived.Test.YthclgccgkdijbaaDoorHaw
import Derived.Test.YthclgccgkdijbaaDoorHrs
import Derived.Test.YthclgccgkdijbaaDoorHrv
import Derived.Test.YthclgccgkdijbaaDoorHrr
import Derived.Test.YthclgccgkdijbaaDoorHopen
namespace Go.Proofs.YthclgccgkdijbaaDoor
open Go.RowKit
set_option linter.unusedVariables false
set_option linter.unusedSimpArgs false

set_option maxHeartbeats 4000000 in
set_option maxRecDepth 20000 in
theorem HoldersSets_walk (A0 : Option Addr) (n0 c0 : Nat) (x0 : List Hd) (a1 b1 c1 : Int) (a2 b2 : Int) (w : World) (hV : Vars w) (w0 : InH w A0 n0 c0 x0) (wa1 : (Lit.int .i64 a1).wf = true) (wb1 : (Lit.int .i64 b1).wf = true) (wc1 : (Lit.int .i64 c1).wf = true) (wa2 : (Lit.int .i64 a2).wf = true) (wb2 : (Lit.int .i64 b2).wf = true) :
    Calls Tryd.prog 4 #[.slice A0 n0 c0, .agg #[.int .i64 a1, .int .i64 b1, .int .i64 c1], .agg #[.int .i64 a2, .int .i64 b2]] w fun e w' => e = .returned (.bool true) ∧ Below w.heap.size w w' := by
  have HV := Lib.hid hV
  have HR := Lib.hid w0.rd
  have hn : Hid (x0.length = n0) := w0.len
  have hnc : n0 ≤ c0 := w0.fit
  have mixed : Tryd.prog.follows .mixedOrders = true := by kernel_rfl
  clear hV w0 wa1 wb1 wc1 wa2 wb2
  have HK0 := Lib.hid ((Blk.new w [.int .i64 a1, .int .i64 b1, .int .i64 c1] 26 (g := w.heap.size) (by simp)).grow (.cells #[.int .i64 a2, .int .i64 b2] 30))
  have HK1 := Lib.hid (Blk.new (w.alloc (.cells #[.int .i64 a1, .int .i64 b1, .int .i64 c1] 26)) [.int .i64 a2, .int .i64 b2] 30 (g := w.heap.size + 1) (by simp))
  obtain ⟨W0, hW0⟩ : ∃ W0, Hid (((w.alloc (.cells #[.int .i64 a1, .int .i64 b1, .int .i64 c1] 26)).alloc (.cells #[.int .i64 a2, .int .i64 b2] 30)) = W0) := ⟨_, rfl⟩
  have HB0 : Hid (Below w.heap.size w W0) := Lib.hid (by rw [← hW0.out]; exact nxA (newB _ _) _)
  rw [hW0.out] at HK0 HK1
  have HXS : Hid (∀ W, Below W0.heap.size W0 W → RS3 W (w.heap.size) a1 b1 c1 ∧ RS2 W (w.heap.size + 1) a2 b2) := Lib.hid (fun W hW => ⟨RS3.of (HK0.out.up hW HK0.out.lt), RS2.of (HK1.out.up hW HK1.out.lt)⟩)
  clear HK0 HK1
  have HV0 : Hid (Vars W0) := Lib.hid (HV.out.below HB0.out)
  have HAWK : Hid (∀ W, Below W0.heap.size W0 W → Calls Tryd.prog 11 #[] W fun e w' => e = .returned (.bool true) ∧ Below W.heap.size W w') := Lib.hid (fun W hW => awakeH_any W (HV.out.below (nx HB0.out hW)))
  have HL0 : Hid (∀ W, Below W0.heap.size W0 W → HRd W A0 x0) := Lib.hid (fun W hW => HR.out.below (nx HB0.out hW))
  by_cases h100 : 100 < (n0 : Int)
  · clear hn HL0
    go_enter Tryd.func4, Tryd.ntmps4
    go_upto_region 1 with fail
    rw [hW0.out]
    go_wp2_with (go_at_call 11; refine (awakeH_any _ HV0.out).mono ?_; rintro e W1 ⟨rfl, hb1⟩; have HB1 := Lib.hid (nx HB0.out hb1); clear hb1)
    go_ret
    exact ⟨rfl, HB1.out⟩
  · have h100' : ¬ (100 : Int) < (n0 : Int) := h100
    have hm : Hid (n0 ≤ 900) := Lib.hid (by omega)
    obtain ⟨L, hL⟩ : ∃ L, Hid (setH x0 (a1, b1, c1) (a2, b2) = L) := ⟨_, Lib.hid rfl⟩
    obtain ⟨q, hq⟩ : ∃ q, Hid (L.length = q) := ⟨_, Lib.hid rfl⟩
    have hq1 : Hid (q ≤ 1000) := Lib.hid (by
      have h1 := setH_len x0 (a1, b1, c1) (a2, b2)
      rw [hL.out, hq.out, hn.out] at h1
      omega)
    have HSP : Hid (∀ W, Below W0.heap.size W0 W → Calls Tryd.prog 20 #[.slice A0 n0 c0, .agg #[.int .i64 a1, .int .i64 b1, .int .i64 c1], .agg #[.int .i64 a2, .int .i64 b2]] W fun e w' => (∃ A' c', e = .returned (.slice A' q c') ∧ HRd w' A' L) ∧ Below W.heap.size W w') := Lib.hid (fun W hW => (hset_is A0 n0 c0 x0 a1 b1 c1 a2 b2 W (HL0.out W hW) hn hm).mono fun e w' ⟨⟨V, hV, ho⟩, hb⟩ => by
      rw [hL.out] at ho
      obtain ⟨A', c', hv, -, hr, -⟩ := ho.form
      exact ⟨⟨A', c', by rw [hV, hv, hq.out], hr⟩, hb⟩)
    have HSR : Hid (∀ W, Below W0.heap.size W0 W → Calls Tryd.prog 21 #[.slice A0 n0 c0, .agg #[.int .i64 a1, .int .i64 b1, .int .i64 c1], .agg #[.int .i64 a2, .int .i64 b2]] W fun e w' => (∃ A' c', e = .returned (.slice A' q c') ∧ HRd w' A' L) ∧ Below W.heap.size W w') := Lib.hid (fun W hW => (refSet_is A0 n0 c0 x0 a1 b1 c1 a2 b2 W (HL0.out W hW) hn hm).mono fun e w' ⟨⟨V, hV, ho⟩, hb⟩ => by
      rw [hL.out] at ho
      obtain ⟨A', c', hv, -, hr, -⟩ := ho.form
      exact ⟨⟨A', c', by rw [hV, hv, hq.out], hr⟩, hb⟩)
    clear hnc h100'
    go_enter Tryd.func4, Tryd.ntmps4
    go_upto_region 1 with fail
    rw [hW0.out]
    go_upto_region 3 with fail
    have hcur : Below W0.heap.size W0 W0.drew := bdD (Below.refl _ _)
    go_region_held3 (fun W => RS3 W (w.heap.size) a1 b1 c1 ∧ RS2 W (w.heap.size + 1) a2 b2)
      (exact HXS.out _ hcur)
      (first
        | (go_at_call 11; (with_reducible refine (HAWK.out _ hcur).mono ?_); rintro e Wn ⟨rfl, hbb⟩; replace hcur := nx hcur hbb; clear hbb)
        | (go_at_call 20; (with_reducible refine (HSP.out _ hcur).mono ?_); rintro e Wn ⟨⟨A2, c2, rfl, hr2⟩, hbb⟩; have HRA := Lib.hid hr2; (try replace HRB := Lib.hid (HRB.out.below hbb)); replace hcur := nx hcur hbb; clear hbb hr2)
        | (go_at_call 21; (with_reducible refine (HSR.out _ hcur).mono ?_); rintro e Wn ⟨⟨A3, c3, rfl, hr3⟩, hbb⟩; have HRB := Lib.hid hr3; (try replace HRA := Lib.hid (HRA.out.below hbb)); replace hcur := nx hcur hbb; clear hbb hr3)
        | (go_at_call 19; (with_reducible refine (sameHolds_yes A2 A3 q c2 c3 L _ HRA.out HRB.out hq hq1).mono ?_); rintro e Wn ⟨rfl, hbb⟩; replace hcur := nx hcur hbb; clear hbb))
    all_goals (
      go_wp2
      go_ret
      exact ⟨rfl, nx HB0.out hcur⟩)
end Go.Proofs.YthclgccgkdijbaaDoor
