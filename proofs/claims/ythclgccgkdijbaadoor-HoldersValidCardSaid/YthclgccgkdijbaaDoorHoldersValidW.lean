/- HoldersValid walked. -/
import Derived.Test.YthclgccgkdijbaaDoorHaw
import Derived.Test.YthclgccgkdijbaaDoorHrr
import Derived.Test.YthclgccgkdijbaaDoorHopen
namespace Go.Proofs.YthclgccgkdijbaaDoor
open Go.RowKit
set_option linter.unusedVariables false
set_option linter.unusedSimpArgs false

set_option maxHeartbeats 8000000 in
set_option maxRecDepth 20000 in
theorem HoldersValid_walk (s0 : ByteArray) (a0 b0 c0 : Int) (A1 : Option Addr) (n1 c1 : Nat) (x1 : List Hd) (a2 b2 c2 : Int) (w : World) (hV : Vars w) (wa0 : (Lit.int .i64 a0).wf = true) (wb0 : (Lit.int .i64 b0).wf = true) (wc0 : (Lit.int .i64 c0).wf = true) (w1 : InH w A1 n1 c1 x1) (wa2 : (Lit.int .i64 a2).wf = true) (wb2 : (Lit.int .i64 b2).wf = true) (wc2 : (Lit.int .i64 c2).wf = true) :
    Calls Tryd.prog 3 #[.agg #[.string s0, .int .i64 a0, .int .i64 b0, .int .i64 c0], .slice A1 n1 c1, .agg #[.int .i64 a2, .int .i64 b2, .int .i64 c2]] w fun e w' => e = .returned (.bool true) ∧ Below w.heap.size w w' := by
  have HV := Lib.hid hV
  have HR := Lib.hid w1.rd
  have hn : Hid (x1.length = n1) := w1.len
  have hnc : n1 ≤ c1 := w1.fit
  have mixed : Tryd.prog.follows .mixedOrders = true := by kernel_rfl
  clear hV w1 wa0 wb0 wc0 wa2 wb2 wc2
  have HK0 := Lib.hid ((Blk.new w [.string s0, .int .i64 a0, .int .i64 b0, .int .i64 c0] 23 (g := w.heap.size) (by simp)).grow (.cells #[.int .i64 a2, .int .i64 b2, .int .i64 c2] 26))
  have HK1 := Lib.hid (Blk.new (w.alloc (.cells #[.string s0, .int .i64 a0, .int .i64 b0, .int .i64 c0] 23)) [.int .i64 a2, .int .i64 b2, .int .i64 c2] 26 (g := w.heap.size + 1) (by simp))
  obtain ⟨W0, hW0⟩ : ∃ W0, Hid (((w.alloc (.cells #[.string s0, .int .i64 a0, .int .i64 b0, .int .i64 c0] 23)).alloc (.cells #[.int .i64 a2, .int .i64 b2, .int .i64 c2] 26)) = W0) := ⟨_, rfl⟩
  have HB0 : Hid (Below w.heap.size w W0) := Lib.hid (by rw [← hW0.out]; exact nxA (newB _ _) _)
  rw [hW0.out] at HK0 HK1
  have HXS : Hid (∀ W, Below W0.heap.size W0 W → RS4 W (w.heap.size) s0 a0 b0 c0 ∧ RS3 W (w.heap.size + 1) a2 b2 c2) := Lib.hid (fun W hW => ⟨RS4.of (HK0.out.up hW HK0.out.lt), RS3.of (HK1.out.up hW HK1.out.lt)⟩)
  clear HK0 HK1
  have HV0 : Hid (Vars W0) := Lib.hid (HV.out.below HB0.out)
  have HAWK : Hid (∀ W, Below W0.heap.size W0 W → Calls Tryd.prog 11 #[] W fun e w' => e = .returned (.bool true) ∧ Below W.heap.size W w') := Lib.hid (fun W hW => awakeH_any W (HV.out.below (nx HB0.out hW)))
  have HL0 : Hid (∀ W, Below W0.heap.size W0 W → HRd W A1 x1) := Lib.hid (fun W hW => HR.out.below (nx HB0.out hW))
  by_cases h100 : 100 < (n1 : Int)
  · clear hn HL0
    go_enter Tryd.func3, Tryd.ntmps3
    go_upto_region 1 with fail
    rw [hW0.out]
    go_wp2_with (go_at_call 11; refine (awakeH_any _ HV0.out).mono ?_; rintro e W1 ⟨rfl, hb1⟩; have HB1 := Lib.hid (nx HB0.out hb1); clear hb1)
    go_ret
    exact ⟨rfl, HB1.out⟩
  · have h100' : ¬ (100 : Int) < (n1 : Int) := h100
    have hm : Hid (n1 ≤ 1000) := Lib.hid (by omega)
    obtain ⟨r, hr⟩ := bool_ex (VH a0 b0 x1)
    obtain ⟨s, t, hst⟩ : ∃ s t, Hid (getH x1 (a2, b2, c2) = (s, t)) := ⟨_, _, Lib.hid rfl⟩
    obtain ⟨L, hL⟩ : ∃ L, Hid (prsH x1 = L) := ⟨_, Lib.hid rfl⟩
    have hq : Hid (L.length = n1) := Lib.hid (by rw [← hL.out, prsH, List.length_map]; exact hn.out)
    have HVP : Hid (∀ W, Below W0.heap.size W0 W → Calls Tryd.prog 12 #[ra s0 a0 b0 c0, .slice A1 n1 c1] W fun e w' => e = .returned (.bool r) ∧ Below W.heap.size W w') := Lib.hid (fun W hW => hvalid_is s0 a0 b0 c0 A1 n1 c1 x1 W (HV.out.below (nx HB0.out hW)) (HL0.out W hW) hn hm hr)
    have HVR : Hid (∀ W, Below W0.heap.size W0 W → Calls Tryd.prog 13 #[ra s0 a0 b0 c0, .slice A1 n1 c1] W fun e w' => e = .returned (.bool r) ∧ Below W.heap.size W w') := Lib.hid (fun W hW => refValidH_is s0 a0 b0 c0 A1 n1 c1 x1 W (HL0.out W hW) hn hm hr)
    have HGP : Hid (∀ W, Below W0.heap.size W0 W → Calls Tryd.prog 14 #[.slice A1 n1 c1, .agg #[.int .i64 a2, .int .i64 b2, .int .i64 c2]] W fun e w' => e = .returned (aa s t) ∧ Below W.heap.size W w') := Lib.hid (fun W hW => hget_is A1 n1 c1 x1 a2 b2 c2 W (HL0.out W hW) hn hm hst)
    have HGR : Hid (∀ W, Below W0.heap.size W0 W → Calls Tryd.prog 15 #[.slice A1 n1 c1, .agg #[.int .i64 a2, .int .i64 b2, .int .i64 c2]] W fun e w' => e = .returned (aa s t) ∧ Below W.heap.size W w') := Lib.hid (fun W hW => refGet_is A1 n1 c1 x1 a2 b2 c2 W (HL0.out W hW) hn hm hst)
    have HPP : Hid (∀ W, Below W0.heap.size W0 W → Calls Tryd.prog 17 #[.slice A1 n1 c1] W fun e w' => (∃ g, e = .returned (.slice (some ⟨g, 0, none⟩) n1 n1) ∧ PRd w' (some ⟨g, 0, none⟩) L) ∧ Below W.heap.size W w') := Lib.hid (fun W hW => hprocs_is A1 n1 c1 x1 W (HL0.out W hW) hn hm hL)
    have HPR : Hid (∀ W, Below W0.heap.size W0 W → Calls Tryd.prog 18 #[.slice A1 n1 c1] W fun e w' => (∃ A' c', e = .returned (.slice A' n1 c') ∧ PRd w' A' L) ∧ Below W.heap.size W w') := Lib.hid (fun W hW => refProcs_is A1 n1 c1 x1 W (HL0.out W hW) hn hm hL)
    have hbe : ∀ W : World, (binOp .eql 4 (.bool r) (.bool r)).run Tryd.prog W = .ok (.bool true) W := fun W => by cases r <;> kernel_rfl
    have hae : ∀ W : World, (binOp .eql 30 (.agg #[.int .i64 s, .int .i64 t]) (.agg #[.int .i64 s, .int .i64 t])).run Tryd.prog W = .ok (.bool true) W := fun W => by rw [eqAm]; simp
    clear hr hst hL h100'
    go_enter Tryd.func3, Tryd.ntmps3
    go_upto_region 1 with fail
    rw [hW0.out]
    go_upto_region 3 with fail
    have hcur : Below W0.heap.size W0 W0.drew := bdD (Below.refl _ _)
    go_region_held3 (fun W => RS4 W (w.heap.size) s0 a0 b0 c0 ∧ RS3 W (w.heap.size + 1) a2 b2 c2)
      (exact HXS.out _ hcur)
      (first
        | (go_at_call 11; (with_reducible refine (HAWK.out _ hcur).mono ?_); rintro e Wn ⟨rfl, hbb⟩; replace hcur := nx hcur hbb; clear hbb)
        | (go_at_call 12; (with_reducible refine (HVP.out _ hcur).mono ?_); rintro e Wn ⟨rfl, hbb⟩; replace hcur := nx hcur hbb; clear hbb)
        | (go_at_call 13; (with_reducible refine (HVR.out _ hcur).mono ?_); rintro e Wn ⟨rfl, hbb⟩; replace hcur := nx hcur hbb; clear hbb)
        | (go_at_call 14; (with_reducible refine (HGP.out _ hcur).mono ?_); rintro e Wn ⟨rfl, hbb⟩; replace hcur := nx hcur hbb; clear hbb)
        | (go_at_call 15; (with_reducible refine (HGR.out _ hcur).mono ?_); rintro e Wn ⟨rfl, hbb⟩; replace hcur := nx hcur hbb; clear hbb)
        | (go_at_call 17; (with_reducible refine (HPP.out _ hcur).mono ?_); rintro e Wn ⟨⟨g2, rfl, hr2⟩, hbb⟩; have HRA := Lib.hid hr2; (try replace HRB := Lib.hid (HRB.out.below hbb)); replace hcur := nx hcur hbb; clear hbb hr2)
        | (go_at_call 18; (with_reducible refine (HPR.out _ hcur).mono ?_); rintro e Wn ⟨⟨A3, c3, rfl, hr3⟩, hbb⟩; have HRB := Lib.hid hr3; (try replace HRA := Lib.hid (HRA.out.below hbb)); replace hcur := nx hcur hbb; clear hbb hr3)
        | (go_at_call 16; (with_reducible refine (sameProcs_yes (some ⟨g2, 0, none⟩) A3 n1 n1 c3 L _ HRA.out HRB.out hq hm).mono ?_); rintro e Wn ⟨rfl, hbb⟩; replace hcur := nx hcur hbb; clear hbb))
    all_goals (
      go_wp2
      go_ret
      exact ⟨rfl, nx HB0.out hcur⟩)
end Go.Proofs.YthclgccgkdijbaaDoor
