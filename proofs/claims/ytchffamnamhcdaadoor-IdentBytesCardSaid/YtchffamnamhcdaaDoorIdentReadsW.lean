/- IdentReads walked. -/
import Derived.Test.YtchffamnamhcdaaDoorIreadR
import Derived.Test.YtchffamnamhcdaaDoorOpen
namespace Go.Proofs.YtchffamnamhcdaaDoor
set_option linter.unusedVariables false
open Go.RowKit
theorem proc_is (A : Option Addr) (m c : Nat) (xs : List Int) (w : World) (h : Rd w A xs) (hb : Byt xs) (hl : Hid (xs.length = m)) (hm : m ≤ maxLen) (hc : m ≤ c) {a b d n e : Int} (hr : Hid (readP xs = (a, b, d, n, e))) :
    Calls Tryd.prog 33 #[.slice A m c] w fun f w' => f = .returned (.tuple #[.agg #[.int .i64 a, .int .i64 b, .int .i64 d], .int .i64 n, .int .i64 e]) ∧ Below w.heap.size w w' := by
  have hl' := hl.out
  subst hl'
  exact (proc_any A c xs w h hb hm hc).mono fun _ _ k => ⟨by rw [k.1, hr.out]; rfl, k.2⟩
theorem refProc_is (A : Option Addr) (m c : Nat) (xs : List Int) (w : World) (h : Rd w A xs) (hb : Byt xs) (hl : Hid (xs.length = m)) (hm : m ≤ maxLen) (hc : m ≤ c) {a b d n e : Int} (hr : Hid (readP xs = (a, b, d, n, e))) :
    Calls Tryd.prog 34 #[.slice A m c] w fun f w' => f = .returned (.tuple #[.agg #[.int .i64 a, .int .i64 b, .int .i64 d], .int .i64 n, .int .i64 e]) ∧ Below w.heap.size w w' := by
  have hl' := hl.out
  subst hl'
  exact (refProc_any A c xs w h hb hm hc).mono fun _ _ k => ⟨by rw [k.1, hr.out]; rfl, k.2⟩
set_option maxHeartbeats 1000000 in
theorem IdentReads_walk (A0 : Option Addr) (n0 c0 : Nat) (x0 : List Int) (w : World) (hV : Vars w) (w0 : In w A0 n0 c0 x0) :
    Calls Tryd.prog 10 #[.slice A0 n0 c0] w fun e w' => e = .returned (.bool true) ∧ Below w.heap.size w w' := by
  obtain ⟨hl, hrd, hby, hfit, hreach⟩ := w0
  obtain ⟨a, b, d, n, e, hr⟩ : ∃ a b d n e, Hid (readP x0 = (a, b, d, n, e)) := ⟨_, _, _, _, _, rfl⟩
  have HL := Lib.hid hl
  have HV := Lib.hid hV
  have hm : n0 ≤ maxLen := by unfold maxLen; omega
  have HR := Lib.hid hrd
  clear hl hV hreach hrd
  go_enter Tryd.func10, Tryd.ntmps10
  go_wp2_with (first
    | (go_at_call 33; refine (proc_is _ _ _ _ _ HR.out hby HL hm hfit hr).mono ?_; rintro e W1 ⟨rfl, hb1⟩)
    | (go_at_call 34; refine (refProc_is _ _ _ _ _ (HR.out.below (nxA hb1 _)) hby HL hm hfit hr).mono ?_; rintro e W2 ⟨rfl, hb2⟩; have hW2 := nx (nxA hb1 _) hb2; have x2 := Lib.hid ((B3.new W1 _ _ _ _).below hb2); obtain ⟨i0, i1, i2, i3⟩ := x2.out)
    | (go_at_call 14; refine (awake_any _ (HV.out.below (nxA hW2 _))).mono ?_; rintro e W3 ⟨rfl, hb3⟩; have hW3 := nx (nxA hW2 _) hb3; have x3 := Lib.hid ((x2.out.up _).below hb3); have y3 := Lib.hid ((B3.new W2 _ _ _ _).below hb3); clear i0 i1 i2 i3; obtain ⟨i0, i1, i2, i3⟩ := x3.out; obtain ⟨j0, j1, j2, j3⟩ := y3.out))
  go_ret
  exact ⟨rfl, hW3⟩
end Go.Proofs.YtchffamnamhcdaaDoor
