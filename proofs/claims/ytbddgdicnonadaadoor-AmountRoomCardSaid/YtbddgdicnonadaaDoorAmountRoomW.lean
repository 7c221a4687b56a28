/- AmountRoom walked. -/
import Derived.Test.YtbddgdicnonadaaDoorAmountFitsW
import Derived.Test.YtbddgdicnonadaaDoorAopen
namespace Go.Proofs.YtbddgdicnonadaaDoor
set_option linter.unusedVariables false
set_option linter.unusedSimpArgs false
open Go.RowKit
theorem room_yes (s : ByteArray) (k u h : Int) (A : Option Addr) (n c : Nat) (l : List P2) (x y : Int) (w : World) (hV : Vars w) (hl : ARd w A l) (hn : Hid (l.length = n)) (hm : Hid (n ≤ 900)) (hr : Hid (Cmp k u (l ++ [(x, y)]))) :
    Calls Tryd.prog 25 #[ra s k u h, .slice A n c, aa x y] w fun e w' => e = .returned (.bool true) ∧ Below w.heap.size w w' := room_is s k u h A n c l x y w hV hl hn hm ⟨fun _ => rfl, fun _ => hr.out⟩
theorem room_no (s : ByteArray) (k u h : Int) (A : Option Addr) (n c : Nat) (l : List P2) (x y : Int) (w : World) (hV : Vars w) (hl : ARd w A l) (hn : Hid (l.length = n)) (hm : Hid (n ≤ 900)) (hr : Hid (¬ Cmp k u (l ++ [(x, y)]))) :
    Calls Tryd.prog 25 #[ra s k u h, .slice A n c, aa x y] w fun e w' => e = .returned (.bool false) ∧ Below w.heap.size w w' := room_is s k u h A n c l x y w hV hl hn hm ⟨fun h => absurd h hr.out, fun h => by cases h⟩
set_option maxHeartbeats 1000000 in
theorem AmountRoom_walk (s0 : ByteArray) (a0 b0 c0 : Int) (A1 : Option Addr) (n1 c1 : Nat) (x1 : List (Int × Int)) (a2 b2 : Int) (a3 b3 : Int) (w : World) (hV : Vars w) (wa0 : (Lit.int .i64 a0).wf = true) (wb0 : (Lit.int .i64 b0).wf = true) (wc0 : (Lit.int .i64 c0).wf = true) (w1 : InA w A1 n1 c1 x1) (wa2 : (Lit.int .i64 a2).wf = true) (wb2 : (Lit.int .i64 b2).wf = true) (wa3 : (Lit.int .i64 a3).wf = true) (wb3 : (Lit.int .i64 b3).wf = true) :
    Calls Tryd.prog 9 #[.agg #[.string s0, .int .i64 a0, .int .i64 b0, .int .i64 c0], .slice A1 n1 c1, .agg #[.int .i64 a2, .int .i64 b2], .agg #[.int .i64 a3, .int .i64 b3]] w fun e w' => e = .returned (.bool true) ∧ Below w.heap.size w w' := by
  have HV := Lib.hid hV
  have HR := Lib.hid w1.rd
  have hn : Hid (x1.length = n1) := w1.len
  clear hV w1 wa0 wb0 wc0 wa2 wb2 wa3 wb3
  by_cases h60 : 60 < (n1 : Int)
  · clear hn
    go_enter Tryd.func9, Tryd.ntmps9
    go_wp2_with (first
      | (go_at_call 12; refine (awake_any _ (HV.out.below (new3 w _ _ _))).mono ?_; rintro e W1 ⟨rfl, hb1⟩; obtain ⟨hc1, hf1⟩ := bcell hb1))
    go_ret
    exact ⟨rfl, dn3 hb1⟩
  · have hm : Hid (n1 ≤ 900) := by show _ ≤ _; omega
    have h60' : (n1 : Int) ≤ 60 := by omega
    clear h60
    by_cases h1 : Cmp a0 b0 (x1 ++ [(a2, b2)])
    · cases hcv : cvr a0 b0 a2 b2 a3 b3 with
      | false =>
        have H1 := Lib.hid h1
        have hcv := Lib.hid hcv
        clear h1
        go_enter Tryd.func9, Tryd.ntmps9
        go_wp2_with (first
          | (have _g := hb1; clear _g; go_at_call 25; refine (room_yes _ _ _ _ _ _ _ _ _ _ _ (HV.out.below (dn3 hb1)) (HR.out.below (dn3 hb1)) hn hm H1).mono ?_; rintro e W2 ⟨rfl, hb2⟩; have hb2 := nx hb1 hb2; obtain ⟨hc2, hf2⟩ := bcell hb2)
          | (go_at_call 18; refine (amCovers_is _ _ _ _ _ _ _ _ _ hcv).mono ?_; rintro e W3 ⟨rfl, hb3⟩; have hb3 := nx hb2 hb3; obtain ⟨hc3, hf3⟩ := bcell hb3)
          | (go_at_call 12; refine (awake_any _ (HV.out.below (new3 w _ _ _))).mono ?_; rintro e W1 ⟨rfl, hb1⟩; obtain ⟨hc1, hf1⟩ := bcell hb1))
        go_ret
        exact ⟨rfl, dn3 hb3⟩
      | true =>
        have H2 : Hid (Cmp a0 b0 (x1 ++ [(a3, b3)])) := h1.lower hcv
        have H1 := Lib.hid h1
        have hcv := Lib.hid hcv
        clear h1
        go_enter Tryd.func9, Tryd.ntmps9
        go_wp2_with (first
          | (have _g := hb3; clear _g; go_at_call 25; refine (room_yes _ _ _ _ _ _ _ _ _ _ _ (HV.out.below (dn3 hb3)) (HR.out.below (dn3 hb3)) hn hm H2).mono ?_; rintro e W4 ⟨rfl, hb4⟩; have hb4 := nx hb3 hb4; obtain ⟨hc4, hf4⟩ := bcell hb4)
          | (have _g := hb1; clear _g; go_at_call 25; refine (room_yes _ _ _ _ _ _ _ _ _ _ _ (HV.out.below (dn3 hb1)) (HR.out.below (dn3 hb1)) hn hm H1).mono ?_; rintro e W2 ⟨rfl, hb2⟩; have hb2 := nx hb1 hb2; obtain ⟨hc2, hf2⟩ := bcell hb2)
          | (go_at_call 18; refine (amCovers_is _ _ _ _ _ _ _ _ _ hcv).mono ?_; rintro e W3 ⟨rfl, hb3⟩; have hb3 := nx hb2 hb3; obtain ⟨hc3, hf3⟩ := bcell hb3)
          | (go_at_call 12; refine (awake_any _ (HV.out.below (new3 w _ _ _))).mono ?_; rintro e W1 ⟨rfl, hb1⟩; obtain ⟨hc1, hf1⟩ := bcell hb1))
        go_ret
        exact ⟨rfl, dn3 hb4⟩
    · have H1 := Lib.hid h1
      clear h1
      go_enter Tryd.func9, Tryd.ntmps9
      go_wp2_with (first
        | (have _g := hb1; clear _g; go_at_call 25; refine (room_no _ _ _ _ _ _ _ _ _ _ _ (HV.out.below (dn3 hb1)) (HR.out.below (dn3 hb1)) hn hm H1).mono ?_; rintro e W2 ⟨rfl, hb2⟩; have hb2 := nx hb1 hb2; obtain ⟨hc2, hf2⟩ := bcell hb2)
        | (go_at_call 12; refine (awake_any _ (HV.out.below (new3 w _ _ _))).mono ?_; rintro e W1 ⟨rfl, hb1⟩; obtain ⟨hc1, hf1⟩ := bcell hb1))
      go_ret
      exact ⟨rfl, dn3 hb2⟩
end Go.Proofs.YtbddgdicnonadaaDoor
