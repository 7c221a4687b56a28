/- AmountLattice walked. -/
import Derived.Test.YtbddgdicnonadaaDoorAmountJoinsW
namespace Go.Proofs.YtbddgdicnonadaaDoor
set_option linter.unusedVariables false
set_option linter.unusedSimpArgs false
open Go.RowKit
theorem neqAm (x y a b : Int) (w : World) : (binOp .neq 25 (.agg #[.int .i64 x, .int .i64 y]) (.agg #[.int .i64 a, .int .i64 b])).run Tryd.prog w = .ok (.bool (!decide (x = a ∧ y = b))) w := by
  have u3 := Tryd.underlying3
  have hS : Tryd.prog.underlying 25 = some (.struct (Tryd.prog.fieldsOf 25)) := by kernel_rfl
  have hp : Tryd.prog.stoodInHeld 25 = false := by kernel_rfl
  rw [run_neq_struct, show (10000 : Nat) = 9999 + 1 from rfl, run_equalIn_agg w 9999 25 _ _ hS hp]
  simp only [Program.fieldsOf, Tryd.underlying25]
  go_simp
  by_cases h1 : x = a <;> by_cases h2 : y = b <;> simp [h1, h2]
theorem dn1' {w : World} {s : ByteArray} {k u h m n p q y z : Int} {W : World} (hW : Below (T5 w s k u h m n p q y z).heap.size (T5 w s k u h m n p q y z) W) {o : Obj} : Below (T5 w s k u h m n p q y z).heap.size (T5 w s k u h m n p q y z) (W.alloc o) := nxA hW o
theorem keepJ {w W : World} {s : ByteArray} {k u h m n p q y z x1 y1 : Int} (hW : Below (T5 w s k u h m n p q y z).heap.size (T5 w s k u h m n p q y z) W) :
    ∀ V, Below (W.alloc (oB x1 y1)).heap.size (W.alloc (oB x1 y1)) V → Below (W.alloc (oB x1 y1)).heap.size (W.alloc (oB x1 y1)) V ∧ S4 V w.heap.size s k u h ∧ E2 V (w.heap.size + 1) m n ∧ E2 V (w.heap.size + 1 + 1) p q ∧ E2 V (w.heap.size + 1 + 1 + 1) y z ∧ E2 V W.heap.size x1 y1 := fun V hV => by
  obtain ⟨_, h1, h2, h3, h4⟩ := keep5 (nx hW (nx (newB W _) hV))
  exact ⟨hV, h1, h2, h3, h4, E2.of hV (by simp) ⟨by simp, by simp⟩⟩
set_option maxHeartbeats 20000000 in
set_option maxRecDepth 8000 in
theorem AmountLattice_walk (s0 : ByteArray) (a0 b0 c0 : Int) (a1 b1 : Int) (a2 b2 : Int) (a3 b3 : Int) (w : World) (hV : Vars w) (wa0 : (Lit.int .i64 a0).wf = true) (wb0 : (Lit.int .i64 b0).wf = true) (wc0 : (Lit.int .i64 c0).wf = true) (wa1 : (Lit.int .i64 a1).wf = true) (wb1 : (Lit.int .i64 b1).wf = true) (wa2 : (Lit.int .i64 a2).wf = true) (wb2 : (Lit.int .i64 b2).wf = true) (wa3 : (Lit.int .i64 a3).wf = true) (wb3 : (Lit.int .i64 b3).wf = true) :
    Calls Tryd.prog 5 #[.agg #[.string s0, .int .i64 a0, .int .i64 b0, .int .i64 c0], .agg #[.int .i64 a1, .int .i64 b1], .agg #[.int .i64 a2, .int .i64 b2], .agg #[.int .i64 a3, .int .i64 b3]] w fun e w' => e = .returned (.bool true) ∧ Below w.heap.size w w' := by
  have HV : Hid (∀ W, Below (T5 w s0 a0 b0 c0 a1 b1 a2 b2 a3 b3).heap.size (T5 w s0 a0 b0 c0 a1 b1 a2 b2 a3 b3) W → Vars W) := fun W hW => hV.below (nx (new4 w _ _ _ _) hW)
  clear hV wa0 wb0 wc0 wa1 wb1 wa2 wb2 wa3 wb3
  obtain ⟨pa, hpa⟩ : ∃ r, Hid (per a0 b0 a1 b1 = r) := ⟨_, rfl⟩
  obtain ⟨pb, hpb⟩ : ∃ r, Hid (per a0 b0 a2 b2 = r) := ⟨_, rfl⟩
  have haa : Hid (cvr a0 b0 a1 b1 a1 b1 = pa) := by show _ = _; rw [cvr_self]; exact hpa.out
  obtain ⟨x1, hx1⟩ : ∃ r, Hid (cvr a0 b0 a1 b1 a2 b2 = r) := ⟨_, rfl⟩
  obtain ⟨x2, hx2⟩ : ∃ r, Hid (cvr a0 b0 a2 b2 a1 b1 = r) := ⟨_, rfl⟩
  obtain ⟨x4, hx4⟩ : ∃ r, Hid (cvr a0 b0 a2 b2 a3 b3 = r) := ⟨_, rfl⟩
  obtain ⟨y1, hy1⟩ : ∃ r, Hid (cvr a0 b0 a3 b3 a1 b1 = r) := ⟨_, rfl⟩
  obtain ⟨y2, hy2⟩ : ∃ r, Hid (cvr a0 b0 a3 b3 a2 b2 = r) := ⟨_, rfl⟩
  have hz0 : Hid (zer 0 0 = true) := by show _ = _; decide
  go_enter Tryd.func5, Tryd.ntmps5
  go_wp2
  go_region_held3 (fun W => Below (T5 w s0 a0 b0 c0 a1 b1 a2 b2 a3 b3).heap.size (T5 w s0 a0 b0 c0 a1 b1 a2 b2 a3 b3) W ∧ S4 W w.heap.size s0 a0 b0 c0 ∧ E2 W (w.heap.size + 1) a1 b1 ∧ E2 W (w.heap.size + 1 + 1) a2 b2 ∧ E2 W (w.heap.size + 1 + 1 + 1) a3 b3)
    (first
      | exact keep5 (Below.refl _ _)
      | exact keep5 (bdD (Below.refl _ _))
      | (go_split_ands; exact keep5 (nx (by assumption) hb4)))
    (first
      | (go_at_call 12; go_split_ands; (with_reducible refine (awake_K ?_ HV).mono ?_); (· assumption); rintro e W4 ⟨rfl, hb4⟩)
      | (go_at_call 18; (with_reducible refine (amCovers_is s0 a0 b0 c0 a1 b1 a1 b1 _ haa).mono ?_); rintro e W4 ⟨rfl, hb4⟩)
      | (go_at_call 22; (with_reducible refine (refPermitted_is s0 a0 b0 c0 a1 b1 _ hpa).mono ?_); rintro e W4 ⟨rfl, hb4⟩))
  go_split_ands
  have HB := Lib.hid (show Below (T5 w s0 a0 b0 c0 a1 b1 a2 b2 a3 b3).heap.size (T5 w s0 a0 b0 c0 a1 b1 a2 b2 a3 b3) W4 by assumption)
  obtain ⟨_, ⟨i0, i1, i2, i3⟩, ⟨k0, k1⟩, ⟨l0, l1⟩, ⟨m0, m1⟩⟩ := keep5 HB.out
  cases x1 with
  | false =>
    cases pa with
    | false =>
      have hj := jm_bad (fun e => ne_true hpa.out e.1 : ¬ (per a0 b0 a1 b1 = true ∧ per a0 b0 a2 b2 = true))
      have hj0 := Lib.hid hj.1
      have hj1 := Lib.hid hj.2
      clear hj
      go_wp2_with (first
        | (go_at_call 18; (with_reducible refine (amCovers_is s0 a0 b0 c0 a1 b1 a2 b2 _ hx1).mono ?_); rintro e Wn ⟨rfl, hbn⟩; replace HB := Lib.hid (nx HB.out hbn); clear hbn; clear i0 i1 i2 i3 k0 k1 l0 l1 m0 m1; obtain ⟨_, ⟨i0, i1, i2, i3⟩, ⟨k0, k1⟩, ⟨l0, l1⟩, ⟨m0, m1⟩⟩ := keep5 HB.out)
        | (go_at_call 22; (with_reducible refine (refPermitted_is s0 a0 b0 c0 a1 b1 _ hpa).mono ?_); rintro e Wn ⟨rfl, hbn⟩; replace HB := Lib.hid (nx HB.out hbn); clear hbn; clear i0 i1 i2 i3 k0 k1 l0 l1 m0 m1; obtain ⟨_, ⟨i0, i1, i2, i3⟩, ⟨k0, k1⟩, ⟨l0, l1⟩, ⟨m0, m1⟩⟩ := keep5 HB.out)
        | (go_at_call 20; (with_reducible refine (join_is s0 a0 b0 c0 a1 b1 a2 b2 _ hj0 hj1).mono ?_); rintro e Wn ⟨rfl, hbn⟩; replace HB := Lib.hid (nx HB.out hbn); clear hbn)
        | (go_at_call 15; (with_reducible refine (zero_is 0 0 _ hz0).mono ?_); rintro e Wn ⟨rfl, hbn⟩; replace HB := Lib.hid (nx HB.out hbn); clear hbn))
      go_ret
      exact ⟨rfl, dn4 HB.out⟩
    | true =>
      cases pb with
      | false =>
        have hj := jm_bad (fun e => ne_true hpb.out e.2 : ¬ (per a0 b0 a1 b1 = true ∧ per a0 b0 a2 b2 = true))
        have hj0 := Lib.hid hj.1
        have hj1 := Lib.hid hj.2
        clear hj
        go_wp2_with (first
          | (go_at_call 18; (with_reducible refine (amCovers_is s0 a0 b0 c0 a1 b1 a2 b2 _ hx1).mono ?_); rintro e Wn ⟨rfl, hbn⟩; replace HB := Lib.hid (nx HB.out hbn); clear hbn; clear i0 i1 i2 i3 k0 k1 l0 l1 m0 m1; obtain ⟨_, ⟨i0, i1, i2, i3⟩, ⟨k0, k1⟩, ⟨l0, l1⟩, ⟨m0, m1⟩⟩ := keep5 HB.out)
          | (go_at_call 22; (with_reducible refine (refPermitted_is s0 a0 b0 c0 a1 b1 _ hpa).mono ?_); rintro e Wn ⟨rfl, hbn⟩; replace HB := Lib.hid (nx HB.out hbn); clear hbn; clear i0 i1 i2 i3 k0 k1 l0 l1 m0 m1; obtain ⟨_, ⟨i0, i1, i2, i3⟩, ⟨k0, k1⟩, ⟨l0, l1⟩, ⟨m0, m1⟩⟩ := keep5 HB.out)
          | (go_at_call 22; (with_reducible refine (refPermitted_is s0 a0 b0 c0 a2 b2 _ hpb).mono ?_); rintro e Wn ⟨rfl, hbn⟩; replace HB := Lib.hid (nx HB.out hbn); clear hbn; clear i0 i1 i2 i3 k0 k1 l0 l1 m0 m1; obtain ⟨_, ⟨i0, i1, i2, i3⟩, ⟨k0, k1⟩, ⟨l0, l1⟩, ⟨m0, m1⟩⟩ := keep5 HB.out)
          | (go_at_call 20; (with_reducible refine (join_is s0 a0 b0 c0 a1 b1 a2 b2 _ hj0 hj1).mono ?_); rintro e Wn ⟨rfl, hbn⟩; replace HB := Lib.hid (nx HB.out hbn); clear hbn)
          | (go_at_call 15; (with_reducible refine (zero_is 0 0 _ hz0).mono ?_); rintro e Wn ⟨rfl, hbn⟩; replace HB := Lib.hid (nx HB.out hbn); clear hbn))
        go_ret
        exact ⟨rfl, dn4 HB.out⟩
      | true =>
        have HPa := hpa
        have HPb := hpb
        obtain ⟨jx, hjx⟩ : ∃ r, Hid (jm a0 b0 a1 b1 a2 b2 = r) := ⟨_, rfl⟩
        obtain ⟨jy, hjy⟩ : ∃ r, Hid (ju a0 b0 a1 b1 a2 b2 = r) := ⟨_, rfl⟩
        have HJa : Hid (cvr a0 b0 jx jy a1 b1 = true) := by show _ = _; rw [← hjx.out, ← hjy.out]; exact cvr_join HPa.out HPb.out
        have HJb : Hid (cvr a0 b0 jx jy a2 b2 = true) := by show _ = _; rw [← hjx.out, ← hjy.out, (j_comm HPa.out HPb.out).1, (j_comm HPa.out HPb.out).2]; exact cvr_join HPb.out HPa.out
        cases y1 with
        | false =>
          go_wp2_with (first
            | (have _t := HJ; clear _t; go_at_call 18; (with_reducible refine (amCovers_is s0 a0 b0 c0 jx jy a1 b1 _ HJa).mono ?_); rintro e Wn ⟨rfl, hbn⟩; replace HJ := Lib.hid (nx HJ.out hbn); clear hbn; clear i0 i1 i2 i3 k0 k1 l0 l1 m0 m1 n0 n1; obtain ⟨_, ⟨i0, i1, i2, i3⟩, ⟨k0, k1⟩, ⟨l0, l1⟩, ⟨m0, m1⟩, ⟨n0, n1⟩⟩ := KJ.out _ HJ.out)
            | (have _t := HJ; clear _t; go_at_call 18; (with_reducible refine (amCovers_is s0 a0 b0 c0 jx jy a2 b2 _ HJb).mono ?_); rintro e Wn ⟨rfl, hbn⟩; replace HJ := Lib.hid (nx HJ.out hbn); clear hbn; clear i0 i1 i2 i3 k0 k1 l0 l1 m0 m1 n0 n1; obtain ⟨_, ⟨i0, i1, i2, i3⟩, ⟨k0, k1⟩, ⟨l0, l1⟩, ⟨m0, m1⟩, ⟨n0, n1⟩⟩ := KJ.out _ HJ.out)
            | (have _t := HJ; clear _t; go_at_call 18; (with_reducible refine (amCovers_is s0 a0 b0 c0 a3 b3 a1 b1 _ hy1).mono ?_); rintro e Wn ⟨rfl, hbn⟩; replace HJ := Lib.hid (nx HJ.out hbn); clear hbn; clear i0 i1 i2 i3 k0 k1 l0 l1 m0 m1 n0 n1; obtain ⟨_, ⟨i0, i1, i2, i3⟩, ⟨k0, k1⟩, ⟨l0, l1⟩, ⟨m0, m1⟩, ⟨n0, n1⟩⟩ := KJ.out _ HJ.out)
            | (go_at_call 18; (with_reducible refine (amCovers_is s0 a0 b0 c0 a1 b1 a2 b2 _ hx1).mono ?_); rintro e Wn ⟨rfl, hbn⟩; replace HB := Lib.hid (nx HB.out hbn); clear hbn; clear i0 i1 i2 i3 k0 k1 l0 l1 m0 m1; obtain ⟨_, ⟨i0, i1, i2, i3⟩, ⟨k0, k1⟩, ⟨l0, l1⟩, ⟨m0, m1⟩⟩ := keep5 HB.out)
            | (go_at_call 22; (with_reducible refine (refPermitted_is s0 a0 b0 c0 a1 b1 _ HPa).mono ?_); rintro e Wn ⟨rfl, hbn⟩; replace HB := Lib.hid (nx HB.out hbn); clear hbn; clear i0 i1 i2 i3 k0 k1 l0 l1 m0 m1; obtain ⟨_, ⟨i0, i1, i2, i3⟩, ⟨k0, k1⟩, ⟨l0, l1⟩, ⟨m0, m1⟩⟩ := keep5 HB.out)
            | (go_at_call 22; (with_reducible refine (refPermitted_is s0 a0 b0 c0 a2 b2 _ HPb).mono ?_); rintro e Wn ⟨rfl, hbn⟩; replace HB := Lib.hid (nx HB.out hbn); clear hbn; clear i0 i1 i2 i3 k0 k1 l0 l1 m0 m1; obtain ⟨_, ⟨i0, i1, i2, i3⟩, ⟨k0, k1⟩, ⟨l0, l1⟩, ⟨m0, m1⟩⟩ := keep5 HB.out)
            | (go_at_call 20; (with_reducible refine (join_is s0 a0 b0 c0 a1 b1 a2 b2 _ hjx hjy).mono ?_); rintro e Wn ⟨rfl, hbn⟩; replace HB := Lib.hid (nx HB.out hbn); clear hbn; clear i0 i1 i2 i3 k0 k1 l0 l1 m0 m1; have KJ := Lib.hid (keepJ (w := w) (s := s0) (k := a0) (u := b0) (h := c0) (m := a1) (n := b1) (p := a2) (q := b2) (y := a3) (z := b3) (x1 := jx) (y1 := jy) HB.out); have HJ := Lib.hid (Below.refl (Wn.alloc (oB jx jy)).heap.size (Wn.alloc (oB jx jy))); obtain ⟨_, ⟨i0, i1, i2, i3⟩, ⟨k0, k1⟩, ⟨l0, l1⟩, ⟨m0, m1⟩, ⟨n0, n1⟩⟩ := KJ.out _ HJ.out))
          go_ret
          exact ⟨rfl, nx (dn4 (dn1' HB.out)) HJ.out⟩
        | true =>
          cases y2 with
          | false =>
            go_wp2_with (first
              | (have _t := HJ; clear _t; go_at_call 18; (with_reducible refine (amCovers_is s0 a0 b0 c0 jx jy a1 b1 _ HJa).mono ?_); rintro e Wn ⟨rfl, hbn⟩; replace HJ := Lib.hid (nx HJ.out hbn); clear hbn; clear i0 i1 i2 i3 k0 k1 l0 l1 m0 m1 n0 n1; obtain ⟨_, ⟨i0, i1, i2, i3⟩, ⟨k0, k1⟩, ⟨l0, l1⟩, ⟨m0, m1⟩, ⟨n0, n1⟩⟩ := KJ.out _ HJ.out)
              | (have _t := HJ; clear _t; go_at_call 18; (with_reducible refine (amCovers_is s0 a0 b0 c0 jx jy a2 b2 _ HJb).mono ?_); rintro e Wn ⟨rfl, hbn⟩; replace HJ := Lib.hid (nx HJ.out hbn); clear hbn; clear i0 i1 i2 i3 k0 k1 l0 l1 m0 m1 n0 n1; obtain ⟨_, ⟨i0, i1, i2, i3⟩, ⟨k0, k1⟩, ⟨l0, l1⟩, ⟨m0, m1⟩, ⟨n0, n1⟩⟩ := KJ.out _ HJ.out)
              | (have _t := HJ; clear _t; go_at_call 18; (with_reducible refine (amCovers_is s0 a0 b0 c0 a3 b3 a1 b1 _ hy1).mono ?_); rintro e Wn ⟨rfl, hbn⟩; replace HJ := Lib.hid (nx HJ.out hbn); clear hbn; clear i0 i1 i2 i3 k0 k1 l0 l1 m0 m1 n0 n1; obtain ⟨_, ⟨i0, i1, i2, i3⟩, ⟨k0, k1⟩, ⟨l0, l1⟩, ⟨m0, m1⟩, ⟨n0, n1⟩⟩ := KJ.out _ HJ.out)
              | (have _t := HJ; clear _t; go_at_call 18; (with_reducible refine (amCovers_is s0 a0 b0 c0 a3 b3 a2 b2 _ hy2).mono ?_); rintro e Wn ⟨rfl, hbn⟩; replace HJ := Lib.hid (nx HJ.out hbn); clear hbn; clear i0 i1 i2 i3 k0 k1 l0 l1 m0 m1 n0 n1; obtain ⟨_, ⟨i0, i1, i2, i3⟩, ⟨k0, k1⟩, ⟨l0, l1⟩, ⟨m0, m1⟩, ⟨n0, n1⟩⟩ := KJ.out _ HJ.out)
              | (go_at_call 18; (with_reducible refine (amCovers_is s0 a0 b0 c0 a1 b1 a2 b2 _ hx1).mono ?_); rintro e Wn ⟨rfl, hbn⟩; replace HB := Lib.hid (nx HB.out hbn); clear hbn; clear i0 i1 i2 i3 k0 k1 l0 l1 m0 m1; obtain ⟨_, ⟨i0, i1, i2, i3⟩, ⟨k0, k1⟩, ⟨l0, l1⟩, ⟨m0, m1⟩⟩ := keep5 HB.out)
              | (go_at_call 22; (with_reducible refine (refPermitted_is s0 a0 b0 c0 a1 b1 _ HPa).mono ?_); rintro e Wn ⟨rfl, hbn⟩; replace HB := Lib.hid (nx HB.out hbn); clear hbn; clear i0 i1 i2 i3 k0 k1 l0 l1 m0 m1; obtain ⟨_, ⟨i0, i1, i2, i3⟩, ⟨k0, k1⟩, ⟨l0, l1⟩, ⟨m0, m1⟩⟩ := keep5 HB.out)
              | (go_at_call 22; (with_reducible refine (refPermitted_is s0 a0 b0 c0 a2 b2 _ HPb).mono ?_); rintro e Wn ⟨rfl, hbn⟩; replace HB := Lib.hid (nx HB.out hbn); clear hbn; clear i0 i1 i2 i3 k0 k1 l0 l1 m0 m1; obtain ⟨_, ⟨i0, i1, i2, i3⟩, ⟨k0, k1⟩, ⟨l0, l1⟩, ⟨m0, m1⟩⟩ := keep5 HB.out)
              | (go_at_call 20; (with_reducible refine (join_is s0 a0 b0 c0 a1 b1 a2 b2 _ hjx hjy).mono ?_); rintro e Wn ⟨rfl, hbn⟩; replace HB := Lib.hid (nx HB.out hbn); clear hbn; clear i0 i1 i2 i3 k0 k1 l0 l1 m0 m1; have KJ := Lib.hid (keepJ (w := w) (s := s0) (k := a0) (u := b0) (h := c0) (m := a1) (n := b1) (p := a2) (q := b2) (y := a3) (z := b3) (x1 := jx) (y1 := jy) HB.out); have HJ := Lib.hid (Below.refl (Wn.alloc (oB jx jy)).heap.size (Wn.alloc (oB jx jy))); obtain ⟨_, ⟨i0, i1, i2, i3⟩, ⟨k0, k1⟩, ⟨l0, l1⟩, ⟨m0, m1⟩, ⟨n0, n1⟩⟩ := KJ.out _ HJ.out))
            go_ret
            exact ⟨rfl, nx (dn4 (dn1' HB.out)) HJ.out⟩
          | true =>
            have HCj : Hid (cvr a0 b0 a3 b3 jx jy = true) := by show _ = _; rw [← hjx.out, ← hjy.out]; exact cvr_least hy1.out hy2.out
            go_wp2_with (first
              | (have _t := HJ; clear _t; go_at_call 18; (with_reducible refine (amCovers_is s0 a0 b0 c0 jx jy a1 b1 _ HJa).mono ?_); rintro e Wn ⟨rfl, hbn⟩; replace HJ := Lib.hid (nx HJ.out hbn); clear hbn; clear i0 i1 i2 i3 k0 k1 l0 l1 m0 m1 n0 n1; obtain ⟨_, ⟨i0, i1, i2, i3⟩, ⟨k0, k1⟩, ⟨l0, l1⟩, ⟨m0, m1⟩, ⟨n0, n1⟩⟩ := KJ.out _ HJ.out)
              | (have _t := HJ; clear _t; go_at_call 18; (with_reducible refine (amCovers_is s0 a0 b0 c0 jx jy a2 b2 _ HJb).mono ?_); rintro e Wn ⟨rfl, hbn⟩; replace HJ := Lib.hid (nx HJ.out hbn); clear hbn; clear i0 i1 i2 i3 k0 k1 l0 l1 m0 m1 n0 n1; obtain ⟨_, ⟨i0, i1, i2, i3⟩, ⟨k0, k1⟩, ⟨l0, l1⟩, ⟨m0, m1⟩, ⟨n0, n1⟩⟩ := KJ.out _ HJ.out)
              | (have _t := HJ; clear _t; go_at_call 18; (with_reducible refine (amCovers_is s0 a0 b0 c0 a3 b3 a1 b1 _ hy1).mono ?_); rintro e Wn ⟨rfl, hbn⟩; replace HJ := Lib.hid (nx HJ.out hbn); clear hbn; clear i0 i1 i2 i3 k0 k1 l0 l1 m0 m1 n0 n1; obtain ⟨_, ⟨i0, i1, i2, i3⟩, ⟨k0, k1⟩, ⟨l0, l1⟩, ⟨m0, m1⟩, ⟨n0, n1⟩⟩ := KJ.out _ HJ.out)
              | (have _t := HJ; clear _t; go_at_call 18; (with_reducible refine (amCovers_is s0 a0 b0 c0 a3 b3 a2 b2 _ hy2).mono ?_); rintro e Wn ⟨rfl, hbn⟩; replace HJ := Lib.hid (nx HJ.out hbn); clear hbn; clear i0 i1 i2 i3 k0 k1 l0 l1 m0 m1 n0 n1; obtain ⟨_, ⟨i0, i1, i2, i3⟩, ⟨k0, k1⟩, ⟨l0, l1⟩, ⟨m0, m1⟩, ⟨n0, n1⟩⟩ := KJ.out _ HJ.out)
              | (have _t := HJ; clear _t; go_at_call 18; (with_reducible refine (amCovers_is s0 a0 b0 c0 a3 b3 jx jy _ HCj).mono ?_); rintro e Wn ⟨rfl, hbn⟩; replace HJ := Lib.hid (nx HJ.out hbn); clear hbn; clear i0 i1 i2 i3 k0 k1 l0 l1 m0 m1 n0 n1; obtain ⟨_, ⟨i0, i1, i2, i3⟩, ⟨k0, k1⟩, ⟨l0, l1⟩, ⟨m0, m1⟩, ⟨n0, n1⟩⟩ := KJ.out _ HJ.out)
              | (go_at_call 18; (with_reducible refine (amCovers_is s0 a0 b0 c0 a1 b1 a2 b2 _ hx1).mono ?_); rintro e Wn ⟨rfl, hbn⟩; replace HB := Lib.hid (nx HB.out hbn); clear hbn; clear i0 i1 i2 i3 k0 k1 l0 l1 m0 m1; obtain ⟨_, ⟨i0, i1, i2, i3⟩, ⟨k0, k1⟩, ⟨l0, l1⟩, ⟨m0, m1⟩⟩ := keep5 HB.out)
              | (go_at_call 22; (with_reducible refine (refPermitted_is s0 a0 b0 c0 a1 b1 _ HPa).mono ?_); rintro e Wn ⟨rfl, hbn⟩; replace HB := Lib.hid (nx HB.out hbn); clear hbn; clear i0 i1 i2 i3 k0 k1 l0 l1 m0 m1; obtain ⟨_, ⟨i0, i1, i2, i3⟩, ⟨k0, k1⟩, ⟨l0, l1⟩, ⟨m0, m1⟩⟩ := keep5 HB.out)
              | (go_at_call 22; (with_reducible refine (refPermitted_is s0 a0 b0 c0 a2 b2 _ HPb).mono ?_); rintro e Wn ⟨rfl, hbn⟩; replace HB := Lib.hid (nx HB.out hbn); clear hbn; clear i0 i1 i2 i3 k0 k1 l0 l1 m0 m1; obtain ⟨_, ⟨i0, i1, i2, i3⟩, ⟨k0, k1⟩, ⟨l0, l1⟩, ⟨m0, m1⟩⟩ := keep5 HB.out)
              | (go_at_call 20; (with_reducible refine (join_is s0 a0 b0 c0 a1 b1 a2 b2 _ hjx hjy).mono ?_); rintro e Wn ⟨rfl, hbn⟩; replace HB := Lib.hid (nx HB.out hbn); clear hbn; clear i0 i1 i2 i3 k0 k1 l0 l1 m0 m1; have KJ := Lib.hid (keepJ (w := w) (s := s0) (k := a0) (u := b0) (h := c0) (m := a1) (n := b1) (p := a2) (q := b2) (y := a3) (z := b3) (x1 := jx) (y1 := jy) HB.out); have HJ := Lib.hid (Below.refl (Wn.alloc (oB jx jy)).heap.size (Wn.alloc (oB jx jy))); obtain ⟨_, ⟨i0, i1, i2, i3⟩, ⟨k0, k1⟩, ⟨l0, l1⟩, ⟨m0, m1⟩, ⟨n0, n1⟩⟩ := KJ.out _ HJ.out))
            go_ret
            exact ⟨rfl, nx (dn4 (dn1' HB.out)) HJ.out⟩
  | true =>
    have HPa : Hid (per a0 b0 a1 b1 = true) := (cvr_per hx1.out).1
    have HPb : Hid (per a0 b0 a2 b2 = true) := (cvr_per hx1.out).2
    obtain ⟨jx, hjx⟩ : ∃ r, Hid (jm a0 b0 a1 b1 a2 b2 = r) := ⟨_, rfl⟩
    obtain ⟨jy, hjy⟩ : ∃ r, Hid (ju a0 b0 a1 b1 a2 b2 = r) := ⟨_, rfl⟩
    have HJa : Hid (cvr a0 b0 jx jy a1 b1 = true) := by show _ = _; rw [← hjx.out, ← hjy.out]; exact cvr_join HPa.out HPb.out
    have HJb : Hid (cvr a0 b0 jx jy a2 b2 = true) := by show _ = _; rw [← hjx.out, ← hjy.out, (j_comm HPa.out HPb.out).1, (j_comm HPa.out HPb.out).2]; exact cvr_join HPb.out HPa.out
    cases x2 with
    | false =>
      cases x4 with
      | false =>
        cases y1 with
        | false =>
          go_wp2_with (first
            | (have _t := HJ; clear _t; go_at_call 18; (with_reducible refine (amCovers_is s0 a0 b0 c0 jx jy a1 b1 _ HJa).mono ?_); rintro e Wn ⟨rfl, hbn⟩; replace HJ := Lib.hid (nx HJ.out hbn); clear hbn; clear i0 i1 i2 i3 k0 k1 l0 l1 m0 m1 n0 n1; obtain ⟨_, ⟨i0, i1, i2, i3⟩, ⟨k0, k1⟩, ⟨l0, l1⟩, ⟨m0, m1⟩, ⟨n0, n1⟩⟩ := KJ.out _ HJ.out)
            | (have _t := HJ; clear _t; go_at_call 18; (with_reducible refine (amCovers_is s0 a0 b0 c0 jx jy a2 b2 _ HJb).mono ?_); rintro e Wn ⟨rfl, hbn⟩; replace HJ := Lib.hid (nx HJ.out hbn); clear hbn; clear i0 i1 i2 i3 k0 k1 l0 l1 m0 m1 n0 n1; obtain ⟨_, ⟨i0, i1, i2, i3⟩, ⟨k0, k1⟩, ⟨l0, l1⟩, ⟨m0, m1⟩, ⟨n0, n1⟩⟩ := KJ.out _ HJ.out)
            | (have _t := HJ; clear _t; go_at_call 18; (with_reducible refine (amCovers_is s0 a0 b0 c0 a3 b3 a1 b1 _ hy1).mono ?_); rintro e Wn ⟨rfl, hbn⟩; replace HJ := Lib.hid (nx HJ.out hbn); clear hbn; clear i0 i1 i2 i3 k0 k1 l0 l1 m0 m1 n0 n1; obtain ⟨_, ⟨i0, i1, i2, i3⟩, ⟨k0, k1⟩, ⟨l0, l1⟩, ⟨m0, m1⟩, ⟨n0, n1⟩⟩ := KJ.out _ HJ.out)
            | (go_at_call 18; (with_reducible refine (amCovers_is s0 a0 b0 c0 a1 b1 a2 b2 _ hx1).mono ?_); rintro e Wn ⟨rfl, hbn⟩; replace HB := Lib.hid (nx HB.out hbn); clear hbn; clear i0 i1 i2 i3 k0 k1 l0 l1 m0 m1; obtain ⟨_, ⟨i0, i1, i2, i3⟩, ⟨k0, k1⟩, ⟨l0, l1⟩, ⟨m0, m1⟩⟩ := keep5 HB.out)
            | (go_at_call 18; (with_reducible refine (amCovers_is s0 a0 b0 c0 a2 b2 a1 b1 _ hx2).mono ?_); rintro e Wn ⟨rfl, hbn⟩; replace HB := Lib.hid (nx HB.out hbn); clear hbn; clear i0 i1 i2 i3 k0 k1 l0 l1 m0 m1; obtain ⟨_, ⟨i0, i1, i2, i3⟩, ⟨k0, k1⟩, ⟨l0, l1⟩, ⟨m0, m1⟩⟩ := keep5 HB.out)
            | (go_at_call 18; (with_reducible refine (amCovers_is s0 a0 b0 c0 a2 b2 a3 b3 _ hx4).mono ?_); rintro e Wn ⟨rfl, hbn⟩; replace HB := Lib.hid (nx HB.out hbn); clear hbn; clear i0 i1 i2 i3 k0 k1 l0 l1 m0 m1; obtain ⟨_, ⟨i0, i1, i2, i3⟩, ⟨k0, k1⟩, ⟨l0, l1⟩, ⟨m0, m1⟩⟩ := keep5 HB.out)
            | (go_at_call 22; (with_reducible refine (refPermitted_is s0 a0 b0 c0 a1 b1 _ HPa).mono ?_); rintro e Wn ⟨rfl, hbn⟩; replace HB := Lib.hid (nx HB.out hbn); clear hbn; clear i0 i1 i2 i3 k0 k1 l0 l1 m0 m1; obtain ⟨_, ⟨i0, i1, i2, i3⟩, ⟨k0, k1⟩, ⟨l0, l1⟩, ⟨m0, m1⟩⟩ := keep5 HB.out)
            | (go_at_call 22; (with_reducible refine (refPermitted_is s0 a0 b0 c0 a2 b2 _ HPb).mono ?_); rintro e Wn ⟨rfl, hbn⟩; replace HB := Lib.hid (nx HB.out hbn); clear hbn; clear i0 i1 i2 i3 k0 k1 l0 l1 m0 m1; obtain ⟨_, ⟨i0, i1, i2, i3⟩, ⟨k0, k1⟩, ⟨l0, l1⟩, ⟨m0, m1⟩⟩ := keep5 HB.out)
            | (go_at_call 20; (with_reducible refine (join_is s0 a0 b0 c0 a1 b1 a2 b2 _ hjx hjy).mono ?_); rintro e Wn ⟨rfl, hbn⟩; replace HB := Lib.hid (nx HB.out hbn); clear hbn; clear i0 i1 i2 i3 k0 k1 l0 l1 m0 m1; have KJ := Lib.hid (keepJ (w := w) (s := s0) (k := a0) (u := b0) (h := c0) (m := a1) (n := b1) (p := a2) (q := b2) (y := a3) (z := b3) (x1 := jx) (y1 := jy) HB.out); have HJ := Lib.hid (Below.refl (Wn.alloc (oB jx jy)).heap.size (Wn.alloc (oB jx jy))); obtain ⟨_, ⟨i0, i1, i2, i3⟩, ⟨k0, k1⟩, ⟨l0, l1⟩, ⟨m0, m1⟩, ⟨n0, n1⟩⟩ := KJ.out _ HJ.out))
          go_ret
          exact ⟨rfl, nx (dn4 (dn1' HB.out)) HJ.out⟩
        | true =>
          cases y2 with
          | false =>
            go_wp2_with (first
              | (have _t := HJ; clear _t; go_at_call 18; (with_reducible refine (amCovers_is s0 a0 b0 c0 jx jy a1 b1 _ HJa).mono ?_); rintro e Wn ⟨rfl, hbn⟩; replace HJ := Lib.hid (nx HJ.out hbn); clear hbn; clear i0 i1 i2 i3 k0 k1 l0 l1 m0 m1 n0 n1; obtain ⟨_, ⟨i0, i1, i2, i3⟩, ⟨k0, k1⟩, ⟨l0, l1⟩, ⟨m0, m1⟩, ⟨n0, n1⟩⟩ := KJ.out _ HJ.out)
              | (have _t := HJ; clear _t; go_at_call 18; (with_reducible refine (amCovers_is s0 a0 b0 c0 jx jy a2 b2 _ HJb).mono ?_); rintro e Wn ⟨rfl, hbn⟩; replace HJ := Lib.hid (nx HJ.out hbn); clear hbn; clear i0 i1 i2 i3 k0 k1 l0 l1 m0 m1 n0 n1; obtain ⟨_, ⟨i0, i1, i2, i3⟩, ⟨k0, k1⟩, ⟨l0, l1⟩, ⟨m0, m1⟩, ⟨n0, n1⟩⟩ := KJ.out _ HJ.out)
              | (have _t := HJ; clear _t; go_at_call 18; (with_reducible refine (amCovers_is s0 a0 b0 c0 a3 b3 a1 b1 _ hy1).mono ?_); rintro e Wn ⟨rfl, hbn⟩; replace HJ := Lib.hid (nx HJ.out hbn); clear hbn; clear i0 i1 i2 i3 k0 k1 l0 l1 m0 m1 n0 n1; obtain ⟨_, ⟨i0, i1, i2, i3⟩, ⟨k0, k1⟩, ⟨l0, l1⟩, ⟨m0, m1⟩, ⟨n0, n1⟩⟩ := KJ.out _ HJ.out)
              | (have _t := HJ; clear _t; go_at_call 18; (with_reducible refine (amCovers_is s0 a0 b0 c0 a3 b3 a2 b2 _ hy2).mono ?_); rintro e Wn ⟨rfl, hbn⟩; replace HJ := Lib.hid (nx HJ.out hbn); clear hbn; clear i0 i1 i2 i3 k0 k1 l0 l1 m0 m1 n0 n1; obtain ⟨_, ⟨i0, i1, i2, i3⟩, ⟨k0, k1⟩, ⟨l0, l1⟩, ⟨m0, m1⟩, ⟨n0, n1⟩⟩ := KJ.out _ HJ.out)
              | (go_at_call 18; (with_reducible refine (amCovers_is s0 a0 b0 c0 a1 b1 a2 b2 _ hx1).mono ?_); rintro e Wn ⟨rfl, hbn⟩; replace HB := Lib.hid (nx HB.out hbn); clear hbn; clear i0 i1 i2 i3 k0 k1 l0 l1 m0 m1; obtain ⟨_, ⟨i0, i1, i2, i3⟩, ⟨k0, k1⟩, ⟨l0, l1⟩, ⟨m0, m1⟩⟩ := keep5 HB.out)
              | (go_at_call 18; (with_reducible refine (amCovers_is s0 a0 b0 c0 a2 b2 a1 b1 _ hx2).mono ?_); rintro e Wn ⟨rfl, hbn⟩; replace HB := Lib.hid (nx HB.out hbn); clear hbn; clear i0 i1 i2 i3 k0 k1 l0 l1 m0 m1; obtain ⟨_, ⟨i0, i1, i2, i3⟩, ⟨k0, k1⟩, ⟨l0, l1⟩, ⟨m0, m1⟩⟩ := keep5 HB.out)
              | (go_at_call 18; (with_reducible refine (amCovers_is s0 a0 b0 c0 a2 b2 a3 b3 _ hx4).mono ?_); rintro e Wn ⟨rfl, hbn⟩; replace HB := Lib.hid (nx HB.out hbn); clear hbn; clear i0 i1 i2 i3 k0 k1 l0 l1 m0 m1; obtain ⟨_, ⟨i0, i1, i2, i3⟩, ⟨k0, k1⟩, ⟨l0, l1⟩, ⟨m0, m1⟩⟩ := keep5 HB.out)
              | (go_at_call 22; (with_reducible refine (refPermitted_is s0 a0 b0 c0 a1 b1 _ HPa).mono ?_); rintro e Wn ⟨rfl, hbn⟩; replace HB := Lib.hid (nx HB.out hbn); clear hbn; clear i0 i1 i2 i3 k0 k1 l0 l1 m0 m1; obtain ⟨_, ⟨i0, i1, i2, i3⟩, ⟨k0, k1⟩, ⟨l0, l1⟩, ⟨m0, m1⟩⟩ := keep5 HB.out)
              | (go_at_call 22; (with_reducible refine (refPermitted_is s0 a0 b0 c0 a2 b2 _ HPb).mono ?_); rintro e Wn ⟨rfl, hbn⟩; replace HB := Lib.hid (nx HB.out hbn); clear hbn; clear i0 i1 i2 i3 k0 k1 l0 l1 m0 m1; obtain ⟨_, ⟨i0, i1, i2, i3⟩, ⟨k0, k1⟩, ⟨l0, l1⟩, ⟨m0, m1⟩⟩ := keep5 HB.out)
              | (go_at_call 20; (with_reducible refine (join_is s0 a0 b0 c0 a1 b1 a2 b2 _ hjx hjy).mono ?_); rintro e Wn ⟨rfl, hbn⟩; replace HB := Lib.hid (nx HB.out hbn); clear hbn; clear i0 i1 i2 i3 k0 k1 l0 l1 m0 m1; have KJ := Lib.hid (keepJ (w := w) (s := s0) (k := a0) (u := b0) (h := c0) (m := a1) (n := b1) (p := a2) (q := b2) (y := a3) (z := b3) (x1 := jx) (y1 := jy) HB.out); have HJ := Lib.hid (Below.refl (Wn.alloc (oB jx jy)).heap.size (Wn.alloc (oB jx jy))); obtain ⟨_, ⟨i0, i1, i2, i3⟩, ⟨k0, k1⟩, ⟨l0, l1⟩, ⟨m0, m1⟩, ⟨n0, n1⟩⟩ := KJ.out _ HJ.out))
            go_ret
            exact ⟨rfl, nx (dn4 (dn1' HB.out)) HJ.out⟩
          | true =>
            have HCj : Hid (cvr a0 b0 a3 b3 jx jy = true) := by show _ = _; rw [← hjx.out, ← hjy.out]; exact cvr_least hy1.out hy2.out
            go_wp2_with (first
              | (have _t := HJ; clear _t; go_at_call 18; (with_reducible refine (amCovers_is s0 a0 b0 c0 jx jy a1 b1 _ HJa).mono ?_); rintro e Wn ⟨rfl, hbn⟩; replace HJ := Lib.hid (nx HJ.out hbn); clear hbn; clear i0 i1 i2 i3 k0 k1 l0 l1 m0 m1 n0 n1; obtain ⟨_, ⟨i0, i1, i2, i3⟩, ⟨k0, k1⟩, ⟨l0, l1⟩, ⟨m0, m1⟩, ⟨n0, n1⟩⟩ := KJ.out _ HJ.out)
              | (have _t := HJ; clear _t; go_at_call 18; (with_reducible refine (amCovers_is s0 a0 b0 c0 jx jy a2 b2 _ HJb).mono ?_); rintro e Wn ⟨rfl, hbn⟩; replace HJ := Lib.hid (nx HJ.out hbn); clear hbn; clear i0 i1 i2 i3 k0 k1 l0 l1 m0 m1 n0 n1; obtain ⟨_, ⟨i0, i1, i2, i3⟩, ⟨k0, k1⟩, ⟨l0, l1⟩, ⟨m0, m1⟩, ⟨n0, n1⟩⟩ := KJ.out _ HJ.out)
              | (have _t := HJ; clear _t; go_at_call 18; (with_reducible refine (amCovers_is s0 a0 b0 c0 a3 b3 a1 b1 _ hy1).mono ?_); rintro e Wn ⟨rfl, hbn⟩; replace HJ := Lib.hid (nx HJ.out hbn); clear hbn; clear i0 i1 i2 i3 k0 k1 l0 l1 m0 m1 n0 n1; obtain ⟨_, ⟨i0, i1, i2, i3⟩, ⟨k0, k1⟩, ⟨l0, l1⟩, ⟨m0, m1⟩, ⟨n0, n1⟩⟩ := KJ.out _ HJ.out)
              | (have _t := HJ; clear _t; go_at_call 18; (with_reducible refine (amCovers_is s0 a0 b0 c0 a3 b3 a2 b2 _ hy2).mono ?_); rintro e Wn ⟨rfl, hbn⟩; replace HJ := Lib.hid (nx HJ.out hbn); clear hbn; clear i0 i1 i2 i3 k0 k1 l0 l1 m0 m1 n0 n1; obtain ⟨_, ⟨i0, i1, i2, i3⟩, ⟨k0, k1⟩, ⟨l0, l1⟩, ⟨m0, m1⟩, ⟨n0, n1⟩⟩ := KJ.out _ HJ.out)
              | (have _t := HJ; clear _t; go_at_call 18; (with_reducible refine (amCovers_is s0 a0 b0 c0 a3 b3 jx jy _ HCj).mono ?_); rintro e Wn ⟨rfl, hbn⟩; replace HJ := Lib.hid (nx HJ.out hbn); clear hbn; clear i0 i1 i2 i3 k0 k1 l0 l1 m0 m1 n0 n1; obtain ⟨_, ⟨i0, i1, i2, i3⟩, ⟨k0, k1⟩, ⟨l0, l1⟩, ⟨m0, m1⟩, ⟨n0, n1⟩⟩ := KJ.out _ HJ.out)
              | (go_at_call 18; (with_reducible refine (amCovers_is s0 a0 b0 c0 a1 b1 a2 b2 _ hx1).mono ?_); rintro e Wn ⟨rfl, hbn⟩; replace HB := Lib.hid (nx HB.out hbn); clear hbn; clear i0 i1 i2 i3 k0 k1 l0 l1 m0 m1; obtain ⟨_, ⟨i0, i1, i2, i3⟩, ⟨k0, k1⟩, ⟨l0, l1⟩, ⟨m0, m1⟩⟩ := keep5 HB.out)
              | (go_at_call 18; (with_reducible refine (amCovers_is s0 a0 b0 c0 a2 b2 a1 b1 _ hx2).mono ?_); rintro e Wn ⟨rfl, hbn⟩; replace HB := Lib.hid (nx HB.out hbn); clear hbn; clear i0 i1 i2 i3 k0 k1 l0 l1 m0 m1; obtain ⟨_, ⟨i0, i1, i2, i3⟩, ⟨k0, k1⟩, ⟨l0, l1⟩, ⟨m0, m1⟩⟩ := keep5 HB.out)
              | (go_at_call 18; (with_reducible refine (amCovers_is s0 a0 b0 c0 a2 b2 a3 b3 _ hx4).mono ?_); rintro e Wn ⟨rfl, hbn⟩; replace HB := Lib.hid (nx HB.out hbn); clear hbn; clear i0 i1 i2 i3 k0 k1 l0 l1 m0 m1; obtain ⟨_, ⟨i0, i1, i2, i3⟩, ⟨k0, k1⟩, ⟨l0, l1⟩, ⟨m0, m1⟩⟩ := keep5 HB.out)
              | (go_at_call 22; (with_reducible refine (refPermitted_is s0 a0 b0 c0 a1 b1 _ HPa).mono ?_); rintro e Wn ⟨rfl, hbn⟩; replace HB := Lib.hid (nx HB.out hbn); clear hbn; clear i0 i1 i2 i3 k0 k1 l0 l1 m0 m1; obtain ⟨_, ⟨i0, i1, i2, i3⟩, ⟨k0, k1⟩, ⟨l0, l1⟩, ⟨m0, m1⟩⟩ := keep5 HB.out)
              | (go_at_call 22; (with_reducible refine (refPermitted_is s0 a0 b0 c0 a2 b2 _ HPb).mono ?_); rintro e Wn ⟨rfl, hbn⟩; replace HB := Lib.hid (nx HB.out hbn); clear hbn; clear i0 i1 i2 i3 k0 k1 l0 l1 m0 m1; obtain ⟨_, ⟨i0, i1, i2, i3⟩, ⟨k0, k1⟩, ⟨l0, l1⟩, ⟨m0, m1⟩⟩ := keep5 HB.out)
              | (go_at_call 20; (with_reducible refine (join_is s0 a0 b0 c0 a1 b1 a2 b2 _ hjx hjy).mono ?_); rintro e Wn ⟨rfl, hbn⟩; replace HB := Lib.hid (nx HB.out hbn); clear hbn; clear i0 i1 i2 i3 k0 k1 l0 l1 m0 m1; have KJ := Lib.hid (keepJ (w := w) (s := s0) (k := a0) (u := b0) (h := c0) (m := a1) (n := b1) (p := a2) (q := b2) (y := a3) (z := b3) (x1 := jx) (y1 := jy) HB.out); have HJ := Lib.hid (Below.refl (Wn.alloc (oB jx jy)).heap.size (Wn.alloc (oB jx jy))); obtain ⟨_, ⟨i0, i1, i2, i3⟩, ⟨k0, k1⟩, ⟨l0, l1⟩, ⟨m0, m1⟩, ⟨n0, n1⟩⟩ := KJ.out _ HJ.out))
            go_ret
            exact ⟨rfl, nx (dn4 (dn1' HB.out)) HJ.out⟩
      | true =>
        have HAC : Hid (cvr a0 b0 a1 b1 a3 b3 = true) := cvr_trans hx1.out hx4.out
        cases y1 with
        | false =>
          go_wp2_with (first
            | (have _t := HJ; clear _t; go_at_call 18; (with_reducible refine (amCovers_is s0 a0 b0 c0 jx jy a1 b1 _ HJa).mono ?_); rintro e Wn ⟨rfl, hbn⟩; replace HJ := Lib.hid (nx HJ.out hbn); clear hbn; clear i0 i1 i2 i3 k0 k1 l0 l1 m0 m1 n0 n1; obtain ⟨_, ⟨i0, i1, i2, i3⟩, ⟨k0, k1⟩, ⟨l0, l1⟩, ⟨m0, m1⟩, ⟨n0, n1⟩⟩ := KJ.out _ HJ.out)
            | (have _t := HJ; clear _t; go_at_call 18; (with_reducible refine (amCovers_is s0 a0 b0 c0 jx jy a2 b2 _ HJb).mono ?_); rintro e Wn ⟨rfl, hbn⟩; replace HJ := Lib.hid (nx HJ.out hbn); clear hbn; clear i0 i1 i2 i3 k0 k1 l0 l1 m0 m1 n0 n1; obtain ⟨_, ⟨i0, i1, i2, i3⟩, ⟨k0, k1⟩, ⟨l0, l1⟩, ⟨m0, m1⟩, ⟨n0, n1⟩⟩ := KJ.out _ HJ.out)
            | (have _t := HJ; clear _t; go_at_call 18; (with_reducible refine (amCovers_is s0 a0 b0 c0 a3 b3 a1 b1 _ hy1).mono ?_); rintro e Wn ⟨rfl, hbn⟩; replace HJ := Lib.hid (nx HJ.out hbn); clear hbn; clear i0 i1 i2 i3 k0 k1 l0 l1 m0 m1 n0 n1; obtain ⟨_, ⟨i0, i1, i2, i3⟩, ⟨k0, k1⟩, ⟨l0, l1⟩, ⟨m0, m1⟩, ⟨n0, n1⟩⟩ := KJ.out _ HJ.out)
            | (go_at_call 18; (with_reducible refine (amCovers_is s0 a0 b0 c0 a1 b1 a2 b2 _ hx1).mono ?_); rintro e Wn ⟨rfl, hbn⟩; replace HB := Lib.hid (nx HB.out hbn); clear hbn; clear i0 i1 i2 i3 k0 k1 l0 l1 m0 m1; obtain ⟨_, ⟨i0, i1, i2, i3⟩, ⟨k0, k1⟩, ⟨l0, l1⟩, ⟨m0, m1⟩⟩ := keep5 HB.out)
            | (go_at_call 18; (with_reducible refine (amCovers_is s0 a0 b0 c0 a2 b2 a1 b1 _ hx2).mono ?_); rintro e Wn ⟨rfl, hbn⟩; replace HB := Lib.hid (nx HB.out hbn); clear hbn; clear i0 i1 i2 i3 k0 k1 l0 l1 m0 m1; obtain ⟨_, ⟨i0, i1, i2, i3⟩, ⟨k0, k1⟩, ⟨l0, l1⟩, ⟨m0, m1⟩⟩ := keep5 HB.out)
            | (go_at_call 18; (with_reducible refine (amCovers_is s0 a0 b0 c0 a2 b2 a3 b3 _ hx4).mono ?_); rintro e Wn ⟨rfl, hbn⟩; replace HB := Lib.hid (nx HB.out hbn); clear hbn; clear i0 i1 i2 i3 k0 k1 l0 l1 m0 m1; obtain ⟨_, ⟨i0, i1, i2, i3⟩, ⟨k0, k1⟩, ⟨l0, l1⟩, ⟨m0, m1⟩⟩ := keep5 HB.out)
            | (go_at_call 18; (with_reducible refine (amCovers_is s0 a0 b0 c0 a1 b1 a3 b3 _ HAC).mono ?_); rintro e Wn ⟨rfl, hbn⟩; replace HB := Lib.hid (nx HB.out hbn); clear hbn; clear i0 i1 i2 i3 k0 k1 l0 l1 m0 m1; obtain ⟨_, ⟨i0, i1, i2, i3⟩, ⟨k0, k1⟩, ⟨l0, l1⟩, ⟨m0, m1⟩⟩ := keep5 HB.out)
            | (go_at_call 22; (with_reducible refine (refPermitted_is s0 a0 b0 c0 a1 b1 _ HPa).mono ?_); rintro e Wn ⟨rfl, hbn⟩; replace HB := Lib.hid (nx HB.out hbn); clear hbn; clear i0 i1 i2 i3 k0 k1 l0 l1 m0 m1; obtain ⟨_, ⟨i0, i1, i2, i3⟩, ⟨k0, k1⟩, ⟨l0, l1⟩, ⟨m0, m1⟩⟩ := keep5 HB.out)
            | (go_at_call 22; (with_reducible refine (refPermitted_is s0 a0 b0 c0 a2 b2 _ HPb).mono ?_); rintro e Wn ⟨rfl, hbn⟩; replace HB := Lib.hid (nx HB.out hbn); clear hbn; clear i0 i1 i2 i3 k0 k1 l0 l1 m0 m1; obtain ⟨_, ⟨i0, i1, i2, i3⟩, ⟨k0, k1⟩, ⟨l0, l1⟩, ⟨m0, m1⟩⟩ := keep5 HB.out)
            | (go_at_call 20; (with_reducible refine (join_is s0 a0 b0 c0 a1 b1 a2 b2 _ hjx hjy).mono ?_); rintro e Wn ⟨rfl, hbn⟩; replace HB := Lib.hid (nx HB.out hbn); clear hbn; clear i0 i1 i2 i3 k0 k1 l0 l1 m0 m1; have KJ := Lib.hid (keepJ (w := w) (s := s0) (k := a0) (u := b0) (h := c0) (m := a1) (n := b1) (p := a2) (q := b2) (y := a3) (z := b3) (x1 := jx) (y1 := jy) HB.out); have HJ := Lib.hid (Below.refl (Wn.alloc (oB jx jy)).heap.size (Wn.alloc (oB jx jy))); obtain ⟨_, ⟨i0, i1, i2, i3⟩, ⟨k0, k1⟩, ⟨l0, l1⟩, ⟨m0, m1⟩, ⟨n0, n1⟩⟩ := KJ.out _ HJ.out))
          go_ret
          exact ⟨rfl, nx (dn4 (dn1' HB.out)) HJ.out⟩
        | true =>
          cases y2 with
          | false =>
            go_wp2_with (first
              | (have _t := HJ; clear _t; go_at_call 18; (with_reducible refine (amCovers_is s0 a0 b0 c0 jx jy a1 b1 _ HJa).mono ?_); rintro e Wn ⟨rfl, hbn⟩; replace HJ := Lib.hid (nx HJ.out hbn); clear hbn; clear i0 i1 i2 i3 k0 k1 l0 l1 m0 m1 n0 n1; obtain ⟨_, ⟨i0, i1, i2, i3⟩, ⟨k0, k1⟩, ⟨l0, l1⟩, ⟨m0, m1⟩, ⟨n0, n1⟩⟩ := KJ.out _ HJ.out)
              | (have _t := HJ; clear _t; go_at_call 18; (with_reducible refine (amCovers_is s0 a0 b0 c0 jx jy a2 b2 _ HJb).mono ?_); rintro e Wn ⟨rfl, hbn⟩; replace HJ := Lib.hid (nx HJ.out hbn); clear hbn; clear i0 i1 i2 i3 k0 k1 l0 l1 m0 m1 n0 n1; obtain ⟨_, ⟨i0, i1, i2, i3⟩, ⟨k0, k1⟩, ⟨l0, l1⟩, ⟨m0, m1⟩, ⟨n0, n1⟩⟩ := KJ.out _ HJ.out)
              | (have _t := HJ; clear _t; go_at_call 18; (with_reducible refine (amCovers_is s0 a0 b0 c0 a3 b3 a1 b1 _ hy1).mono ?_); rintro e Wn ⟨rfl, hbn⟩; replace HJ := Lib.hid (nx HJ.out hbn); clear hbn; clear i0 i1 i2 i3 k0 k1 l0 l1 m0 m1 n0 n1; obtain ⟨_, ⟨i0, i1, i2, i3⟩, ⟨k0, k1⟩, ⟨l0, l1⟩, ⟨m0, m1⟩, ⟨n0, n1⟩⟩ := KJ.out _ HJ.out)
              | (have _t := HJ; clear _t; go_at_call 18; (with_reducible refine (amCovers_is s0 a0 b0 c0 a3 b3 a2 b2 _ hy2).mono ?_); rintro e Wn ⟨rfl, hbn⟩; replace HJ := Lib.hid (nx HJ.out hbn); clear hbn; clear i0 i1 i2 i3 k0 k1 l0 l1 m0 m1 n0 n1; obtain ⟨_, ⟨i0, i1, i2, i3⟩, ⟨k0, k1⟩, ⟨l0, l1⟩, ⟨m0, m1⟩, ⟨n0, n1⟩⟩ := KJ.out _ HJ.out)
              | (go_at_call 18; (with_reducible refine (amCovers_is s0 a0 b0 c0 a1 b1 a2 b2 _ hx1).mono ?_); rintro e Wn ⟨rfl, hbn⟩; replace HB := Lib.hid (nx HB.out hbn); clear hbn; clear i0 i1 i2 i3 k0 k1 l0 l1 m0 m1; obtain ⟨_, ⟨i0, i1, i2, i3⟩, ⟨k0, k1⟩, ⟨l0, l1⟩, ⟨m0, m1⟩⟩ := keep5 HB.out)
              | (go_at_call 18; (with_reducible refine (amCovers_is s0 a0 b0 c0 a2 b2 a1 b1 _ hx2).mono ?_); rintro e Wn ⟨rfl, hbn⟩; replace HB := Lib.hid (nx HB.out hbn); clear hbn; clear i0 i1 i2 i3 k0 k1 l0 l1 m0 m1; obtain ⟨_, ⟨i0, i1, i2, i3⟩, ⟨k0, k1⟩, ⟨l0, l1⟩, ⟨m0, m1⟩⟩ := keep5 HB.out)
              | (go_at_call 18; (with_reducible refine (amCovers_is s0 a0 b0 c0 a2 b2 a3 b3 _ hx4).mono ?_); rintro e Wn ⟨rfl, hbn⟩; replace HB := Lib.hid (nx HB.out hbn); clear hbn; clear i0 i1 i2 i3 k0 k1 l0 l1 m0 m1; obtain ⟨_, ⟨i0, i1, i2, i3⟩, ⟨k0, k1⟩, ⟨l0, l1⟩, ⟨m0, m1⟩⟩ := keep5 HB.out)
              | (go_at_call 18; (with_reducible refine (amCovers_is s0 a0 b0 c0 a1 b1 a3 b3 _ HAC).mono ?_); rintro e Wn ⟨rfl, hbn⟩; replace HB := Lib.hid (nx HB.out hbn); clear hbn; clear i0 i1 i2 i3 k0 k1 l0 l1 m0 m1; obtain ⟨_, ⟨i0, i1, i2, i3⟩, ⟨k0, k1⟩, ⟨l0, l1⟩, ⟨m0, m1⟩⟩ := keep5 HB.out)
              | (go_at_call 22; (with_reducible refine (refPermitted_is s0 a0 b0 c0 a1 b1 _ HPa).mono ?_); rintro e Wn ⟨rfl, hbn⟩; replace HB := Lib.hid (nx HB.out hbn); clear hbn; clear i0 i1 i2 i3 k0 k1 l0 l1 m0 m1; obtain ⟨_, ⟨i0, i1, i2, i3⟩, ⟨k0, k1⟩, ⟨l0, l1⟩, ⟨m0, m1⟩⟩ := keep5 HB.out)
              | (go_at_call 22; (with_reducible refine (refPermitted_is s0 a0 b0 c0 a2 b2 _ HPb).mono ?_); rintro e Wn ⟨rfl, hbn⟩; replace HB := Lib.hid (nx HB.out hbn); clear hbn; clear i0 i1 i2 i3 k0 k1 l0 l1 m0 m1; obtain ⟨_, ⟨i0, i1, i2, i3⟩, ⟨k0, k1⟩, ⟨l0, l1⟩, ⟨m0, m1⟩⟩ := keep5 HB.out)
              | (go_at_call 20; (with_reducible refine (join_is s0 a0 b0 c0 a1 b1 a2 b2 _ hjx hjy).mono ?_); rintro e Wn ⟨rfl, hbn⟩; replace HB := Lib.hid (nx HB.out hbn); clear hbn; clear i0 i1 i2 i3 k0 k1 l0 l1 m0 m1; have KJ := Lib.hid (keepJ (w := w) (s := s0) (k := a0) (u := b0) (h := c0) (m := a1) (n := b1) (p := a2) (q := b2) (y := a3) (z := b3) (x1 := jx) (y1 := jy) HB.out); have HJ := Lib.hid (Below.refl (Wn.alloc (oB jx jy)).heap.size (Wn.alloc (oB jx jy))); obtain ⟨_, ⟨i0, i1, i2, i3⟩, ⟨k0, k1⟩, ⟨l0, l1⟩, ⟨m0, m1⟩, ⟨n0, n1⟩⟩ := KJ.out _ HJ.out))
            go_ret
            exact ⟨rfl, nx (dn4 (dn1' HB.out)) HJ.out⟩
          | true =>
            have HCj : Hid (cvr a0 b0 a3 b3 jx jy = true) := by show _ = _; rw [← hjx.out, ← hjy.out]; exact cvr_least hy1.out hy2.out
            go_wp2_with (first
              | (have _t := HJ; clear _t; go_at_call 18; (with_reducible refine (amCovers_is s0 a0 b0 c0 jx jy a1 b1 _ HJa).mono ?_); rintro e Wn ⟨rfl, hbn⟩; replace HJ := Lib.hid (nx HJ.out hbn); clear hbn; clear i0 i1 i2 i3 k0 k1 l0 l1 m0 m1 n0 n1; obtain ⟨_, ⟨i0, i1, i2, i3⟩, ⟨k0, k1⟩, ⟨l0, l1⟩, ⟨m0, m1⟩, ⟨n0, n1⟩⟩ := KJ.out _ HJ.out)
              | (have _t := HJ; clear _t; go_at_call 18; (with_reducible refine (amCovers_is s0 a0 b0 c0 jx jy a2 b2 _ HJb).mono ?_); rintro e Wn ⟨rfl, hbn⟩; replace HJ := Lib.hid (nx HJ.out hbn); clear hbn; clear i0 i1 i2 i3 k0 k1 l0 l1 m0 m1 n0 n1; obtain ⟨_, ⟨i0, i1, i2, i3⟩, ⟨k0, k1⟩, ⟨l0, l1⟩, ⟨m0, m1⟩, ⟨n0, n1⟩⟩ := KJ.out _ HJ.out)
              | (have _t := HJ; clear _t; go_at_call 18; (with_reducible refine (amCovers_is s0 a0 b0 c0 a3 b3 a1 b1 _ hy1).mono ?_); rintro e Wn ⟨rfl, hbn⟩; replace HJ := Lib.hid (nx HJ.out hbn); clear hbn; clear i0 i1 i2 i3 k0 k1 l0 l1 m0 m1 n0 n1; obtain ⟨_, ⟨i0, i1, i2, i3⟩, ⟨k0, k1⟩, ⟨l0, l1⟩, ⟨m0, m1⟩, ⟨n0, n1⟩⟩ := KJ.out _ HJ.out)
              | (have _t := HJ; clear _t; go_at_call 18; (with_reducible refine (amCovers_is s0 a0 b0 c0 a3 b3 a2 b2 _ hy2).mono ?_); rintro e Wn ⟨rfl, hbn⟩; replace HJ := Lib.hid (nx HJ.out hbn); clear hbn; clear i0 i1 i2 i3 k0 k1 l0 l1 m0 m1 n0 n1; obtain ⟨_, ⟨i0, i1, i2, i3⟩, ⟨k0, k1⟩, ⟨l0, l1⟩, ⟨m0, m1⟩, ⟨n0, n1⟩⟩ := KJ.out _ HJ.out)
              | (have _t := HJ; clear _t; go_at_call 18; (with_reducible refine (amCovers_is s0 a0 b0 c0 a3 b3 jx jy _ HCj).mono ?_); rintro e Wn ⟨rfl, hbn⟩; replace HJ := Lib.hid (nx HJ.out hbn); clear hbn; clear i0 i1 i2 i3 k0 k1 l0 l1 m0 m1 n0 n1; obtain ⟨_, ⟨i0, i1, i2, i3⟩, ⟨k0, k1⟩, ⟨l0, l1⟩, ⟨m0, m1⟩, ⟨n0, n1⟩⟩ := KJ.out _ HJ.out)
              | (go_at_call 18; (with_reducible refine (amCovers_is s0 a0 b0 c0 a1 b1 a2 b2 _ hx1).mono ?_); rintro e Wn ⟨rfl, hbn⟩; replace HB := Lib.hid (nx HB.out hbn); clear hbn; clear i0 i1 i2 i3 k0 k1 l0 l1 m0 m1; obtain ⟨_, ⟨i0, i1, i2, i3⟩, ⟨k0, k1⟩, ⟨l0, l1⟩, ⟨m0, m1⟩⟩ := keep5 HB.out)
              | (go_at_call 18; (with_reducible refine (amCovers_is s0 a0 b0 c0 a2 b2 a1 b1 _ hx2).mono ?_); rintro e Wn ⟨rfl, hbn⟩; replace HB := Lib.hid (nx HB.out hbn); clear hbn; clear i0 i1 i2 i3 k0 k1 l0 l1 m0 m1; obtain ⟨_, ⟨i0, i1, i2, i3⟩, ⟨k0, k1⟩, ⟨l0, l1⟩, ⟨m0, m1⟩⟩ := keep5 HB.out)
              | (go_at_call 18; (with_reducible refine (amCovers_is s0 a0 b0 c0 a2 b2 a3 b3 _ hx4).mono ?_); rintro e Wn ⟨rfl, hbn⟩; replace HB := Lib.hid (nx HB.out hbn); clear hbn; clear i0 i1 i2 i3 k0 k1 l0 l1 m0 m1; obtain ⟨_, ⟨i0, i1, i2, i3⟩, ⟨k0, k1⟩, ⟨l0, l1⟩, ⟨m0, m1⟩⟩ := keep5 HB.out)
              | (go_at_call 18; (with_reducible refine (amCovers_is s0 a0 b0 c0 a1 b1 a3 b3 _ HAC).mono ?_); rintro e Wn ⟨rfl, hbn⟩; replace HB := Lib.hid (nx HB.out hbn); clear hbn; clear i0 i1 i2 i3 k0 k1 l0 l1 m0 m1; obtain ⟨_, ⟨i0, i1, i2, i3⟩, ⟨k0, k1⟩, ⟨l0, l1⟩, ⟨m0, m1⟩⟩ := keep5 HB.out)
              | (go_at_call 22; (with_reducible refine (refPermitted_is s0 a0 b0 c0 a1 b1 _ HPa).mono ?_); rintro e Wn ⟨rfl, hbn⟩; replace HB := Lib.hid (nx HB.out hbn); clear hbn; clear i0 i1 i2 i3 k0 k1 l0 l1 m0 m1; obtain ⟨_, ⟨i0, i1, i2, i3⟩, ⟨k0, k1⟩, ⟨l0, l1⟩, ⟨m0, m1⟩⟩ := keep5 HB.out)
              | (go_at_call 22; (with_reducible refine (refPermitted_is s0 a0 b0 c0 a2 b2 _ HPb).mono ?_); rintro e Wn ⟨rfl, hbn⟩; replace HB := Lib.hid (nx HB.out hbn); clear hbn; clear i0 i1 i2 i3 k0 k1 l0 l1 m0 m1; obtain ⟨_, ⟨i0, i1, i2, i3⟩, ⟨k0, k1⟩, ⟨l0, l1⟩, ⟨m0, m1⟩⟩ := keep5 HB.out)
              | (go_at_call 20; (with_reducible refine (join_is s0 a0 b0 c0 a1 b1 a2 b2 _ hjx hjy).mono ?_); rintro e Wn ⟨rfl, hbn⟩; replace HB := Lib.hid (nx HB.out hbn); clear hbn; clear i0 i1 i2 i3 k0 k1 l0 l1 m0 m1; have KJ := Lib.hid (keepJ (w := w) (s := s0) (k := a0) (u := b0) (h := c0) (m := a1) (n := b1) (p := a2) (q := b2) (y := a3) (z := b3) (x1 := jx) (y1 := jy) HB.out); have HJ := Lib.hid (Below.refl (Wn.alloc (oB jx jy)).heap.size (Wn.alloc (oB jx jy))); obtain ⟨_, ⟨i0, i1, i2, i3⟩, ⟨k0, k1⟩, ⟨l0, l1⟩, ⟨m0, m1⟩, ⟨n0, n1⟩⟩ := KJ.out _ HJ.out))
            go_ret
            exact ⟨rfl, nx (dn4 (dn1' HB.out)) HJ.out⟩
    | true =>
      have hne : ∀ W, (binOp .neq 25 (.agg #[.int .i64 a1, .int .i64 b1]) (.agg #[.int .i64 a2, .int .i64 b2])).run Tryd.prog W = .ok (.bool false) W := fun W => by rw [neqAm, decide_eq_true (cvr_anti hx1.out hx2.out)]; rfl
      cases x4 with
      | false =>
        cases y1 with
        | false =>
          go_wp2_with (first
            | (have _t := HJ; clear _t; go_at_call 18; (with_reducible refine (amCovers_is s0 a0 b0 c0 jx jy a1 b1 _ HJa).mono ?_); rintro e Wn ⟨rfl, hbn⟩; replace HJ := Lib.hid (nx HJ.out hbn); clear hbn; clear i0 i1 i2 i3 k0 k1 l0 l1 m0 m1 n0 n1; obtain ⟨_, ⟨i0, i1, i2, i3⟩, ⟨k0, k1⟩, ⟨l0, l1⟩, ⟨m0, m1⟩, ⟨n0, n1⟩⟩ := KJ.out _ HJ.out)
            | (have _t := HJ; clear _t; go_at_call 18; (with_reducible refine (amCovers_is s0 a0 b0 c0 jx jy a2 b2 _ HJb).mono ?_); rintro e Wn ⟨rfl, hbn⟩; replace HJ := Lib.hid (nx HJ.out hbn); clear hbn; clear i0 i1 i2 i3 k0 k1 l0 l1 m0 m1 n0 n1; obtain ⟨_, ⟨i0, i1, i2, i3⟩, ⟨k0, k1⟩, ⟨l0, l1⟩, ⟨m0, m1⟩, ⟨n0, n1⟩⟩ := KJ.out _ HJ.out)
            | (have _t := HJ; clear _t; go_at_call 18; (with_reducible refine (amCovers_is s0 a0 b0 c0 a3 b3 a1 b1 _ hy1).mono ?_); rintro e Wn ⟨rfl, hbn⟩; replace HJ := Lib.hid (nx HJ.out hbn); clear hbn; clear i0 i1 i2 i3 k0 k1 l0 l1 m0 m1 n0 n1; obtain ⟨_, ⟨i0, i1, i2, i3⟩, ⟨k0, k1⟩, ⟨l0, l1⟩, ⟨m0, m1⟩, ⟨n0, n1⟩⟩ := KJ.out _ HJ.out)
            | (go_at_call 18; (with_reducible refine (amCovers_is s0 a0 b0 c0 a1 b1 a2 b2 _ hx1).mono ?_); rintro e Wn ⟨rfl, hbn⟩; replace HB := Lib.hid (nx HB.out hbn); clear hbn; clear i0 i1 i2 i3 k0 k1 l0 l1 m0 m1; obtain ⟨_, ⟨i0, i1, i2, i3⟩, ⟨k0, k1⟩, ⟨l0, l1⟩, ⟨m0, m1⟩⟩ := keep5 HB.out)
            | (go_at_call 18; (with_reducible refine (amCovers_is s0 a0 b0 c0 a2 b2 a1 b1 _ hx2).mono ?_); rintro e Wn ⟨rfl, hbn⟩; replace HB := Lib.hid (nx HB.out hbn); clear hbn; clear i0 i1 i2 i3 k0 k1 l0 l1 m0 m1; obtain ⟨_, ⟨i0, i1, i2, i3⟩, ⟨k0, k1⟩, ⟨l0, l1⟩, ⟨m0, m1⟩⟩ := keep5 HB.out)
            | (go_at_call 18; (with_reducible refine (amCovers_is s0 a0 b0 c0 a2 b2 a3 b3 _ hx4).mono ?_); rintro e Wn ⟨rfl, hbn⟩; replace HB := Lib.hid (nx HB.out hbn); clear hbn; clear i0 i1 i2 i3 k0 k1 l0 l1 m0 m1; obtain ⟨_, ⟨i0, i1, i2, i3⟩, ⟨k0, k1⟩, ⟨l0, l1⟩, ⟨m0, m1⟩⟩ := keep5 HB.out)
            | (go_at_call 22; (with_reducible refine (refPermitted_is s0 a0 b0 c0 a1 b1 _ HPa).mono ?_); rintro e Wn ⟨rfl, hbn⟩; replace HB := Lib.hid (nx HB.out hbn); clear hbn; clear i0 i1 i2 i3 k0 k1 l0 l1 m0 m1; obtain ⟨_, ⟨i0, i1, i2, i3⟩, ⟨k0, k1⟩, ⟨l0, l1⟩, ⟨m0, m1⟩⟩ := keep5 HB.out)
            | (go_at_call 22; (with_reducible refine (refPermitted_is s0 a0 b0 c0 a2 b2 _ HPb).mono ?_); rintro e Wn ⟨rfl, hbn⟩; replace HB := Lib.hid (nx HB.out hbn); clear hbn; clear i0 i1 i2 i3 k0 k1 l0 l1 m0 m1; obtain ⟨_, ⟨i0, i1, i2, i3⟩, ⟨k0, k1⟩, ⟨l0, l1⟩, ⟨m0, m1⟩⟩ := keep5 HB.out)
            | (go_at_call 20; (with_reducible refine (join_is s0 a0 b0 c0 a1 b1 a2 b2 _ hjx hjy).mono ?_); rintro e Wn ⟨rfl, hbn⟩; replace HB := Lib.hid (nx HB.out hbn); clear hbn; clear i0 i1 i2 i3 k0 k1 l0 l1 m0 m1; have KJ := Lib.hid (keepJ (w := w) (s := s0) (k := a0) (u := b0) (h := c0) (m := a1) (n := b1) (p := a2) (q := b2) (y := a3) (z := b3) (x1 := jx) (y1 := jy) HB.out); have HJ := Lib.hid (Below.refl (Wn.alloc (oB jx jy)).heap.size (Wn.alloc (oB jx jy))); obtain ⟨_, ⟨i0, i1, i2, i3⟩, ⟨k0, k1⟩, ⟨l0, l1⟩, ⟨m0, m1⟩, ⟨n0, n1⟩⟩ := KJ.out _ HJ.out))
          go_ret
          exact ⟨rfl, nx (dn4 (dn1' HB.out)) HJ.out⟩
        | true =>
          cases y2 with
          | false =>
            go_wp2_with (first
              | (have _t := HJ; clear _t; go_at_call 18; (with_reducible refine (amCovers_is s0 a0 b0 c0 jx jy a1 b1 _ HJa).mono ?_); rintro e Wn ⟨rfl, hbn⟩; replace HJ := Lib.hid (nx HJ.out hbn); clear hbn; clear i0 i1 i2 i3 k0 k1 l0 l1 m0 m1 n0 n1; obtain ⟨_, ⟨i0, i1, i2, i3⟩, ⟨k0, k1⟩, ⟨l0, l1⟩, ⟨m0, m1⟩, ⟨n0, n1⟩⟩ := KJ.out _ HJ.out)
              | (have _t := HJ; clear _t; go_at_call 18; (with_reducible refine (amCovers_is s0 a0 b0 c0 jx jy a2 b2 _ HJb).mono ?_); rintro e Wn ⟨rfl, hbn⟩; replace HJ := Lib.hid (nx HJ.out hbn); clear hbn; clear i0 i1 i2 i3 k0 k1 l0 l1 m0 m1 n0 n1; obtain ⟨_, ⟨i0, i1, i2, i3⟩, ⟨k0, k1⟩, ⟨l0, l1⟩, ⟨m0, m1⟩, ⟨n0, n1⟩⟩ := KJ.out _ HJ.out)
              | (have _t := HJ; clear _t; go_at_call 18; (with_reducible refine (amCovers_is s0 a0 b0 c0 a3 b3 a1 b1 _ hy1).mono ?_); rintro e Wn ⟨rfl, hbn⟩; replace HJ := Lib.hid (nx HJ.out hbn); clear hbn; clear i0 i1 i2 i3 k0 k1 l0 l1 m0 m1 n0 n1; obtain ⟨_, ⟨i0, i1, i2, i3⟩, ⟨k0, k1⟩, ⟨l0, l1⟩, ⟨m0, m1⟩, ⟨n0, n1⟩⟩ := KJ.out _ HJ.out)
              | (have _t := HJ; clear _t; go_at_call 18; (with_reducible refine (amCovers_is s0 a0 b0 c0 a3 b3 a2 b2 _ hy2).mono ?_); rintro e Wn ⟨rfl, hbn⟩; replace HJ := Lib.hid (nx HJ.out hbn); clear hbn; clear i0 i1 i2 i3 k0 k1 l0 l1 m0 m1 n0 n1; obtain ⟨_, ⟨i0, i1, i2, i3⟩, ⟨k0, k1⟩, ⟨l0, l1⟩, ⟨m0, m1⟩, ⟨n0, n1⟩⟩ := KJ.out _ HJ.out)
              | (go_at_call 18; (with_reducible refine (amCovers_is s0 a0 b0 c0 a1 b1 a2 b2 _ hx1).mono ?_); rintro e Wn ⟨rfl, hbn⟩; replace HB := Lib.hid (nx HB.out hbn); clear hbn; clear i0 i1 i2 i3 k0 k1 l0 l1 m0 m1; obtain ⟨_, ⟨i0, i1, i2, i3⟩, ⟨k0, k1⟩, ⟨l0, l1⟩, ⟨m0, m1⟩⟩ := keep5 HB.out)
              | (go_at_call 18; (with_reducible refine (amCovers_is s0 a0 b0 c0 a2 b2 a1 b1 _ hx2).mono ?_); rintro e Wn ⟨rfl, hbn⟩; replace HB := Lib.hid (nx HB.out hbn); clear hbn; clear i0 i1 i2 i3 k0 k1 l0 l1 m0 m1; obtain ⟨_, ⟨i0, i1, i2, i3⟩, ⟨k0, k1⟩, ⟨l0, l1⟩, ⟨m0, m1⟩⟩ := keep5 HB.out)
              | (go_at_call 18; (with_reducible refine (amCovers_is s0 a0 b0 c0 a2 b2 a3 b3 _ hx4).mono ?_); rintro e Wn ⟨rfl, hbn⟩; replace HB := Lib.hid (nx HB.out hbn); clear hbn; clear i0 i1 i2 i3 k0 k1 l0 l1 m0 m1; obtain ⟨_, ⟨i0, i1, i2, i3⟩, ⟨k0, k1⟩, ⟨l0, l1⟩, ⟨m0, m1⟩⟩ := keep5 HB.out)
              | (go_at_call 22; (with_reducible refine (refPermitted_is s0 a0 b0 c0 a1 b1 _ HPa).mono ?_); rintro e Wn ⟨rfl, hbn⟩; replace HB := Lib.hid (nx HB.out hbn); clear hbn; clear i0 i1 i2 i3 k0 k1 l0 l1 m0 m1; obtain ⟨_, ⟨i0, i1, i2, i3⟩, ⟨k0, k1⟩, ⟨l0, l1⟩, ⟨m0, m1⟩⟩ := keep5 HB.out)
              | (go_at_call 22; (with_reducible refine (refPermitted_is s0 a0 b0 c0 a2 b2 _ HPb).mono ?_); rintro e Wn ⟨rfl, hbn⟩; replace HB := Lib.hid (nx HB.out hbn); clear hbn; clear i0 i1 i2 i3 k0 k1 l0 l1 m0 m1; obtain ⟨_, ⟨i0, i1, i2, i3⟩, ⟨k0, k1⟩, ⟨l0, l1⟩, ⟨m0, m1⟩⟩ := keep5 HB.out)
              | (go_at_call 20; (with_reducible refine (join_is s0 a0 b0 c0 a1 b1 a2 b2 _ hjx hjy).mono ?_); rintro e Wn ⟨rfl, hbn⟩; replace HB := Lib.hid (nx HB.out hbn); clear hbn; clear i0 i1 i2 i3 k0 k1 l0 l1 m0 m1; have KJ := Lib.hid (keepJ (w := w) (s := s0) (k := a0) (u := b0) (h := c0) (m := a1) (n := b1) (p := a2) (q := b2) (y := a3) (z := b3) (x1 := jx) (y1 := jy) HB.out); have HJ := Lib.hid (Below.refl (Wn.alloc (oB jx jy)).heap.size (Wn.alloc (oB jx jy))); obtain ⟨_, ⟨i0, i1, i2, i3⟩, ⟨k0, k1⟩, ⟨l0, l1⟩, ⟨m0, m1⟩, ⟨n0, n1⟩⟩ := KJ.out _ HJ.out))
            go_ret
            exact ⟨rfl, nx (dn4 (dn1' HB.out)) HJ.out⟩
          | true =>
            have HCj : Hid (cvr a0 b0 a3 b3 jx jy = true) := by show _ = _; rw [← hjx.out, ← hjy.out]; exact cvr_least hy1.out hy2.out
            go_wp2_with (first
              | (have _t := HJ; clear _t; go_at_call 18; (with_reducible refine (amCovers_is s0 a0 b0 c0 jx jy a1 b1 _ HJa).mono ?_); rintro e Wn ⟨rfl, hbn⟩; replace HJ := Lib.hid (nx HJ.out hbn); clear hbn; clear i0 i1 i2 i3 k0 k1 l0 l1 m0 m1 n0 n1; obtain ⟨_, ⟨i0, i1, i2, i3⟩, ⟨k0, k1⟩, ⟨l0, l1⟩, ⟨m0, m1⟩, ⟨n0, n1⟩⟩ := KJ.out _ HJ.out)
              | (have _t := HJ; clear _t; go_at_call 18; (with_reducible refine (amCovers_is s0 a0 b0 c0 jx jy a2 b2 _ HJb).mono ?_); rintro e Wn ⟨rfl, hbn⟩; replace HJ := Lib.hid (nx HJ.out hbn); clear hbn; clear i0 i1 i2 i3 k0 k1 l0 l1 m0 m1 n0 n1; obtain ⟨_, ⟨i0, i1, i2, i3⟩, ⟨k0, k1⟩, ⟨l0, l1⟩, ⟨m0, m1⟩, ⟨n0, n1⟩⟩ := KJ.out _ HJ.out)
              | (have _t := HJ; clear _t; go_at_call 18; (with_reducible refine (amCovers_is s0 a0 b0 c0 a3 b3 a1 b1 _ hy1).mono ?_); rintro e Wn ⟨rfl, hbn⟩; replace HJ := Lib.hid (nx HJ.out hbn); clear hbn; clear i0 i1 i2 i3 k0 k1 l0 l1 m0 m1 n0 n1; obtain ⟨_, ⟨i0, i1, i2, i3⟩, ⟨k0, k1⟩, ⟨l0, l1⟩, ⟨m0, m1⟩, ⟨n0, n1⟩⟩ := KJ.out _ HJ.out)
              | (have _t := HJ; clear _t; go_at_call 18; (with_reducible refine (amCovers_is s0 a0 b0 c0 a3 b3 a2 b2 _ hy2).mono ?_); rintro e Wn ⟨rfl, hbn⟩; replace HJ := Lib.hid (nx HJ.out hbn); clear hbn; clear i0 i1 i2 i3 k0 k1 l0 l1 m0 m1 n0 n1; obtain ⟨_, ⟨i0, i1, i2, i3⟩, ⟨k0, k1⟩, ⟨l0, l1⟩, ⟨m0, m1⟩, ⟨n0, n1⟩⟩ := KJ.out _ HJ.out)
              | (have _t := HJ; clear _t; go_at_call 18; (with_reducible refine (amCovers_is s0 a0 b0 c0 a3 b3 jx jy _ HCj).mono ?_); rintro e Wn ⟨rfl, hbn⟩; replace HJ := Lib.hid (nx HJ.out hbn); clear hbn; clear i0 i1 i2 i3 k0 k1 l0 l1 m0 m1 n0 n1; obtain ⟨_, ⟨i0, i1, i2, i3⟩, ⟨k0, k1⟩, ⟨l0, l1⟩, ⟨m0, m1⟩, ⟨n0, n1⟩⟩ := KJ.out _ HJ.out)
              | (go_at_call 18; (with_reducible refine (amCovers_is s0 a0 b0 c0 a1 b1 a2 b2 _ hx1).mono ?_); rintro e Wn ⟨rfl, hbn⟩; replace HB := Lib.hid (nx HB.out hbn); clear hbn; clear i0 i1 i2 i3 k0 k1 l0 l1 m0 m1; obtain ⟨_, ⟨i0, i1, i2, i3⟩, ⟨k0, k1⟩, ⟨l0, l1⟩, ⟨m0, m1⟩⟩ := keep5 HB.out)
              | (go_at_call 18; (with_reducible refine (amCovers_is s0 a0 b0 c0 a2 b2 a1 b1 _ hx2).mono ?_); rintro e Wn ⟨rfl, hbn⟩; replace HB := Lib.hid (nx HB.out hbn); clear hbn; clear i0 i1 i2 i3 k0 k1 l0 l1 m0 m1; obtain ⟨_, ⟨i0, i1, i2, i3⟩, ⟨k0, k1⟩, ⟨l0, l1⟩, ⟨m0, m1⟩⟩ := keep5 HB.out)
              | (go_at_call 18; (with_reducible refine (amCovers_is s0 a0 b0 c0 a2 b2 a3 b3 _ hx4).mono ?_); rintro e Wn ⟨rfl, hbn⟩; replace HB := Lib.hid (nx HB.out hbn); clear hbn; clear i0 i1 i2 i3 k0 k1 l0 l1 m0 m1; obtain ⟨_, ⟨i0, i1, i2, i3⟩, ⟨k0, k1⟩, ⟨l0, l1⟩, ⟨m0, m1⟩⟩ := keep5 HB.out)
              | (go_at_call 22; (with_reducible refine (refPermitted_is s0 a0 b0 c0 a1 b1 _ HPa).mono ?_); rintro e Wn ⟨rfl, hbn⟩; replace HB := Lib.hid (nx HB.out hbn); clear hbn; clear i0 i1 i2 i3 k0 k1 l0 l1 m0 m1; obtain ⟨_, ⟨i0, i1, i2, i3⟩, ⟨k0, k1⟩, ⟨l0, l1⟩, ⟨m0, m1⟩⟩ := keep5 HB.out)
              | (go_at_call 22; (with_reducible refine (refPermitted_is s0 a0 b0 c0 a2 b2 _ HPb).mono ?_); rintro e Wn ⟨rfl, hbn⟩; replace HB := Lib.hid (nx HB.out hbn); clear hbn; clear i0 i1 i2 i3 k0 k1 l0 l1 m0 m1; obtain ⟨_, ⟨i0, i1, i2, i3⟩, ⟨k0, k1⟩, ⟨l0, l1⟩, ⟨m0, m1⟩⟩ := keep5 HB.out)
              | (go_at_call 20; (with_reducible refine (join_is s0 a0 b0 c0 a1 b1 a2 b2 _ hjx hjy).mono ?_); rintro e Wn ⟨rfl, hbn⟩; replace HB := Lib.hid (nx HB.out hbn); clear hbn; clear i0 i1 i2 i3 k0 k1 l0 l1 m0 m1; have KJ := Lib.hid (keepJ (w := w) (s := s0) (k := a0) (u := b0) (h := c0) (m := a1) (n := b1) (p := a2) (q := b2) (y := a3) (z := b3) (x1 := jx) (y1 := jy) HB.out); have HJ := Lib.hid (Below.refl (Wn.alloc (oB jx jy)).heap.size (Wn.alloc (oB jx jy))); obtain ⟨_, ⟨i0, i1, i2, i3⟩, ⟨k0, k1⟩, ⟨l0, l1⟩, ⟨m0, m1⟩, ⟨n0, n1⟩⟩ := KJ.out _ HJ.out))
            go_ret
            exact ⟨rfl, nx (dn4 (dn1' HB.out)) HJ.out⟩
      | true =>
        have HAC : Hid (cvr a0 b0 a1 b1 a3 b3 = true) := cvr_trans hx1.out hx4.out
        cases y1 with
        | false =>
          go_wp2_with (first
            | (have _t := HJ; clear _t; go_at_call 18; (with_reducible refine (amCovers_is s0 a0 b0 c0 jx jy a1 b1 _ HJa).mono ?_); rintro e Wn ⟨rfl, hbn⟩; replace HJ := Lib.hid (nx HJ.out hbn); clear hbn; clear i0 i1 i2 i3 k0 k1 l0 l1 m0 m1 n0 n1; obtain ⟨_, ⟨i0, i1, i2, i3⟩, ⟨k0, k1⟩, ⟨l0, l1⟩, ⟨m0, m1⟩, ⟨n0, n1⟩⟩ := KJ.out _ HJ.out)
            | (have _t := HJ; clear _t; go_at_call 18; (with_reducible refine (amCovers_is s0 a0 b0 c0 jx jy a2 b2 _ HJb).mono ?_); rintro e Wn ⟨rfl, hbn⟩; replace HJ := Lib.hid (nx HJ.out hbn); clear hbn; clear i0 i1 i2 i3 k0 k1 l0 l1 m0 m1 n0 n1; obtain ⟨_, ⟨i0, i1, i2, i3⟩, ⟨k0, k1⟩, ⟨l0, l1⟩, ⟨m0, m1⟩, ⟨n0, n1⟩⟩ := KJ.out _ HJ.out)
            | (have _t := HJ; clear _t; go_at_call 18; (with_reducible refine (amCovers_is s0 a0 b0 c0 a3 b3 a1 b1 _ hy1).mono ?_); rintro e Wn ⟨rfl, hbn⟩; replace HJ := Lib.hid (nx HJ.out hbn); clear hbn; clear i0 i1 i2 i3 k0 k1 l0 l1 m0 m1 n0 n1; obtain ⟨_, ⟨i0, i1, i2, i3⟩, ⟨k0, k1⟩, ⟨l0, l1⟩, ⟨m0, m1⟩, ⟨n0, n1⟩⟩ := KJ.out _ HJ.out)
            | (go_at_call 18; (with_reducible refine (amCovers_is s0 a0 b0 c0 a1 b1 a2 b2 _ hx1).mono ?_); rintro e Wn ⟨rfl, hbn⟩; replace HB := Lib.hid (nx HB.out hbn); clear hbn; clear i0 i1 i2 i3 k0 k1 l0 l1 m0 m1; obtain ⟨_, ⟨i0, i1, i2, i3⟩, ⟨k0, k1⟩, ⟨l0, l1⟩, ⟨m0, m1⟩⟩ := keep5 HB.out)
            | (go_at_call 18; (with_reducible refine (amCovers_is s0 a0 b0 c0 a2 b2 a1 b1 _ hx2).mono ?_); rintro e Wn ⟨rfl, hbn⟩; replace HB := Lib.hid (nx HB.out hbn); clear hbn; clear i0 i1 i2 i3 k0 k1 l0 l1 m0 m1; obtain ⟨_, ⟨i0, i1, i2, i3⟩, ⟨k0, k1⟩, ⟨l0, l1⟩, ⟨m0, m1⟩⟩ := keep5 HB.out)
            | (go_at_call 18; (with_reducible refine (amCovers_is s0 a0 b0 c0 a2 b2 a3 b3 _ hx4).mono ?_); rintro e Wn ⟨rfl, hbn⟩; replace HB := Lib.hid (nx HB.out hbn); clear hbn; clear i0 i1 i2 i3 k0 k1 l0 l1 m0 m1; obtain ⟨_, ⟨i0, i1, i2, i3⟩, ⟨k0, k1⟩, ⟨l0, l1⟩, ⟨m0, m1⟩⟩ := keep5 HB.out)
            | (go_at_call 18; (with_reducible refine (amCovers_is s0 a0 b0 c0 a1 b1 a3 b3 _ HAC).mono ?_); rintro e Wn ⟨rfl, hbn⟩; replace HB := Lib.hid (nx HB.out hbn); clear hbn; clear i0 i1 i2 i3 k0 k1 l0 l1 m0 m1; obtain ⟨_, ⟨i0, i1, i2, i3⟩, ⟨k0, k1⟩, ⟨l0, l1⟩, ⟨m0, m1⟩⟩ := keep5 HB.out)
            | (go_at_call 22; (with_reducible refine (refPermitted_is s0 a0 b0 c0 a1 b1 _ HPa).mono ?_); rintro e Wn ⟨rfl, hbn⟩; replace HB := Lib.hid (nx HB.out hbn); clear hbn; clear i0 i1 i2 i3 k0 k1 l0 l1 m0 m1; obtain ⟨_, ⟨i0, i1, i2, i3⟩, ⟨k0, k1⟩, ⟨l0, l1⟩, ⟨m0, m1⟩⟩ := keep5 HB.out)
            | (go_at_call 22; (with_reducible refine (refPermitted_is s0 a0 b0 c0 a2 b2 _ HPb).mono ?_); rintro e Wn ⟨rfl, hbn⟩; replace HB := Lib.hid (nx HB.out hbn); clear hbn; clear i0 i1 i2 i3 k0 k1 l0 l1 m0 m1; obtain ⟨_, ⟨i0, i1, i2, i3⟩, ⟨k0, k1⟩, ⟨l0, l1⟩, ⟨m0, m1⟩⟩ := keep5 HB.out)
            | (go_at_call 20; (with_reducible refine (join_is s0 a0 b0 c0 a1 b1 a2 b2 _ hjx hjy).mono ?_); rintro e Wn ⟨rfl, hbn⟩; replace HB := Lib.hid (nx HB.out hbn); clear hbn; clear i0 i1 i2 i3 k0 k1 l0 l1 m0 m1; have KJ := Lib.hid (keepJ (w := w) (s := s0) (k := a0) (u := b0) (h := c0) (m := a1) (n := b1) (p := a2) (q := b2) (y := a3) (z := b3) (x1 := jx) (y1 := jy) HB.out); have HJ := Lib.hid (Below.refl (Wn.alloc (oB jx jy)).heap.size (Wn.alloc (oB jx jy))); obtain ⟨_, ⟨i0, i1, i2, i3⟩, ⟨k0, k1⟩, ⟨l0, l1⟩, ⟨m0, m1⟩, ⟨n0, n1⟩⟩ := KJ.out _ HJ.out))
          go_ret
          exact ⟨rfl, nx (dn4 (dn1' HB.out)) HJ.out⟩
        | true =>
          cases y2 with
          | false =>
            go_wp2_with (first
              | (have _t := HJ; clear _t; go_at_call 18; (with_reducible refine (amCovers_is s0 a0 b0 c0 jx jy a1 b1 _ HJa).mono ?_); rintro e Wn ⟨rfl, hbn⟩; replace HJ := Lib.hid (nx HJ.out hbn); clear hbn; clear i0 i1 i2 i3 k0 k1 l0 l1 m0 m1 n0 n1; obtain ⟨_, ⟨i0, i1, i2, i3⟩, ⟨k0, k1⟩, ⟨l0, l1⟩, ⟨m0, m1⟩, ⟨n0, n1⟩⟩ := KJ.out _ HJ.out)
              | (have _t := HJ; clear _t; go_at_call 18; (with_reducible refine (amCovers_is s0 a0 b0 c0 jx jy a2 b2 _ HJb).mono ?_); rintro e Wn ⟨rfl, hbn⟩; replace HJ := Lib.hid (nx HJ.out hbn); clear hbn; clear i0 i1 i2 i3 k0 k1 l0 l1 m0 m1 n0 n1; obtain ⟨_, ⟨i0, i1, i2, i3⟩, ⟨k0, k1⟩, ⟨l0, l1⟩, ⟨m0, m1⟩, ⟨n0, n1⟩⟩ := KJ.out _ HJ.out)
              | (have _t := HJ; clear _t; go_at_call 18; (with_reducible refine (amCovers_is s0 a0 b0 c0 a3 b3 a1 b1 _ hy1).mono ?_); rintro e Wn ⟨rfl, hbn⟩; replace HJ := Lib.hid (nx HJ.out hbn); clear hbn; clear i0 i1 i2 i3 k0 k1 l0 l1 m0 m1 n0 n1; obtain ⟨_, ⟨i0, i1, i2, i3⟩, ⟨k0, k1⟩, ⟨l0, l1⟩, ⟨m0, m1⟩, ⟨n0, n1⟩⟩ := KJ.out _ HJ.out)
              | (have _t := HJ; clear _t; go_at_call 18; (with_reducible refine (amCovers_is s0 a0 b0 c0 a3 b3 a2 b2 _ hy2).mono ?_); rintro e Wn ⟨rfl, hbn⟩; replace HJ := Lib.hid (nx HJ.out hbn); clear hbn; clear i0 i1 i2 i3 k0 k1 l0 l1 m0 m1 n0 n1; obtain ⟨_, ⟨i0, i1, i2, i3⟩, ⟨k0, k1⟩, ⟨l0, l1⟩, ⟨m0, m1⟩, ⟨n0, n1⟩⟩ := KJ.out _ HJ.out)
              | (go_at_call 18; (with_reducible refine (amCovers_is s0 a0 b0 c0 a1 b1 a2 b2 _ hx1).mono ?_); rintro e Wn ⟨rfl, hbn⟩; replace HB := Lib.hid (nx HB.out hbn); clear hbn; clear i0 i1 i2 i3 k0 k1 l0 l1 m0 m1; obtain ⟨_, ⟨i0, i1, i2, i3⟩, ⟨k0, k1⟩, ⟨l0, l1⟩, ⟨m0, m1⟩⟩ := keep5 HB.out)
              | (go_at_call 18; (with_reducible refine (amCovers_is s0 a0 b0 c0 a2 b2 a1 b1 _ hx2).mono ?_); rintro e Wn ⟨rfl, hbn⟩; replace HB := Lib.hid (nx HB.out hbn); clear hbn; clear i0 i1 i2 i3 k0 k1 l0 l1 m0 m1; obtain ⟨_, ⟨i0, i1, i2, i3⟩, ⟨k0, k1⟩, ⟨l0, l1⟩, ⟨m0, m1⟩⟩ := keep5 HB.out)
              | (go_at_call 18; (with_reducible refine (amCovers_is s0 a0 b0 c0 a2 b2 a3 b3 _ hx4).mono ?_); rintro e Wn ⟨rfl, hbn⟩; replace HB := Lib.hid (nx HB.out hbn); clear hbn; clear i0 i1 i2 i3 k0 k1 l0 l1 m0 m1; obtain ⟨_, ⟨i0, i1, i2, i3⟩, ⟨k0, k1⟩, ⟨l0, l1⟩, ⟨m0, m1⟩⟩ := keep5 HB.out)
              | (go_at_call 18; (with_reducible refine (amCovers_is s0 a0 b0 c0 a1 b1 a3 b3 _ HAC).mono ?_); rintro e Wn ⟨rfl, hbn⟩; replace HB := Lib.hid (nx HB.out hbn); clear hbn; clear i0 i1 i2 i3 k0 k1 l0 l1 m0 m1; obtain ⟨_, ⟨i0, i1, i2, i3⟩, ⟨k0, k1⟩, ⟨l0, l1⟩, ⟨m0, m1⟩⟩ := keep5 HB.out)
              | (go_at_call 22; (with_reducible refine (refPermitted_is s0 a0 b0 c0 a1 b1 _ HPa).mono ?_); rintro e Wn ⟨rfl, hbn⟩; replace HB := Lib.hid (nx HB.out hbn); clear hbn; clear i0 i1 i2 i3 k0 k1 l0 l1 m0 m1; obtain ⟨_, ⟨i0, i1, i2, i3⟩, ⟨k0, k1⟩, ⟨l0, l1⟩, ⟨m0, m1⟩⟩ := keep5 HB.out)
              | (go_at_call 22; (with_reducible refine (refPermitted_is s0 a0 b0 c0 a2 b2 _ HPb).mono ?_); rintro e Wn ⟨rfl, hbn⟩; replace HB := Lib.hid (nx HB.out hbn); clear hbn; clear i0 i1 i2 i3 k0 k1 l0 l1 m0 m1; obtain ⟨_, ⟨i0, i1, i2, i3⟩, ⟨k0, k1⟩, ⟨l0, l1⟩, ⟨m0, m1⟩⟩ := keep5 HB.out)
              | (go_at_call 20; (with_reducible refine (join_is s0 a0 b0 c0 a1 b1 a2 b2 _ hjx hjy).mono ?_); rintro e Wn ⟨rfl, hbn⟩; replace HB := Lib.hid (nx HB.out hbn); clear hbn; clear i0 i1 i2 i3 k0 k1 l0 l1 m0 m1; have KJ := Lib.hid (keepJ (w := w) (s := s0) (k := a0) (u := b0) (h := c0) (m := a1) (n := b1) (p := a2) (q := b2) (y := a3) (z := b3) (x1 := jx) (y1 := jy) HB.out); have HJ := Lib.hid (Below.refl (Wn.alloc (oB jx jy)).heap.size (Wn.alloc (oB jx jy))); obtain ⟨_, ⟨i0, i1, i2, i3⟩, ⟨k0, k1⟩, ⟨l0, l1⟩, ⟨m0, m1⟩, ⟨n0, n1⟩⟩ := KJ.out _ HJ.out))
            go_ret
            exact ⟨rfl, nx (dn4 (dn1' HB.out)) HJ.out⟩
          | true =>
            have HCj : Hid (cvr a0 b0 a3 b3 jx jy = true) := by show _ = _; rw [← hjx.out, ← hjy.out]; exact cvr_least hy1.out hy2.out
            go_wp2_with (first
              | (have _t := HJ; clear _t; go_at_call 18; (with_reducible refine (amCovers_is s0 a0 b0 c0 jx jy a1 b1 _ HJa).mono ?_); rintro e Wn ⟨rfl, hbn⟩; replace HJ := Lib.hid (nx HJ.out hbn); clear hbn; clear i0 i1 i2 i3 k0 k1 l0 l1 m0 m1 n0 n1; obtain ⟨_, ⟨i0, i1, i2, i3⟩, ⟨k0, k1⟩, ⟨l0, l1⟩, ⟨m0, m1⟩, ⟨n0, n1⟩⟩ := KJ.out _ HJ.out)
              | (have _t := HJ; clear _t; go_at_call 18; (with_reducible refine (amCovers_is s0 a0 b0 c0 jx jy a2 b2 _ HJb).mono ?_); rintro e Wn ⟨rfl, hbn⟩; replace HJ := Lib.hid (nx HJ.out hbn); clear hbn; clear i0 i1 i2 i3 k0 k1 l0 l1 m0 m1 n0 n1; obtain ⟨_, ⟨i0, i1, i2, i3⟩, ⟨k0, k1⟩, ⟨l0, l1⟩, ⟨m0, m1⟩, ⟨n0, n1⟩⟩ := KJ.out _ HJ.out)
              | (have _t := HJ; clear _t; go_at_call 18; (with_reducible refine (amCovers_is s0 a0 b0 c0 a3 b3 a1 b1 _ hy1).mono ?_); rintro e Wn ⟨rfl, hbn⟩; replace HJ := Lib.hid (nx HJ.out hbn); clear hbn; clear i0 i1 i2 i3 k0 k1 l0 l1 m0 m1 n0 n1; obtain ⟨_, ⟨i0, i1, i2, i3⟩, ⟨k0, k1⟩, ⟨l0, l1⟩, ⟨m0, m1⟩, ⟨n0, n1⟩⟩ := KJ.out _ HJ.out)
              | (have _t := HJ; clear _t; go_at_call 18; (with_reducible refine (amCovers_is s0 a0 b0 c0 a3 b3 a2 b2 _ hy2).mono ?_); rintro e Wn ⟨rfl, hbn⟩; replace HJ := Lib.hid (nx HJ.out hbn); clear hbn; clear i0 i1 i2 i3 k0 k1 l0 l1 m0 m1 n0 n1; obtain ⟨_, ⟨i0, i1, i2, i3⟩, ⟨k0, k1⟩, ⟨l0, l1⟩, ⟨m0, m1⟩, ⟨n0, n1⟩⟩ := KJ.out _ HJ.out)
              | (have _t := HJ; clear _t; go_at_call 18; (with_reducible refine (amCovers_is s0 a0 b0 c0 a3 b3 jx jy _ HCj).mono ?_); rintro e Wn ⟨rfl, hbn⟩; replace HJ := Lib.hid (nx HJ.out hbn); clear hbn; clear i0 i1 i2 i3 k0 k1 l0 l1 m0 m1 n0 n1; obtain ⟨_, ⟨i0, i1, i2, i3⟩, ⟨k0, k1⟩, ⟨l0, l1⟩, ⟨m0, m1⟩, ⟨n0, n1⟩⟩ := KJ.out _ HJ.out)
              | (go_at_call 18; (with_reducible refine (amCovers_is s0 a0 b0 c0 a1 b1 a2 b2 _ hx1).mono ?_); rintro e Wn ⟨rfl, hbn⟩; replace HB := Lib.hid (nx HB.out hbn); clear hbn; clear i0 i1 i2 i3 k0 k1 l0 l1 m0 m1; obtain ⟨_, ⟨i0, i1, i2, i3⟩, ⟨k0, k1⟩, ⟨l0, l1⟩, ⟨m0, m1⟩⟩ := keep5 HB.out)
              | (go_at_call 18; (with_reducible refine (amCovers_is s0 a0 b0 c0 a2 b2 a1 b1 _ hx2).mono ?_); rintro e Wn ⟨rfl, hbn⟩; replace HB := Lib.hid (nx HB.out hbn); clear hbn; clear i0 i1 i2 i3 k0 k1 l0 l1 m0 m1; obtain ⟨_, ⟨i0, i1, i2, i3⟩, ⟨k0, k1⟩, ⟨l0, l1⟩, ⟨m0, m1⟩⟩ := keep5 HB.out)
              | (go_at_call 18; (with_reducible refine (amCovers_is s0 a0 b0 c0 a2 b2 a3 b3 _ hx4).mono ?_); rintro e Wn ⟨rfl, hbn⟩; replace HB := Lib.hid (nx HB.out hbn); clear hbn; clear i0 i1 i2 i3 k0 k1 l0 l1 m0 m1; obtain ⟨_, ⟨i0, i1, i2, i3⟩, ⟨k0, k1⟩, ⟨l0, l1⟩, ⟨m0, m1⟩⟩ := keep5 HB.out)
              | (go_at_call 18; (with_reducible refine (amCovers_is s0 a0 b0 c0 a1 b1 a3 b3 _ HAC).mono ?_); rintro e Wn ⟨rfl, hbn⟩; replace HB := Lib.hid (nx HB.out hbn); clear hbn; clear i0 i1 i2 i3 k0 k1 l0 l1 m0 m1; obtain ⟨_, ⟨i0, i1, i2, i3⟩, ⟨k0, k1⟩, ⟨l0, l1⟩, ⟨m0, m1⟩⟩ := keep5 HB.out)
              | (go_at_call 22; (with_reducible refine (refPermitted_is s0 a0 b0 c0 a1 b1 _ HPa).mono ?_); rintro e Wn ⟨rfl, hbn⟩; replace HB := Lib.hid (nx HB.out hbn); clear hbn; clear i0 i1 i2 i3 k0 k1 l0 l1 m0 m1; obtain ⟨_, ⟨i0, i1, i2, i3⟩, ⟨k0, k1⟩, ⟨l0, l1⟩, ⟨m0, m1⟩⟩ := keep5 HB.out)
              | (go_at_call 22; (with_reducible refine (refPermitted_is s0 a0 b0 c0 a2 b2 _ HPb).mono ?_); rintro e Wn ⟨rfl, hbn⟩; replace HB := Lib.hid (nx HB.out hbn); clear hbn; clear i0 i1 i2 i3 k0 k1 l0 l1 m0 m1; obtain ⟨_, ⟨i0, i1, i2, i3⟩, ⟨k0, k1⟩, ⟨l0, l1⟩, ⟨m0, m1⟩⟩ := keep5 HB.out)
              | (go_at_call 20; (with_reducible refine (join_is s0 a0 b0 c0 a1 b1 a2 b2 _ hjx hjy).mono ?_); rintro e Wn ⟨rfl, hbn⟩; replace HB := Lib.hid (nx HB.out hbn); clear hbn; clear i0 i1 i2 i3 k0 k1 l0 l1 m0 m1; have KJ := Lib.hid (keepJ (w := w) (s := s0) (k := a0) (u := b0) (h := c0) (m := a1) (n := b1) (p := a2) (q := b2) (y := a3) (z := b3) (x1 := jx) (y1 := jy) HB.out); have HJ := Lib.hid (Below.refl (Wn.alloc (oB jx jy)).heap.size (Wn.alloc (oB jx jy))); obtain ⟨_, ⟨i0, i1, i2, i3⟩, ⟨k0, k1⟩, ⟨l0, l1⟩, ⟨m0, m1⟩, ⟨n0, n1⟩⟩ := KJ.out _ HJ.out))
            go_ret
            exact ⟨rfl, nx (dn4 (dn1' HB.out)) HJ.out⟩
end Go.Proofs.YtbddgdicnonadaaDoor
