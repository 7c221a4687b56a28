/- LineEqual walked. -/
import Derived.Test.YtfcekfdoafpmoaaJaw
import Derived.Test.YtfcekfdoafpmoaaJs
import Derived.Test.YtfcekfdoafpmoaaJe
namespace Go.Proofs.Ytfcekfdoafpmoaa
open Go.RowKit
set_option linter.unusedVariables false
set_option linter.unusedSimpArgs false

set_option maxHeartbeats 8000000 in
set_option maxRecDepth 20000 in
theorem LineEqual_walk (i0 i1 : Int) (w : World) (wi0 : (Lit.int .i64 i0).wf = true) (wi1 : (Lit.int .i64 i1).wf = true) :
    Calls Try.prog 9 #[.int .i64 i0, .int .i64 i1] w fun e w' => e = .returned (.bool true) ∧ Below w.heap.size w w' := by
  clear wi0 wi1
  by_cases hgo : 0 ≤ i0 ∧ i0 ≤ 8 ∧ 0 ≤ i1 ∧ i1 ≤ 7
  · obtain ⟨h1, h2, h3, h4⟩ := hgo
    obtain ⟨n, rfl⟩ : ∃ n : Nat, i0 = (n : Int) := ⟨i0.toNat, by omega⟩
    have hn8 : n ≤ 8 := by omega
    have hp0 : 0 ≤ i1 := h3
    have q1 : ¬ ((n : Int) < 0) := by omega
    have q2 : ¬ ((8 : Int) < (n : Int)) := by omega
    have q3 : ¬ (i1 < 0) := by omega
    have q4 : ¬ (7 < i1) := by omega
    have p1 := decide_eq_false q1
    have p2 := decide_eq_false q2
    have p3 := decide_eq_false q3
    have p4 := decide_eq_false q4
    clear h1 h2 h3
    go_enter Try.func9, Try.ntmps9
    go_wp2
    go_loopw [5, 6] (fun V i wr => ∃ (k : Nat) (A : Option Addr) (c : Nat), k ≤ n ∧ i = .int .i64 k ∧ V = .slice A k c ∧ k ≤ c ∧ Hid (WRd wr A (eqL i1 k)) ∧ Hid (Below w.heap.size w wr)) (fun _ i _ => n - (intOf i).toNat)
    case atStart => exact ⟨0, none, 0, by omega, rfl, rfl, by omega, Lib.hid (WRd.nil _ _), Lib.hid (Below.refl _ _)⟩
    case round =>
      obtain ⟨k, A, c, hk, rfl, rfl, hkc, hR, hB⟩ := hrel
      obtain ⟨x, y, z, hx⟩ : ∃ x y z, Hid (pcN (k : Int) = (x, y, z)) := ⟨_, _, _, Lib.hid rfl⟩
      have hcl : Hid (clE i1 k = ((x, y, z), (5, 0), i1, 0)) := Lib.hid (by unfold clE; rw [hx.out])
      have hwk : Hid ((Lit.int .i64 (k : Int)).wf = true) := Lib.hid (wf_small (by omega) (by omega))
      have hlk : Hid ((eqL i1 k).length = k) := Lib.hid (eqL_len _ _)
      have hkm : Hid (k ≤ 1000) := Lib.hid (by omega)
      by_cases hlt : (k : Int) < (n : Int)
      · have hin : Hid (inC (eqL i1 k) ((x, y, z), (5, 0), i1, 0) = 0) := Lib.hid (by rw [← hcl.out]; exact eqL_in hp0 h4 (by omega))
        have hps : Hid (posW (eqL i1 k) ((x, y, z), (5, 0), i1, 0) = k) := Lib.hid (by rw [← hcl.out]; exact eqL_pos _ _)
        have hpt : Hid (putW (eqL i1 k) ((x, y, z), (5, 0), i1, 0) k = eqL i1 (k + 1)) := Lib.hid (by rw [← hcl.out]; exact eqL_put _ _)
        have hl1 : Hid ((eqL i1 (k + 1)).length = k + 1) := Lib.hid (eqL_len _ _)
        have e5 : IntKind.i64.wrap ((k : Int) + 1) = (k : Int) + 1 := by rw [IntKind.wrap_i64]; omega
        go_wp2_with (first
          | (go_at_call 30; (with_reducible refine (claim_is (k : Int) i1 _ hwk hx).mono ?_); rintro e W1 ⟨rfl, hb1⟩; have HB1 := Lib.hid (nx hB.out hb1); have HR1 := Lib.hid (hR.out.below hb1); clear hb1)
          | (go_at_call 15; (with_reducible refine (ins_ok A k c (eqL i1 k) x y z 5 0 i1 _ HR1.out hlk hkm hkc hin hps).mono ?_); rintro e W2 ⟨⟨A2, c2, rfl, ho2⟩, hb2⟩; rw [hpt.out] at ho2; have HR2 := Lib.hid (own_rdW ho2 hl1); have hc2 : k + 1 ≤ c2 := (by obtain ⟨_, _, hv, hle, -, -⟩ := ho2.form; rw [hl1.out] at hv hle; injection hv with _ _ hcc; omega); have HB2 := Lib.hid (nx HB1.out hb2); clear hb2 ho2))
        go_roundw
        case rel => exact ⟨k + 1, A2, c2, by omega, by go_num, rfl, hc2, HR2, HB2⟩
        case measure => (simp [intOf] <;> omega)
      · have hkn : n = k := by omega
        subst hkn
        by_cases h8 : n = 8
        · subst h8
          have hin : Hid (inC (eqL i1 8) ((x, y, z), (5, 0), i1, 0) = 11) := Lib.hid (by rw [← hcl.out]; exact eqL_full hp0 h4)
          have hne : Hid ((11 : Int) ≠ 0) := Lib.hid (by decide)
          go_wp2_with (first
            | (go_at_call 30; refine (claim_is 8 i1 _ hwk hx).mono ?_; rintro e W1 ⟨rfl, hb1⟩; have HB1 := Lib.hid (nx hB.out hb1); have HR1 := Lib.hid (hR.out.below hb1); clear hb1)
            | (go_at_call 15; (with_reducible refine (ins_err A 8 c (eqL i1 8) x y z 5 0 i1 0 _ HR1.out hlk hkm hin hne).mono ?_); rintro e W2 ⟨rfl, hb2⟩; have HB2 := Lib.hid (nx HB1.out hb2); clear hb2)
            | (go_at_call 10; refine (awakeW_any _).mono ?_; rintro e W3 ⟨rfl, hb3⟩; have HB3 := Lib.hid (nx HB2.out hb3); clear hb3))
          go_ret
          exact ⟨rfl, HB3.out⟩
        · have hlt8 : (n : Int) < 8 := by omega
          have hin : Hid (inC (eqL i1 n) ((x, y, z), (5, 0), i1, 0) = 0) := Lib.hid (by rw [← hcl.out]; exact eqL_in hp0 h4 (by omega))
          have hps : Hid (posW (eqL i1 n) ((x, y, z), (5, 0), i1, 0) = n) := Lib.hid (by rw [← hcl.out]; exact eqL_pos _ _)
          go_wp2_with (first
            | (go_at_call 30; (with_reducible refine (claim_is (n : Int) i1 _ hwk hx).mono ?_); rintro e W1 ⟨rfl, hb1⟩; have HB1 := Lib.hid (nx hB.out hb1); have HR1 := Lib.hid (hR.out.below hb1); clear hb1)
            | (go_at_call 15; (with_reducible refine (ins_ok A n c (eqL i1 n) x y z 5 0 i1 _ HR1.out hlk hkm hkc hin hps).mono ?_); rintro e W2 ⟨⟨A2, c2, rfl, ho2⟩, hb2⟩; have HB2 := Lib.hid (nx HB1.out hb2); clear hb2 ho2)
            | (go_at_call 10; refine (awakeW_any _).mono ?_; rintro e W3 ⟨rfl, hb3⟩; have HB3 := Lib.hid (nx HB2.out hb3); clear hb3))
          go_ret
          exact ⟨rfl, HB3.out⟩
  · have hend : i0 < 0 ∨ 8 < i0 ∨ i1 < 0 ∨ 7 < i1 := by omega
    clear hgo
    by_cases q1 : i0 < 0 <;> by_cases q2 : 8 < i0 <;> by_cases q3 : i1 < 0 <;> by_cases q4 : 7 < i1
    all_goals first
      | (exfalso; omega)
      | (have p1 := decide_eq_false q1
         clear hend
         go_enter Try.func9, Try.ntmps9
         go_wp2_with (go_at_call 10; refine (awakeW_any _).mono ?_; rintro e W3 ⟨rfl, hb3⟩; have HB3 := Lib.hid hb3; clear hb3)
         go_ret
         exact ⟨rfl, HB3.out⟩)
      | (clear hend
         go_enter Try.func9, Try.ntmps9
         go_wp2_with (go_at_call 10; refine (awakeW_any _).mono ?_; rintro e W3 ⟨rfl, hb3⟩; have HB3 := Lib.hid hb3; clear hb3)
         go_ret
         exact ⟨rfl, HB3.out⟩)
end Go.Proofs.Ytfcekfdoafpmoaa
