/- RequestNests walked. -/
import Derived.Test.YtlokcmbkkfjlkaaDoorRaw
namespace Go.Proofs.YtlokcmbkkfjlkaaDoor
set_option linter.unusedVariables false
set_option linter.unusedSimpArgs false
open Go.RowKit
/-- The text of n groups, one in the other. -/
def nst : Nat → List UInt8
  | 0 => [97, 58, 83]
  | n + 1 => [97, 108, 108, 40] ++ (nst n ++ [41])
def nsx : Nat → Ex
  | 0 => .nd 0 (mkB [97], 3, 0) []
  | n + 1 => .nd 1 z3 [nsx n]
theorem nst_len : ∀ n, (nst n).length = 3 + 5 * n
  | 0 => rfl
  | n + 1 => by rw [nst, List.length_append, List.length_append, nst_len n]; simp; omega
theorem nst_yes {k : Nat} (h : k < 4) : pR (mkB (nst k)) = .ok (nsx k, 0, 0) ∧ ((surN (nsx k)).length : Int) = (k : Int) + 1 ∧ surD (nsx k) = (k : Int) + 1 := by
  have hc : k = 0 ∨ k = 1 ∨ k = 2 ∨ k = 3 := by omega
  rcases hc with rfl | rfl | rfl | rfl
  · exact ⟨by kernel_rfl, by kernel_rfl, by kernel_rfl⟩
  · exact ⟨by kernel_rfl, by kernel_rfl, by kernel_rfl⟩
  · exact ⟨by kernel_rfl, by kernel_rfl, by kernel_rfl⟩
  · exact ⟨by kernel_rfl, by kernel_rfl, by kernel_rfl⟩
def isB : QR → Bool
  | .no p e => decide (p = 16 ∧ e = 4)
  | .ok _ => false
theorem nst_all : ((List.range 37).all fun k => isB (pR (mkB (nst (k + 4))))) = true := by kernel_rfl
theorem nst_no {k : Nat} (h : 4 ≤ k) (h2 : k ≤ 40) : pR (mkB (nst k)) = .no 16 4 := by
  have := List.all_eq_true.1 nst_all (k - 4) (List.mem_range.2 (by omega))
  rw [show k - 4 + 4 = k by omega] at this
  cases hr : pR (mkB (nst k)) with
  | ok z => rw [hr] at this; cases this
  | no p e =>
    rw [hr] at this
    obtain ⟨rfl, rfl⟩ := of_decide_eq_true this
    rfl
theorem fld1 (A : Option Addr) (n c : Nat) (d : Int) (W : World) : (Instr.field 53 (.agg #[.slice A n c, .int .i64 d]) 1).run Tryd.prog W = .ok (.int .i64 d) W := by kernel_rfl
set_option maxHeartbeats 1000000 in
set_option maxRecDepth 8000 in
theorem depth_is {e : Ex} (k : Int) (s : ByteArray) (m u : Int) (A : Option Addr) (n c : Nat) (w : World) (hT : TIn (Lo w.heap.size) w ⟨k, s, m, u, A, n, c⟩ e) {v : Int} (hv : Hid (surD e = v)) :
    Calls Tryd.prog 7 #[xe k s m u A n c] w fun r w' => r = .returned (.int .i64 v) ∧ Below w.heap.size w w' := by
  have HT := Lib.hid hT
  clear hT
  have hf1 := fld1
  go_enter Tryd.func7, Tryd.ntmps7
  go_wp2_with (go_at_call 15; refine (survey_is (e := e) k s m u A n c _ (HT.out.grow _)).mono ?_; rintro e W1 ⟨A1, n1, c1, vs, rfl, hrd, hn, hfit, hk, hb1⟩; have HB1 := Lib.hid hb1; clear hb1 hrd hn hk)
  go_ret
  refine ⟨?_, dn1 HB1.out⟩
  have h2 := hv.out
  subst h2
  rfl
set_option maxHeartbeats 8000000 in
set_option maxRecDepth 100000 in
theorem RequestNests_walk (a0 : Int) (w : World) (hV : VR w) (w0 : (Lit.int .i64 a0).wf = true) :
    Calls Tryd.prog 3 #[.int .i64 a0] w fun e w' => e = .returned (.bool true) ∧ Below w.heap.size w w' := by
  have HV := Lib.hid hV
  clear hV w0
  by_cases h0 : a0 < 0
  · go_enter Tryd.func3, Tryd.ntmps3
    go_wp2_with (go_at_call 5; refine (awake_any _ HV.out).mono ?_; rintro e W2 ⟨rfl, hb2⟩; have HB2 := Lib.hid hb2; clear hb2)
    go_ret
    exact ⟨rfl, HB2.out⟩
  · by_cases h40 : 40 < a0
    · go_enter Tryd.func3, Tryd.ntmps3
      go_wp2_with (go_at_call 5; refine (awake_any _ HV.out).mono ?_; rintro e W2 ⟨rfl, hb2⟩; have HB2 := Lib.hid hb2; clear hb2)
      go_ret
      exact ⟨rfl, HB2.out⟩
    · obtain ⟨k, rfl⟩ : ∃ k : Nat, a0 = (k : Int) := ⟨a0.toNat, by omega⟩
      have hk : k ≤ 40 := by omega
      go_enter Tryd.func3, Tryd.ntmps3
      go_wp2
      go_loop [3, 4] (fun S i => ∃ (j : Nat) (T : ByteArray), j ≤ k ∧ i = .int .i64 j ∧ S = .string T ∧ Hid (T = mkB (nst j)) ∧ T.size ≤ 3 + 5 * j) (fun _ i => k - (intOf i).toNat)
      case atStart => exact ⟨0, _, by omega, rfl, rfl, (by show _ = _; rfl), by decide⟩
      case round =>
        obtain ⟨j, T, hj, rfl, rfl, hT, hTz⟩ := hrel
        by_cases hlt : (j : Int) < (k : Int)
        · have e5 : IntKind.i64.wrap ((j : Int) + 1) = (j : Int) + 1 := by rw [IntKind.wrap_i64]; omega
          have m1 : ¬ 9223372036854775807 < 4 + T.size := by omega
          have m2 : ¬ 9223372036854775807 < 4 + T.size + 1 := by omega
          have hT2 : Hid ((((⟨#[97, 108, 108, 40]⟩ : ByteArray) ++ T) ++ ⟨#[41]⟩ : ByteArray) = mkB (nst (j + 1))) := by
            show _ = _
            rw [hT.out]
            apply ba_ext
            rw [ba_data, ba_data, mkB_data, mkB_data, nst, List.append_assoc]
          have hz2 : (((⟨#[97, 108, 108, 40]⟩ : ByteArray) ++ T) ++ ⟨#[41]⟩ : ByteArray).size ≤ 3 + 5 * (j + 1) := by
            rw [ByteArray.size_append, ByteArray.size_append]
            show 4 + T.size + 1 ≤ _
            omega
          have HZ2 := Lib.hid hz2
          clear hz2
          go_wp2
          go_round
          case rel => exact ⟨j + 1, _, by omega, by go_num, rfl, hT2, HZ2.out⟩
          case measure => simp [intOf]; omega
        · obtain rfl : k = j := by omega
          by_cases h4 : 4 ≤ (k : Int)
          · have hx : Hid (pR T = .no 16 4) := by show _ = _; rw [hT.out]; exact nst_no (by omega) hk
            go_wp2_with (first
              | (go_at_call 6; refine (parse_is _ _ HV.out.1 hx).mono ?_; rintro e W1 ⟨rfl, hb1⟩; have HB1 := Lib.hid hb1; clear hb1)
              | (go_at_call 5; refine (awake_any _ (HV.out.below (nx HB1.out (newB _ _)))).mono ?_; rintro e W2 ⟨rfl, hb2⟩; have HB2 := Lib.hid (nx HB1.out (dn1 hb2)); clear hb2))
            go_ret
            exact ⟨rfl, HB2.out⟩
          · obtain ⟨hp, hn, hd⟩ := nst_yes (k := k) (by omega)
            have hx : Hid (pR T = .ok (nsx k, 0, 0)) := by show _ = _; rw [hT.out]; exact hp
            have HN := Lib.hid hn
            have HD := Lib.hid hd
            have e5 : IntKind.i64.wrap ((k : Int) + 1) = (k : Int) + 1 := by rw [IntKind.wrap_i64]; omega
            clear hp hn hd
            go_wp2_with (first
              | (go_at_call 6; refine (parse_is _ _ HV.out.1 hx).mono ?_; rintro e W1 ⟨⟨k', s', m', u', A', n', c', rfl, ht⟩, hb1⟩; have HK1 := Lib.hid (Blk.new W1 [.int .i64 k', .string s', .int .i64 m', .int .i64 u', .slice A' n' c', .int .i64 0, .int .i64 0] 31 rfl); have HT1 : Hid (TIn (Lo W1.heap.size) W1 ⟨k', s', m', u', A', n', c'⟩ (nsx k)) := ht; have HB1 := Lib.hid hb1; clear hb1 ht)
              | (go_at_call 5; refine (awake_any _ (HV.out.below (nx HB1.out (newB _ _)))).mono ?_; rintro e W2 ⟨rfl, hb2⟩; have hk2 := HK1.out.up hb2 (by simp); obtain ⟨x0, x1, x2, x3, x4, x5, x6⟩ := hk2.s7; have HK2 := Lib.hid hk2; have HT2 := Lib.hid ((HT1.out.grow _).up hb2); have HB2 := Lib.hid (nx HB1.out (dn1 hb2)); clear hb2 hk2)
              | (go_at_call 7; refine (depth_is (e := nsx k) k' s' m' u' A' n' c' _ HT2.out HD).mono ?_; rintro e W3 ⟨rfl, hb3⟩; have hk2 := HK2.out.up hb3 HK2.out.lt; clear x0 x1 x2 x3 x4 x5 x6; obtain ⟨x0, x1, x2, x3, x4, x5, x6⟩ := hk2.s7; have HT3 := Lib.hid (HT2.out.up hb3); have HB3 := Lib.hid (nx HB2.out hb3); clear hb3 hk2)
              | (go_at_call 8; refine (nodes_is (e := nsx k) k' s' m' u' A' n' c' _ HT3.out HN).mono ?_; rintro e W4 ⟨rfl, hb4⟩; have HB4 := Lib.hid (nx HB3.out hb4); clear hb4))
            go_ret
            exact ⟨by simp, HB4.out⟩
end Go.Proofs.YtlokcmbkkfjlkaaDoor
