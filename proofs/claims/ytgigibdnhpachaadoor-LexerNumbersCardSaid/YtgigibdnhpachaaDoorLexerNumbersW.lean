/- LexerNumbers walked. -/
import Derived.Test.YtgigibdnhpachaaDoorLawake
import Derived.Test.YtgigibdnhpachaaDoorLdig
namespace Go.Proofs.YtgigibdnhpachaaDoor
set_option linter.unusedVariables false
set_option linter.unusedSimpArgs false
open Go.RowKit
theorem conv_dg (W : World) (b m : Nat) (hm : m < 10) (h : W.cell? ⟨b, 0, none⟩ = some (.int .u8 (48 + (m : Int)))) :
    (convert 33 9 (.slice (some ⟨b, 0, none⟩) 1 1)).run Tryd.prog W = .ok (.string (mkB [dgt m])) W := by
  have h1 := run_convert_bytes_arg (P := Tryd.prog) W 33 5 Tryd.underlying33 Tryd.underlying5 b 0 1 1 [48 + (m : Int)] rfl (fun i hi => by
    obtain rfl : i = 0 := by simpa using hi
    simpa using h) 9 Tryd.underlying9
  rw [h1]
  congr 2
theorem mkB_app (a b : List UInt8) : mkB a ++ mkB b = mkB (a ++ b) := by
  apply ByteArray.ext
  apply Array.toList_inj.1
  simp [mkB]
theorem eqTok_yes (k u h : Int) (s : ByteArray) (w : World) : (binOp .eql 32 (tk k s u h) (tk k s u h)).run Tryd.prog w = .ok (.bool true) w := by
  rw [eqTok, eqS_self]
  simp
set_option maxHeartbeats 4000000 in
set_option maxRecDepth 8000 in
theorem LexerNumbers_walk (a0 : Int) (a1 : Int) (w : World) (hV : VX w) (w0 : (Lit.int .i64 a0).wf = true) (w1 : (Lit.int .i64 a1).wf = true) :
    Calls Tryd.prog 8 #[.int .i64 a0, .int .i64 a1] w fun e w' => e = .returned (.bool true) ∧ Below w.heap.size w w' := by
  have HV := Lib.hid hV
  clear hV w0 w1
  by_cases hout : a0 < 0 ∨ 99999 < a0 ∨ a1 < 0 ∨ 3 < a1
  · have hc : a0 < 0 ∨ (¬ a0 < 0 ∧ 99999 < a0) ∨ (¬ a0 < 0 ∧ ¬ 99999 < a0 ∧ a1 < 0) ∨ (¬ a0 < 0 ∧ ¬ 99999 < a0 ∧ ¬ a1 < 0 ∧ 3 < a1) := by omega
    clear hout
    rcases hc with h | ⟨h, h2⟩ | ⟨h, h2, h3⟩ | ⟨h, h2, h3, h4⟩
    all_goals (
      go_enter Tryd.func8, Tryd.ntmps8
      go_wp2_with (first
        | (go_at_call 11; refine (awake_any _ HV.out).mono ?_; rintro e W1 ⟨rfl, hb1⟩; have HB1 := Lib.hid hb1; clear hb1))
      go_ret
      exact ⟨rfl, HB1.out⟩)
  · obtain ⟨n, rfl⟩ := Int.eq_ofNat_of_zero_le (show 0 ≤ a0 by omega)
    obtain ⟨z, rfl⟩ := Int.eq_ofNat_of_zero_le (show 0 ≤ a1 by omega)
    have hn : n < 100000 := by omega
    have hz : z ≤ 3 := by omega
    clear hout
    go_enter Tryd.func8, Tryd.ntmps8
    go_wp2
    go_loopw [5, 6] (fun V q wr => ∃ (k : Nat) (S : ByteArray), V = .string S ∧ q = .int .i64 k ∧ Hid (NumI n k S.data.toList) ∧ Hid (Below w.heap.size w wr)) (fun V q _ => (match V with | .string S => (if S.size = 0 then 1 else 0) | _ => 0) + (intOf q).toNat)
    case atStart => exact ⟨n, ⟨#[]⟩, rfl, rfl, NumI.zero n, Below.refl _ _⟩
    case round =>
      obtain ⟨k, S, rfl, rfl, hI, hB⟩ := hrel
      have hkn := hI.out.1
      have hS5 := hI.out.len hn
      have hSz : S.data.toList.length = S.size := by simp
      obtain ⟨m, hm⟩ : ∃ m, Hid (k % 10 = m) := ⟨_, rfl⟩
      obtain ⟨k2, hk2⟩ : ∃ k2, Hid (k / 10 = k2) := ⟨_, rfl⟩
      have e0 : (k : Int) % 10 = (m : Int) := by have := hm.out; omega
      have e1 : (k : Int) / 10 = (k2 : Int) := by have := hk2.out; omega
      have hm10 : m < 10 := by have := hm.out; omega
      have hcv := fun W b h => conv_dg W b m hm10 h
      have e7 : ¬ 9223372036854775807 < (mkB [dgt m]).size + S.size := by rw [mkB_size]; simp; omega
      by_cases hk : (0 : Int) < (k : Int)
      · have hI2 : Hid (NumI n k2 (mkB [dgt m] ++ S).data.toList) := by
          have := hI.out.step (.inl (by omega))
          rw [hm.out, hk2.out] at this
          rw [ba_app, mkB_data]
          exact this
        clear hSz
        go_wp2
        go_roundw
        case rel => exact ⟨k2, _, rfl, rfl, hI2, nxA hB.out _⟩
        case measure =>
          have h1 : (mkB [dgt m] ++ S).size ≠ 0 := by rw [ba_app_size, mkB_size]; simp
          simp only [intOf, if_neg h1]
          have := hk2.out
          split <;> omega
      · have hk0 : k = 0 := by omega
        subst hk0
        by_cases hS : S.size = 0
        · obtain rfl : S = ⟨#[]⟩ := ba_ext (by have h0 : S.data.toList.length = 0 := by omega
                                               rw [List.eq_nil_of_length_eq_zero h0])
          have hI2 : Hid (NumI n 0 (mkB [dgt 0] ++ ⟨#[]⟩).data.toList) := by
            have := hI.out.step (.inr rfl)
            rw [ba_app, mkB_data]
            exact this
          have hcv0 : ∀ (W : World) (b : Nat), W.cell? ⟨b, 0, none⟩ = some (.int .u8 48) → (convert 33 9 (.slice (some ⟨b, 0, none⟩) 1 1)).run Tryd.prog W = .ok (.string (mkB [dgt 0])) W := fun W b h => conv_dg W b 0 (by omega) (by simpa using h)
          have e8 : ¬ 9223372036854775807 < (mkB [dgt 0]).size + (⟨#[]⟩ : ByteArray).size := by have h0 : (⟨#[]⟩ : ByteArray).size = 0 := rfl; rw [mkB_size, h0]; simp
          clear hSz e0 e1 hcv e7 hm hk2
          go_wp2
          go_roundw
          case rel => exact ⟨0, _, rfl, rfl, hI2, nxA hB.out _⟩
          case measure =>
            have h1 : (mkB [dgt 0] ++ (⟨#[]⟩ : ByteArray)).size ≠ 0 := by rw [ba_app_size, mkB_size]; simp
            have h2 : (⟨#[]⟩ : ByteArray).size = 0 := rfl
            simp only [intOf, if_neg h1, if_pos h2]
            omega
        · have hne : S.data.toList ≠ [] := fun hh => hS (by rw [← hSz, hh]; rfl)
          have hfin := Lib.hid (hI.out.done rfl hne)
          have hs1 : (S.toList == []) = false := by rw [ByteArray.toList_eq, beq_eq_false_iff_ne]; exact hne
          have hs2 : S.toList.isEmpty = false := by rw [ByteArray.toList_eq]; cases hh : S.data.toList with | nil => exact absurd hh hne | cons _ _ => rfl
          clear hSz hne hS e0 e1 hcv
          go_wp2
          go_loopw [5, 7] (fun V q wr' => ∃ (j : Nat) (T : ByteArray), V = .string T ∧ q = .int .i64 j ∧ j ≤ z ∧ Hid (T.data.toList = List.replicate j 48 ++ dec n) ∧ Hid (wr = wr')) (fun _ q _ => z - (intOf q).toNat)
          case atStart => exact ⟨0, S, rfl, rfl, by omega, hfin.out, rfl⟩
          case round =>
            obtain ⟨j, T, rfl, rfl, hjz, hT, hw⟩ := hrel
            have hw' := hw.out
            subst hw'
            have h5 := dec_len5 hn
            have hTz : T.size = j + (dec n).length := by
              have : T.data.toList.length = T.size := by simp
              rw [← this, hT.out]
              simp
            by_cases hj : (j : Int) < (z : Int)
            · have hT2 : Hid (((⟨#[48]⟩ : ByteArray) ++ T).data.toList = List.replicate (j + 1) 48 ++ dec n) := by
                show _ = _
                rw [ba_app, hT.out, List.replicate_succ]
                rfl
              have e9 : ¬ 9223372036854775807 < (⟨#[48]⟩ : ByteArray).size + T.size := by
                have h0 : (⟨#[48]⟩ : ByteArray).size = 1 := rfl
                rw [h0]; omega
              clear hTz h5
              go_wp2
              go_roundw
              case rel => exact ⟨j + 1, _, rfl, by go_num, by omega, hT2, trivial⟩
              case measure => simp [intOf]; omega
            · obtain rfl : j = z := by omega
              obtain ⟨hyes, hno⟩ := zero_num hn hz hT.out
              by_cases h9 : (9999 : Int) < (n : Int)
              · skip
                have hx : Hid (lexR T = ([], 0, 8)) := hyes (by omega)
                clear hyes hno hTz h5
                go_wp2_with (first
                  | (go_at_call 9; refine (tokens_is _ _ (HV.out.below hB.out) hx).mono ?_; rintro e W1 ⟨A1, m1, c1, rfl, hr1, hb1⟩; obtain rfl : m1 = 0 := hr1.len.symm; have HB1 := Lib.hid (nx hB.out hb1); clear hr1 hb1)
                  | (go_at_call 11; refine (awake_any _ (HV.out.below HB1.out)).mono ?_; rintro e W2 ⟨rfl, hb2⟩; have HB2 := Lib.hid (nx HB1.out hb2); clear hb2))
                go_ret
                exact ⟨rfl, HB2.out⟩
              · by_cases hz0 : (0 : Int) < (j : Int)
                · skip
                  have hx : Hid (lexR T = ([], 0, 8)) := hyes (by omega)
                  clear hyes hno hTz h5
                  go_wp2_with (first
                    | (go_at_call 9; refine (tokens_is _ _ (HV.out.below hB.out) hx).mono ?_; rintro e W1 ⟨A1, m1, c1, rfl, hr1, hb1⟩; obtain rfl : m1 = 0 := hr1.len.symm; have HB1 := Lib.hid (nx hB.out hb1); clear hr1 hb1)
                    | (go_at_call 11; refine (awake_any _ (HV.out.below HB1.out)).mono ?_; rintro e W2 ⟨rfl, hb2⟩; have HB2 := Lib.hid (nx HB1.out hb2); clear hb2))
                  go_ret
                  exact ⟨rfl, HB2.out⟩
                · have hx : Hid (lexR T = ([(3, ⟨#[]⟩, (n : Int), 0), (5, ⟨#[]⟩, 0, (T.size : Int))], 0, 0)) := hno (by omega) (by omega)
                  have hq := fun W => eqTok_yes 3 (n : Int) 0 ⟨#[]⟩ W
                  clear hyes hno hTz h5
                  go_wp2_with (first
                    | (go_at_call 9; refine (tokens_is _ _ (HV.out.below hB.out) hx).mono ?_; rintro e W1 ⟨A1, m1, c1, rfl, hr1, hb1⟩; obtain rfl : m1 = 2 := hr1.len.symm; have HR1 := Lib.hid hr1; have HB1 := Lib.hid (nx hB.out hb1); clear hr1 hb1)
                    | (go_at_call 11; refine (awake_any _ (HV.out.below HB1.out)).mono ?_; rintro e W2 ⟨rfl, hb2⟩; obtain ⟨b, o, rfl, hlt, hcl⟩ := (HR1.out.below hb2).rd (by simp); obtain ⟨z0, z1, z2, z3⟩ := hcl 0 (by simp); obtain ⟨y0, y1, y2, y3⟩ := hcl 1 (by simp); have HB2 := Lib.hid (nx HB1.out hb2); clear hb2 hcl; simp at z0 z1 z2 z3 y0 y1 y2 y3))
                  go_ret
                  exact ⟨by simp, HB2.out⟩
end Go.Proofs.YtgigibdnhpachaaDoor
