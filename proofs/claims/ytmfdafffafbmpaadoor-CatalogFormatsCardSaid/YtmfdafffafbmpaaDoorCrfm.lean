/- Contracts: Line, Format of the reference. -/
import Derived.Test.YtmfdafffafbmpaaDoorCfmt
import Derived.Laws.BytesArg
namespace Go.Proofs.YtmfdafffafbmpaaDoor
open Go.RowKit
open Go.Sort (grow)
set_option linter.unusedVariables false
set_option linter.unusedSimpArgs false

theorem u_cases {a : Int} (h : 0 ≤ a ∧ a ≤ 8) : a = 0 ∨ a = 1 ∨ a = 2 ∨ a = 3 ∨ a = 4 ∨ a = 5 ∨ a = 6 ∨ a = 7 ∨ a = 8 := by omega
theorem conv_one (W : World) (b : Nat) (x : Int) (h : W.cell? ⟨b, 0, none⟩ = some (.int .u8 x)) :
    (convert 55 9 (.slice (some ⟨b, 0, none⟩) 1 1)).run Tryd.prog W = .ok (.string (strOfNums [x])) W :=
  run_convert_bytes_arg W 55 5 Tryd.underlying55 Tryd.underlying5 b 0 1 1 [x] rfl (fun i hi => by
    obtain rfl : i = 0 := by simpa using hi
    simpa using h) 9 Tryd.underlying9
theorem dec_dg {n : Nat} (h : n < 10) : mkB (dec n) = ⟨#[UInt8.ofNat (48 + n)]⟩ := by rw [dec_one h]; rfl
theorem decimal_is (n : Int) (h : Hid (0 ≤ n ∧ n ≤ 8)) (w : World) {r : ByteArray} (hr : Hid (mkB (dec n.toNat) = r)) : Calls Tryd.prog 64 #[.int .i64 n] w fun e w' => e = .returned (.string r) ∧ Below w.heap.size w w' := by
  have hk := conv_one
  have h9 := h.out
  rw [← hr.out, dec_dg (by omega)]
  clear hr
  rcases u_cases h.out with rfl | rfl | rfl | rfl | rfl | rfl | rfl | rfl | rfl
  all_goals (
    clear h h9
    go_enter Tryd.func64, Tryd.ntmps64
    go_wp2
    go_ret
    exact ⟨rfl, newB _ _⟩)
set_option maxHeartbeats 4000000 in
set_option maxRecDepth 8000 in
theorem refLine_lock (s : ByteArray) (h : Int) (w : World) (hv : Hid (RsR (s, 1, 1, h))) {L : ByteArray} (hL : Hid (mkB (lineL (s, 1, 1, h)) = L)) :
    Calls Tryd.prog 50 #[ra s 1 1 h] w fun e w' => e = .returned (.string L) ∧ Below w.heap.size w w' := by
  have hnum : (((1 : Int) = 1 ∧ (1 : Int) = 1) ∨ (1 : Int) = 2 ∧ 1 ≤ (1 : Int) ∧ (1 : Int) ≤ 8) ∧ 0 ≤ h ∧ h < 4 := hv.out.nums
  have hh : Hid (0 ≤ h ∧ h ≤ 8) := ⟨by omega, by omega⟩
  obtain ⟨D, hD⟩ : ∃ D, Hid (mkB (dec h.toNat) = D) := ⟨_, rfl⟩
  have hDs : D.size ≤ 3 := by rw [← hD.out, mkB_size]; exact (dec_len (by omega)).2
  have hss : s.size ≤ 12 := hv.out.1.2.1
  have n1 : ¬ 9223372036854775807 < 5 + s.size := by omega
  have n2 : ¬ 9223372036854775807 < 5 + s.size + 4 := by omega
  have n3 : ¬ 9223372036854775807 < 5 + s.size + 4 + D.size := by omega
  have n4 : ¬ 9223372036854775807 < 5 + s.size + 4 + D.size + 1 := by omega
  have HJ : Hid ((((⟨#[108, 111, 99, 107, 32]⟩ ++ s) ++ ⟨#[32, 97, 116, 32]⟩) ++ D) ++ ⟨#[10]⟩ = L) := by
    show _ = _
    rw [← hL.out, ← hD.out]
    apply ByteArray.ext
    apply Array.toList_inj.1
    simp [mkB, lineL, lnL, sLock, sAt]
  have hS : Hid (∀ W, Below (BX w s 1 1 h).heap.size (BX w s 1 1 h) W → Below w.heap.size w W ∧ S4 W w.heap.size s 1 1 h) := fun W hW => ⟨dn1 hW, S4.of hW (by simp [BX]) (S4.new _ _ _ _ _)⟩
  clear hnum hDs hss
  go_enter Tryd.func50, Tryd.ntmps50
  go_wp2
  go_region_held3 (fun W => Below (BX w s 1 1 h).heap.size (BX w s 1 1 h) W ∧ S4 W w.heap.size s 1 1 h)
    (first
      | exact ⟨Below.refl _ _, (hS.out _ (Below.refl _ _)).2⟩
      | exact ⟨bdD (Below.refl _ _), (hS.out _ (bdD (Below.refl _ _))).2⟩
      | (go_split_ands; exact ⟨bdD (by assumption), (hS.out _ (bdD (by assumption))).2⟩)
      | (go_split_ands; exact ⟨nx (by assumption) hb2, (hS.out _ (nx (by assumption) hb2)).2⟩))
    (first
      | (go_at_call 64; (with_reducible refine (decimal_is h hh _ hD).mono ?_); rintro e W1 ⟨rfl, hb2⟩))
  all_goals (go_split_ands; go_wp2; go_ret; exact ⟨by rw [← HJ.out]; rfl, dn1 (by assumption)⟩)
set_option maxHeartbeats 4000000 in
set_option maxRecDepth 8000 in
theorem refLine_pool (s : ByteArray) (u h : Int) (w : World) (hv : Hid (RsR (s, 2, u, h))) {L : ByteArray} (hL : Hid (mkB (lineL (s, 2, u, h)) = L)) :
    Calls Tryd.prog 50 #[ra s 2 u h] w fun e w' => e = .returned (.string L) ∧ Below w.heap.size w w' := by
  have hnum : (((2 : Int) = 1 ∧ u = 1) ∨ (2 : Int) = 2 ∧ 1 ≤ u ∧ u ≤ 8) ∧ 0 ≤ h ∧ h < 4 := hv.out.nums
  have hh : Hid (0 ≤ h ∧ h ≤ 8) := ⟨by omega, by omega⟩
  have hu : Hid (0 ≤ u ∧ u ≤ 8) := ⟨by omega, by omega⟩
  obtain ⟨D, hD⟩ : ∃ D, Hid (mkB (dec h.toNat) = D) := ⟨_, rfl⟩
  obtain ⟨U, hU⟩ : ∃ U, Hid (mkB (dec u.toNat) = U) := ⟨_, rfl⟩
  have hDs : D.size ≤ 3 := by rw [← hD.out, mkB_size]; exact (dec_len (by omega)).2
  have hUs : U.size ≤ 3 := by rw [← hU.out, mkB_size]; exact (dec_len (by omega)).2
  have hss : s.size ≤ 12 := hv.out.1.2.1
  have n1 : ¬ 9223372036854775807 < 5 + s.size := by omega
  have n2 : ¬ 9223372036854775807 < 5 + s.size + 1 := by omega
  have n3 : ¬ 9223372036854775807 < 5 + s.size + 1 + U.size := by omega
  have n4 : ¬ 9223372036854775807 < 5 + s.size + 1 + U.size + 4 := by omega
  have n5 : ¬ 9223372036854775807 < 5 + s.size + 1 + U.size + 4 + D.size := by omega
  have n6 : ¬ 9223372036854775807 < 5 + s.size + 1 + U.size + 4 + D.size + 1 := by omega
  have HJ : Hid ((((((⟨#[112, 111, 111, 108, 32]⟩ ++ s) ++ ⟨#[32]⟩) ++ U) ++ ⟨#[32, 97, 116, 32]⟩) ++ D) ++ ⟨#[10]⟩ = L) := by
    show _ = _
    rw [← hL.out, ← hD.out, ← hU.out]
    apply ByteArray.ext
    apply Array.toList_inj.1
    simp [mkB, lineL, lnL, sPool, sAt]
  have hS : Hid (∀ W, Below (BX w s 2 u h).heap.size (BX w s 2 u h) W → Below w.heap.size w W ∧ S4 W w.heap.size s 2 u h) := fun W hW => ⟨dn1 hW, S4.of hW (by simp [BX]) (S4.new _ _ _ _ _)⟩
  clear hnum hDs hss hUs
  go_enter Tryd.func50, Tryd.ntmps50
  go_wp2
  go_region_held3 (fun W => Below (BX w s 2 u h).heap.size (BX w s 2 u h) W ∧ S4 W w.heap.size s 2 u h)
    (first
      | exact ⟨Below.refl _ _, (hS.out _ (Below.refl _ _)).2⟩
      | exact ⟨bdD (Below.refl _ _), (hS.out _ (bdD (Below.refl _ _))).2⟩
      | (go_split_ands; exact ⟨bdD (by assumption), (hS.out _ (bdD (by assumption))).2⟩)
      | (go_split_ands; exact ⟨nx (by assumption) hb2, (hS.out _ (nx (by assumption) hb2)).2⟩))
    (first
      | (go_at_call 64; (with_reducible refine (decimal_is h hh _ hD).mono ?_); rintro e W1 ⟨rfl, hb2⟩)
      | (go_at_call 64; (with_reducible refine (decimal_is u hu _ hU).mono ?_); rintro e W1 ⟨rfl, hb2⟩))
  all_goals (go_split_ands; go_wp2; go_ret; exact ⟨by rw [← HJ.out]; rfl, dn1 (by assumption)⟩)
theorem refLine_is (s : ByteArray) (k u h : Int) (w : World) (hv : Hid (RsR (s, k, u, h))) {L : ByteArray} (hL : Hid (mkB (lineL (s, k, u, h)) = L)) :
    Calls Tryd.prog 50 #[ra s k u h] w fun e w' => e = .returned (.string L) ∧ Below w.heap.size w w' := by
  have hnum : ((k = 1 ∧ u = 1) ∨ k = 2 ∧ 1 ≤ u ∧ u ≤ 8) ∧ 0 ≤ h ∧ h < 4 := hv.out.nums
  rcases hnum.1 with ⟨rfl, rfl⟩ | ⟨rfl, _⟩
  · exact refLine_lock s h w hv hL
  · exact refLine_pool s u h w hv hL
set_option maxHeartbeats 4000000 in
set_option maxRecDepth 8000 in
theorem refFormat_no (A : Option Addr) (n c : Nat) (l : List P4) (w : World) (hl : InR w A n c l) (hv : Hid (¬ Vcat l)) :
    Calls Tryd.prog 34 #[.slice A n c] w fun e w' => e = .returned (.string ⟨#[]⟩) ∧ Below w.heap.size w w' := by
  have HI := Lib.hid hl
  have hn : Hid (l.length = n) := hl.len
  clear hl
  go_enter Tryd.func34, Tryd.ntmps34
  go_wp2_with (first
    | (go_at_call 21; refine (refVcat_no _ _ _ _ _ HI.out.rd hn hv).mono ?_; rintro e W1 ⟨rfl, hg1⟩; have hb1 := hg1.below; clear hg1))
  go_ret
  exact ⟨rfl, hb1⟩
set_option maxHeartbeats 4000000 in
set_option maxRecDepth 8000 in
theorem refFormat_yes (A : Option Addr) (n c : Nat) (l : List P4) (w : World) (hl : InR w A n c l) (hv : Hid (Vcat l)) {r : ByteArray} (hr : Hid (mkB (txtL l) = r)) :
    Calls Tryd.prog 34 #[.slice A n c] w fun e w' => e = .returned (.string r) ∧ Below w.heap.size w w' := by
  have HI := Lib.hid hl
  have hn : Hid (l.length = n) := hl.len
  have hn8 : n ≤ 8 := by have := hv.out.1; have := hn.out; omega
  clear hl
  go_enter Tryd.func34, Tryd.ntmps34
  go_wp2_with (first
    | (go_at_call 21; refine (refVcat_yes _ _ _ _ _ HI.out.rd hn hv).mono ?_; rintro e W1 ⟨rfl, hg1⟩; have HB1 := Lib.hid hg1.below; clear hg1))
  go_loopw [3, 4] (fun t i wr => ∃ (j : Nat) (T : ByteArray), j ≤ n ∧ i = .int .i64 j ∧ t = .string T ∧ Hid (mkB (txtL (l.take j)) = T) ∧ Hid (Below w.heap.size w wr)) (fun _ i _ => n - (intOf i).toNat)
  case atStart => exact ⟨0, _, by omega, rfl, rfl, by show _ = _; simp [txtL, mkB], HB1⟩
  case round =>
    obtain ⟨j, T, hj, rfl, rfl, hT, hB⟩ := hrel
    by_cases hlt : (j : Int) < (n : Int)
    · obtain ⟨g, o, s', k', u', h', rfl, hg, hxx, c1, c2, c3, c4⟩ := (HI.out.rd.below hB.out).at_ (i := j) (by have := hn.out; omega)
      have e5 : IntKind.i64.wrap ((j : Int) + 1) = (j : Int) + 1 := by rw [IntKind.wrap_i64]; omega
      have hrs : Hid (RsR (s', k', u', h')) := by show RsR _; rw [← hxx.out]; exact hv.out.2.1 j (by have := hn.out; omega)
      obtain ⟨L, hL⟩ : ∃ L, Hid (mkB (lineL (s', k', u', h')) = L) := ⟨_, rfl⟩
      have hsn : Hid (mkB (txtL (l.take (j + 1))) = T ++ L) := by
        show _ = _
        rw [take_snoc4 (by have := hn.out; omega), hxx.out, txtL_snoc, ← hL.out, ← hT.out]
        apply ByteArray.ext
        apply Array.toList_inj.1
        simp [mkB]
      have n1 : ¬ 9223372036854775807 < T.size + L.size := by
        have h1 := txtL_len (l.take j) (fun r hr => hv.out.res (List.mem_of_mem_take hr))
        have h2 := lineL_len hrs.out
        rw [List.length_take] at h1
        rw [← hL.out, ← hT.out, mkB_size, mkB_size]
        omega
      go_wp2_with (first
        | (go_at_call 50; refine (refLine_is _ _ _ _ _ hrs hL).mono ?_; rintro e W2 ⟨rfl, hb2⟩; have HB2 := Lib.hid (nx hB.out hb2); clear hb2))
      go_roundw
      case rel => exact ⟨j + 1, T ++ L, by omega, by go_num, rfl, hsn, HB2⟩
      case measure => simp [intOf]; omega
    · have hfin : Hid (r = T) := by show _ = _; rw [← hr.out, ← hT.out, List.take_of_length_le (by have := hn.out; omega)]
      go_wp2
      go_ret
      exact ⟨by rw [hfin.out]; rfl, hB.out⟩
/-- What Format answers, of both. -/
theorem format_is (A : Option Addr) (n c : Nat) (l : List P4) (w : World) (hl : InR w A n c l) {r : ByteArray} (hr : Hid (Fmt l r)) :
    Calls Tryd.prog 33 #[.slice A n c] w fun e w' => e = .returned (.string r) ∧ Below w.heap.size w w' := by
  rcases hr.out with ⟨h1, h2⟩ | ⟨h1, rfl⟩
  · exact format_yes A n c l w hl h1 h2.symm
  · exact format_no A n c l w hl h1
theorem refFormat_is (A : Option Addr) (n c : Nat) (l : List P4) (w : World) (hl : InR w A n c l) {r : ByteArray} (hr : Hid (Fmt l r)) :
    Calls Tryd.prog 34 #[.slice A n c] w fun e w' => e = .returned (.string r) ∧ Below w.heap.size w w' := by
  rcases hr.out with ⟨h1, h2⟩ | ⟨h1, rfl⟩
  · exact refFormat_yes A n c l w hl h1 h2.symm
  · exact refFormat_no A n c l w hl h1
end Go.Proofs.YtmfdafffafbmpaaDoor
