/- Contracts of the reference: Decimal, the texts of modes and amounts. -/
import Derived.Test.YtlokcmbkkfjlkaaGreatDoorRrv
import Derived.Test.YtlokcmbkkfjlkaaGreatDoorRfor
namespace Go.Proofs.YtlokcmbkkfjlkaaGreatDoor
open Go.RowKit
set_option linter.unusedVariables false
set_option linter.unusedSimpArgs false

theorem conv_one (W : World) (b : Nat) (x : Int) (h : W.cell? ⟨b, 0, none⟩ = some (.int .u8 x)) :
    (convert 104 9 (.slice (some ⟨b, 0, none⟩) 1 1)).run Tryz.prog W = .ok (.string (strOfNums [x])) W :=
  run_convert_bytes_arg W 104 5 Tryz.underlying104 Tryz.underlying5 b 0 1 1 [x] rfl (fun i hi => by
    obtain rfl : i = 0 := by simpa using hi
    simpa using h) 9 Tryz.underlying9
theorem num_one {n : Int} (h0 : 0 ≤ n) (h1 : n < 10) : strOfNums [48 + n] = mkB [dgt n.toNat] := by
  apply ByteArray.ext
  apply Array.toList_inj.1
  rw [strOfNums_data]
  simp only [mkB, List.map_cons, List.map_nil]
  congr 1
  apply UInt8.toNat_inj.1
  rw [dgt_nat (by omega), UInt8.toNat_ofNat']
  omega
theorem decimal_one (n : Int) (w : World) (h0 : 0 ≤ n) (h1 : n < 10) :
    Calls Tryz.prog 43 #[.int .i64 n] w fun e w' => e = .returned (.string (mkB (dec n.toNat))) ∧ Below w.heap.size w w' := by
  have hk := conv_one
  have hn := Lib.hid (num_one h0 h1)
  go_enter Tryz.func43, Tryz.ntmps43
  go_wp2
  go_ret
  refine ⟨?_, newB _ _⟩
  rw [dec_one (by omega), ← hn.out]
  rfl
set_option maxHeartbeats 1000000 in
theorem decimal_step (n q r : Int) (w : World) (hn : Hid (10 * q + r = n)) (hq : 1 ≤ q) (hq9 : q < 1000) (hr0 : 0 ≤ r) (hr9 : r < 10)
    (HQ : Hid (∀ W, Calls Tryz.prog 43 #[.int .i64 q] W fun e w' => e = .returned (.string (mkB (dec q.toNat))) ∧ Below W.heap.size W w')) :
    Calls Tryz.prog 43 #[.int .i64 n] w fun e w' => e = .returned (.string (mkB (dec n.toNat))) ∧ Below w.heap.size w w' := by
  have hk := conv_one
  have h10 : ¬ n < 10 := by have := hn.out; omega
  have e1 : n.tdiv 10 = q := by have := hn.out; rw [Int.tdiv_eq_ediv_of_nonneg (by omega)]; omega
  have e2 : n.tmod 10 = r := by have := hn.out; rw [Int.tmod_eq_emod_of_nonneg (by omega)]; omega
  have e3 : IntKind.i64.wrap (48 + r) = 48 + r := by rw [IntKind.wrap_i64]; omega
  have e4 : IntKind.u8.wrap (48 + r) = 48 + r := by rw [IntKind.wrap_u8]; omega
  have e5 : IntKind.i64.wrap q = q := by rw [IntKind.wrap_i64]; omega
  obtain ⟨D, hD⟩ : ∃ D, Hid (mkB (dec q.toNat) = D) := ⟨_, rfl⟩
  have hone := Lib.hid (num_one hr0 hr9)
  have hl : ¬ 9223372036854775807 < D.size + (strOfNums [48 + r]).size := by
    have := (dec_len (n := q.toNat) (by omega)).2
    rw [hone.out, ← hD.out, mkB_size, mkB_size]
    simp
    omega
  rw [hD.out] at HQ
  have hfin : Hid (D ++ strOfNums [48 + r] = mkB (dec n.toNat)) := by
    show _ = _
    rw [hone.out, ← hD.out, show n.toNat = 10 * q.toNat + r.toNat by have := hn.out; omega, dec_more (by omega) (by omega)]
    apply ByteArray.ext
    apply Array.toList_inj.1
    simp [mkB]
  go_enter Tryz.func43, Tryz.ntmps43
  go_wp2
  go_region_held (fun W => Below w.heap.size w W)
    (first
      | exact Below.refl _ _
      | exact (Below.refl _ _).drew
      | assumption
      | exact nxA (by assumption) _
      | exact nx (by assumption) hb1)
    (first
      | (go_at_call 43; refine (HQ.out _).mono ?_; rintro e W1 ⟨rfl, hb1⟩; obtain ⟨hc1, hf1⟩ := bcell hb1))
  all_goals (go_wp2; go_ret; exact ⟨by rw [← hfin.out]; rfl, by assumption⟩)
theorem decimal_any (n : Int) (w : World) (h0 : 0 ≤ n) (h1 : n < 10000) :
    Calls Tryz.prog 43 #[.int .i64 n] w fun e w' => e = .returned (.string (mkB (dec n.toNat))) ∧ Below w.heap.size w w' := by
  have key : ∀ f : Nat, ∀ (n : Int) (w : World), 0 ≤ n → n < 10000 → n < 10 ^ f → Calls Tryz.prog 43 #[.int .i64 n] w fun e w' => e = .returned (.string (mkB (dec n.toNat))) ∧ Below w.heap.size w w' := by
    intro f
    induction f with
    | zero => intro n w h0 h1 h2; exact decimal_one n w h0 (by simp at h2; omega)
    | succ f ih =>
      intro n w h0 h1 h2
      by_cases h10 : n < 10
      · exact decimal_one n w h0 h10
      · have hp : (10 : Int) ^ (f + 1) = 10 ^ f * 10 := by rw [Int.pow_succ]
        exact decimal_step n (n / 10) (n % 10) w (by show _ = _; omega) (by omega) (by omega) (by omega) (by omega) (fun W => ih (n / 10) W (by omega) (by omega) (by omega))
  exact key 4 n w h0 h1 (by omega)
theorem decimal_str (n : Int) (w : World) (h0 : 0 ≤ n) (h1 : n < 10000) {A : ByteArray} (hA : Hid (mkB (dec n.toNat) = A)) :
    Calls Tryz.prog 43 #[.int .i64 n] w fun e w' => e = .returned (.string A) ∧ Below w.heap.size w w' := by
  have h' := hA.out
  subst h'
  exact decimal_any n w h0 h1
theorem refFormatM_any (a : Int) (w : World) (h : 1 ≤ a ∧ a ≤ 5) {r : ByteArray} (hr : Hid (mkB (mdT a) = r)) : Calls Tryz.prog 71 #[.int .i64 a] w fun e w' => e = .returned (.string r) ∧ w = w' := by
  rw [← hr.out, ← nmB_mdT]
  clear hr
  rcases md_cases h with rfl | rfl | rfl | rfl | rfl
  all_goals (
    clear h
    go_enter Tryz.func71, Tryz.ntmps71
    go_wp2
    go_ret
    exact ⟨rfl, rfl⟩)
theorem refZero_no {m n : Int} (w : World) (h : Hid (zer m n = false)) : Calls Tryz.prog 95 #[aa m n] w fun e w' => e = .returned (.bool false) ∧ Below w.heap.size w w' := by
  have e0 := eqAm m n 0 0
  have h' : decide (m = 0 ∧ n = 0) = false := h.out
  rw [h'] at e0
  go_enter Tryz.func95, Tryz.ntmps95
  go_wp2
  go_ret
  exact ⟨rfl, newB _ _⟩
theorem refFmt_mode {m : Int} (w : World) (hm : 1 ≤ m ∧ m ≤ 5) {r : ByteArray} (hr : Hid (mkB (mdT m) = r)) : Calls Tryz.prog 67 #[aa m 0] w fun e w' => e = .returned (.string r) ∧ Below w.heap.size w w' := by
  have hz : Hid (zer m 0 = false) := by show _ = _; unfold zer; simp; omega
  have HM := Lib.hid hm
  clear hm
  go_enter Tryz.func67, Tryz.ntmps67
  go_wp2_with (first
    | (go_at_call 95; refine (refZero_no _ hz).mono ?_; rintro e W1 ⟨rfl, hb1⟩; obtain ⟨hc1, hf1⟩ := bcell hb1)
    | (go_at_call 71; refine (refFormatM_any _ _ HM.out hr).mono ?_; rintro e W2 ⟨rfl, rfl⟩))
  go_ret
  exact ⟨rfl, dn1 hb1⟩
theorem refFmt_units {u : Int} (w : World) (hu : 1 ≤ u ∧ u ≤ 8) {r : ByteArray} (hr : Hid (mkB (42 :: dec u.toNat) = r)) : Calls Tryz.prog 67 #[aa 0 u] w fun e w' => e = .returned (.string r) ∧ Below w.heap.size w w' := by
  have hz : Hid (zer 0 u = false) := by show _ = _; unfold zer; simp; omega
  have hu0 : (u == 0) = false := by rw [beq_eq_false_iff_ne]; omega
  have h0 : 0 ≤ u := by omega
  have h1 : u < 10000 := by omega
  have h11 : 1 ≤ u := hu.1
  have h18 : u ≤ 8 := hu.2
  obtain ⟨D, hD⟩ : ∃ D, Hid (mkB (dec u.toNat) = D) := ⟨_, rfl⟩
  have hDs : D.size ≤ 4 := by rw [← hD.out, mkB_size]; have := dec_len4 (n := u.toNat) (by omega); omega
  have n1 : ¬ 9223372036854775807 < 1 + D.size := by omega
  have hend : Hid ((⟨#[42]⟩ : ByteArray) ++ D = r) := by
    show _ = _
    rw [← hr.out, ← hD.out]
    apply ba_ext
    rw [ba_data, mkB_data, mkB_data]
    rfl
  clear hu
  go_enter Tryz.func67, Tryz.ntmps67
  go_wp2_with (first
    | (go_at_call 95; refine (refZero_no _ hz).mono ?_; rintro e W1 ⟨rfl, hb1⟩; obtain ⟨hc1, hf1⟩ := bcell hb1; have HB1 := Lib.hid (dn1 hb1); clear hb1)
    | (go_at_call 43; refine (decimal_str u _ h0 h1 hD).mono ?_; rintro e W2 ⟨rfl, hb2⟩; have HB2 := Lib.hid (nx HB1.out hb2); clear hb2))
  go_ret
  exact ⟨by rw [← hend.out]; rfl, HB2.out⟩
end Go.Proofs.YtlokcmbkkfjlkaaGreatDoor
