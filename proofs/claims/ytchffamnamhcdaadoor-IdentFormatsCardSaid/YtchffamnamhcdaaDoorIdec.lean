/- Contracts of the reference's Decimal and FormatProc. -/
import Derived.Test.YtchffamnamhcdaaDoorIb
import Derived.Test.YtchffamnamhcdaaDoorEq
namespace Go.Proofs.YtchffamnamhcdaaDoor
set_option linter.unusedVariables false
open Go.RowKit

theorem conv_one (W : World) (b : Nat) (x : Int) (h : W.cell? ⟨b, 0, none⟩ = some (.int .u8 x)) :
    (convert 41 9 (.slice (some ⟨b, 0, none⟩) 1 1)).run Tryd.prog W = .ok (.string (strOfNums [x])) W :=
  conv_bytes (P := Tryd.prog) 41 5 9 Tryd.underlying41 Tryd.underlying5 Tryd.underlying9 (some ⟨b, 0, none⟩) 1 [x] (fun _ => ⟨b, 0, rfl, World.block_lt_of_cell? W _ h, fun i hi => by
    obtain rfl : i = 0 := by simpa using hi
    simpa using h⟩)
theorem num_one {n : Int} (h0 : 0 ≤ n) (h1 : n < 10) : strOfNums [48 + n] = mkB [dgt n.toNat] := by
  apply ByteArray.ext
  apply Array.toList_inj.1
  rw [strOfNums_data]
  simp only [mkB, List.map_cons, List.map_nil]
  congr 1
  apply UInt8.toNat_inj.1
  rw [dgt_nat (by omega), UInt8.toNat_ofNat']
  omega

theorem decimal_one (n : Int) (w : World) (h0 : 0 ≤ n) (h1 : n < 10) :
    Calls Tryd.prog 47 #[.int .i64 n] w fun e w' => e = .returned (.string (mkB (dec n.toNat))) ∧ Below w.heap.size w w' := by
  have hk := conv_one
  have hn := Lib.hid (num_one h0 h1)
  go_enter Tryd.func47, Tryd.ntmps47
  go_wp2
  go_ret
  refine ⟨?_, newB _ _⟩
  rw [dec_one (by omega), ← hn.out]
  rfl
theorem decimal_step (n q r : Int) (w : World) (hn : Hid (10 * q + r = n)) (hq : 1 ≤ q) (hq9 : q < 1000) (hr0 : 0 ≤ r) (hr9 : r < 10)
    (HQ : Hid (∀ W, Calls Tryd.prog 47 #[.int .i64 q] W fun e w' => e = .returned (.string (mkB (dec q.toNat))) ∧ Below W.heap.size W w')) :
    Calls Tryd.prog 47 #[.int .i64 n] w fun e w' => e = .returned (.string (mkB (dec n.toNat))) ∧ Below w.heap.size w w' := by
  have hk := conv_one
  have h10 : ¬ n < 10 := by have := hn.out; omega
  have e1 : n.tdiv 10 = q := by have := hn.out; rw [Int.tdiv_eq_ediv_of_nonneg (by omega)]; omega
  have e2 : n.tmod 10 = r := by have := hn.out; rw [Int.tmod_eq_emod_of_nonneg (by omega)]; omega
  have e3 : IntKind.i64.wrap (48 + r) = 48 + r := by rw [IntKind.wrap_i64]; omega
  have e4 : IntKind.u8.wrap (48 + r) = 48 + r := by rw [IntKind.wrap_u8]; omega
  have e5 : IntKind.i64.wrap q = q := by rw [IntKind.wrap_i64]; omega
  obtain ⟨D, hD⟩ : ∃ D, Hid (mkB (dec q.toNat) = D) := ⟨_, rfl⟩
  have hone := Lib.hid (num_one hr0 hr9)
  have hl : ¬ 9223372036854775807 < D.size + (strOfNums [48 + r]).size := by
    have := (dec_len (n := q.toNat) (by omega)).2
    rw [hone.out, ← hD.out, mkB_size, mkB_size]
    simp
    omega
  rw [hD.out] at HQ
  have hfin : Hid (D ++ strOfNums [48 + r] = mkB (dec n.toNat)) := by
    show _ = _
    rw [hone.out, ← hD.out, show n.toNat = 10 * q.toNat + r.toNat by have := hn.out; omega, dec_more (by omega) (by omega)]
    apply ByteArray.ext
    apply Array.toList_inj.1
    simp [mkB]
  go_enter Tryd.func47, Tryd.ntmps47
  go_wp2
  go_region_held (fun W => Below w.heap.size w W)
    (first
      | exact Below.refl _ _
      | exact (Below.refl _ _).drew
      | assumption
      | exact nxA (by assumption) _
      | exact nx (by assumption) hb1)
    (first
      | (go_at_call 47; refine (HQ.out _).mono ?_; rintro e W1 ⟨rfl, hb1⟩; obtain ⟨hc1, hf1⟩ := bcell hb1))
  all_goals (go_wp2; go_ret; exact ⟨by rw [← hfin.out]; rfl, by assumption⟩)
theorem decimal_any (n : Int) (w : World) (h0 : 0 ≤ n) (h1 : n < 1000) :
    Calls Tryd.prog 47 #[.int .i64 n] w fun e w' => e = .returned (.string (mkB (dec n.toNat))) ∧ Below w.heap.size w w' := by
  by_cases h10 : n < 10
  · exact decimal_one n w h0 h10
  · by_cases h100 : n < 100
    · exact decimal_step n (n / 10) (n % 10) w (by show _ = _; omega) (by omega) (by omega) (by omega) (by omega) fun W => decimal_one _ W (by omega) (by omega)
    · exact decimal_step n (n / 10) (n % 10) w (by show _ = _; omega) (by omega) (by omega) (by omega) (by omega) fun W => decimal_step (n / 10) (n / 10 / 10) (n / 10 % 10) W (by show _ = _; omega) (by omega) (by omega) (by omega) (by omega) fun W => decimal_one _ W (by omega) (by omega)
theorem decimal_str (n : Int) (w : World) (h0 : 0 ≤ n) (h1 : n < 1000) {A : ByteArray} (hA : Hid (mkB (dec n.toNat) = A)) :
    Calls Tryd.prog 47 #[.int .i64 n] w fun e w' => e = .returned (.string A) ∧ Below w.heap.size w w' := by
  have h' := hA.out
  subst h'
  exact decimal_any n w h0 h1
end Go.Proofs.YtchffamnamhcdaaDoor
