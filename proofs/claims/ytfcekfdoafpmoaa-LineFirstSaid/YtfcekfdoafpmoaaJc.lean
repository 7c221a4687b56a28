/- The laws' own functions: claim, number. -/
import Derived.Test.YtfcekfdoafpmoaaJrow
import Derived.Test.YtfcekfdoafpmoaaHmf
namespace Go.Proofs.Ytfcekfdoafpmoaa
open Go.RowKit
set_option linter.unusedVariables false
set_option linter.unusedSimpArgs false

set_option maxHeartbeats 2000000 in
set_option maxRecDepth 8000 in
theorem claim_is (n p : Int) (w : World) (hn : Hid ((Lit.int .i64 n).wf = true)) {x y z : Int} (hx : Hid (pcN n = (x, y, z))) :
    Calls Try.prog 30 #[.int .i64 n, .int .i64 p] w fun e w' => e = .returned (wag x y z 5 0 p 0) ∧ Below w.heap.size w w' := by
  have HK0 := Lib.hid (Blk.new w [.int .i64 0, .int .i64 0, .int .i64 0, .int .i64 0, .int .i64 0, .int .i64 0, .int .i64 0] 28 rfl)
  go_enter Try.func30, Try.ntmps30
  go_wp2_with (go_at_call 28; refine (proc_fn n _ hn hx).mono ?_; rintro e W1 ⟨rfl, hb1⟩; have HB1 := Lib.hid (dn1 hb1); have HK1 := Lib.hid (HK0.out.up hb1 HK0.out.lt); clear hb1; have fz := HK1.out.fz; have lt := HK1.out.lt; have c0 := HK1.out.cell 0 rfl; have c1 := HK1.out.cell 1 rfl; have c2 := HK1.out.cell 2 rfl; have c3 := HK1.out.cell 3 rfl; have c4 := HK1.out.cell 4 rfl; have c5 := HK1.out.cell 5 rfl; have c6 := HK1.out.cell 6 rfl)
  refine bodyPost_ret (v := wag x y z 5 0 p 0) (by simp [results, Try.results30, go_sem, fz, lt, c0, c1, c2, c3, c4, c5, c6]) rfl ⟨rfl, ?_⟩
  exact (((((((HB1.out.setCell (p := ⟨w.heap.size, 0, none⟩) (by simp) _).setCell (p := ⟨w.heap.size, 1, none⟩) (by simp) _).setCell (p := ⟨w.heap.size, 2, none⟩) (by simp) _).setCell (p := ⟨w.heap.size, 3, none⟩) (by simp) _).setCell (p := ⟨w.heap.size, 4, none⟩) (by simp) _).setCell (p := ⟨w.heap.size, 5, none⟩) (by simp) _).setCell (p := ⟨w.heap.size, 6, none⟩) (by simp) _)
/-- The number of a process of the mill. -/
def nuP (p : Pr3) : Int := (p.2.2 - 1) * 4 + p.1
theorem nuP_pcN (n : Int) : nuP (pcN n) = n % 8 := by
  have h5 : 0 ≤ n % 8 := Int.emod_nonneg _ (by omega)
  have h6 : n % 8 < 8 := Int.emod_lt_of_pos _ (by omega)
  unfold nuP pcN
  generalize n % 8 = m at *
  have hc : m = 0 ∨ m = 1 ∨ m = 2 ∨ m = 3 ∨ m = 4 ∨ m = 5 ∨ m = 6 ∨ m = 7 := by omega
  rcases hc with rfl | rfl | rfl | rfl | rfl | rfl | rfl | rfl <;> decide
theorem nuP_range {p : Pr3} (h : p ∈ pcs) : 0 ≤ nuP p ∧ nuP p < 8 := by
  revert p
  decide
theorem pcN_nuP {p : Pr3} (h : p ∈ pcs) : pcN (nuP p) = p := by
  revert p
  decide
theorem nuP_inj {p q : Pr3} (hp : p ∈ pcs) (hq : q ∈ pcs) (h : nuP p = nuP q) : p = q := by rw [← pcN_nuP hp, ← pcN_nuP hq, h]
set_option maxHeartbeats 2000000 in
set_option maxRecDepth 8000 in
theorem number_is (x y z : Int) (w : World) (hp : Hid ((x, y, z) ∈ pcs)) {k : Int} (hk : Hid (nuP (x, y, z) = k)) :
    Calls Try.prog 29 #[.agg #[.int .i64 x, .int .i64 y, .int .i64 z]] w fun e w' => e = .returned (.int .i64 k) ∧ Below w.heap.size w w' := by
  have hr := nuP_range hp.out
  rw [hk.out] at hr
  have hx : 0 ≤ x ∧ x ≤ 3 ∧ 1 ≤ z ∧ z ≤ 2 := by
    have h : ∀ p ∈ pcs, 0 ≤ p.1 ∧ p.1 ≤ 3 ∧ 1 ≤ p.2.2 ∧ p.2.2 ≤ 2 := by decide
    exact h _ hp.out
  have hk2 : (z - 1) * 4 + x = k := hk.out
  have e1 : IntKind.i64.wrap (z - 1) = z - 1 := by rw [IntKind.wrap_i64]; omega
  have e2 : IntKind.i64.wrap ((z - 1) * 4) = (z - 1) * 4 := by rw [IntKind.wrap_i64]; omega
  have e3 : IntKind.i64.wrap ((z - 1) * 4 + x) = k := by rw [IntKind.wrap_i64]; omega
  have hkm : Hid (k % 8 = k) := Lib.hid (Int.emod_eq_of_lt hr.1 hr.2)
  have hwf : (Lit.int .i64 k).wf = true := by
    have hc : k = 0 ∨ k = 1 ∨ k = 2 ∨ k = 3 ∨ k = 4 ∨ k = 5 ∨ k = 6 ∨ k = 7 := by omega
    rcases hc with h | h | h | h | h | h | h | h <;> (rw [h]; decide)
  go_enter Try.func29, Try.ntmps29
  go_wp2_with (go_at_call 26; refine (mod_is k 8 _ hwf (by omega) (by omega) hkm).mono ?_; rintro e W1 ⟨rfl, rfl⟩)
  go_ret
  exact ⟨rfl, newB _ _⟩
end Go.Proofs.Ytfcekfdoafpmoaa
