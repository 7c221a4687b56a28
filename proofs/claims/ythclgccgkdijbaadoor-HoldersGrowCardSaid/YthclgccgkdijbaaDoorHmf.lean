/- Contracts of the mill, its answers as functions of their numbers: Mode, Amount, Proc; a resource; Light. -/
import Derived.Test.YthclgccgkdijbaaDoorHml
namespace Go.Proofs.YthclgccgkdijbaaDoor
open Go.RowKit
open Go.Sort (grow)
set_option linter.unusedVariables false
set_option linter.unusedSimpArgs false

def mdN (n : Int) : Int := md8 (n % 8).toNat
def amN (k u n : Int) : P2 := if k = 1 then (mdN n, 0) else (0, 1 + n % u)
def pcN (n : Int) : Pr3 := (n % 8 % 4, 1, 1 + n % 8 / 4)
def pcs : List Pr3 := [(0, 1, 1), (1, 1, 1), (2, 1, 1), (3, 1, 1), (0, 1, 2), (1, 1, 2), (2, 1, 2), (3, 1, 2)]
theorem pcN_mem (n : Int) : pcN n ∈ pcs := by
  have h5 : 0 ≤ n % 8 := Int.emod_nonneg _ (by omega)
  have h6 : n % 8 < 8 := Int.emod_lt_of_pos _ (by omega)
  unfold pcN
  generalize n % 8 = m at *
  have hc : m = 0 ∨ m = 1 ∨ m = 2 ∨ m = 3 ∨ m = 4 ∨ m = 5 ∨ m = 6 ∨ m = 7 := by omega
  rcases hc with rfl | rfl | rfl | rfl | rfl | rfl | rfl | rfl <;> decide
theorem pcs_valid : ∀ p ∈ pcs, vpP p = true := by decide
theorem pcN_valid (n : Int) : vpP (pcN n) = true := pcs_valid _ (pcN_mem n)
theorem mdN_is (n : Int) : 1 ≤ mdN n ∧ mdN n ≤ 5 := md8_is _
theorem amN_fit {k u : Int} (n : Int) (h : shp k u = true) : fit k u (amN k u n).1 (amN k u n).2 = true := by
  unfold amN
  rcases of_decide_eq_true h with ⟨rfl, rfl⟩ | ⟨rfl, h1, h2⟩
  · have := mdN_is n
    rw [if_pos rfl]
    unfold fit
    simp
    omega
  · have h5 : 0 ≤ n % u := Int.emod_nonneg _ (by omega)
    have h6 : n % u < u := Int.emod_lt_of_pos _ (by omega)
    rw [if_neg (by omega)]
    unfold fit
    simp
    omega
set_option maxHeartbeats 2000000 in
set_option maxRecDepth 8000 in
theorem mode_fn (n : Int) (w : World) (hn : Hid ((Lit.int .i64 n).wf = true)) {x : Int} (hx : Hid (mdN n = x)) :
    Calls Tryd.prog 50 #[.int .i64 n] w fun e w' => e = .returned (.int .i64 x) ∧ Below w.heap.size w w' := by
  obtain ⟨i, hi, hi8⟩ := mod_nat n 8 (by omega)
  have hcell : ∀ i, i < 8 → (w.alloc (.cells #[.int .i64 5, .int .i64 5, .int .i64 3, .int .i64 4, .int .i64 2, .int .i64 1, .int .i64 3, .int .i64 5] 3)).cell? ⟨w.heap.size, i, none⟩ = some (.int .i64 (md8 i)) := fun i h => by
    have hc : i = 0 ∨ i = 1 ∨ i = 2 ∨ i = 3 ∨ i = 4 ∨ i = 5 ∨ i = 6 ∨ i = 7 := by omega
    rcases hc with rfl | rfl | rfl | rfl | rfl | rfl | rfl | rfl <;> simp [md8]
  have ci := hcell i (by omega)
  have hxi : md8 i = x := by
    have h1 := hx.out
    unfold mdN at h1
    rw [hi.out] at h1
    simpa using h1
  rw [hxi] at ci
  clear hcell hxi hx
  go_enter Tryd.func50, Tryd.ntmps50
  go_wp2_with (go_at_call 49; refine (mod_is n 8 _ hn.out (by omega) (by omega) hi).mono ?_; rintro e W1 ⟨rfl, rfl⟩)
  go_ret
  exact ⟨rfl, newB _ _⟩
set_option maxHeartbeats 2000000 in
set_option maxRecDepth 8000 in
theorem amount_fn (s : ByteArray) (k u h n : Int) (w : World) (hn : Hid ((Lit.int .i64 n).wf = true)) (hsh : Hid (shp k u = true)) {x y : Int} (hx : Hid (amN k u n = (x, y))) :
    Calls Tryd.prog 26 #[.agg #[.string s, .int .i64 k, .int .i64 u, .int .i64 h], .int .i64 n] w fun e w' => e = .returned (.agg #[.int .i64 x, .int .i64 y]) ∧ Below w.heap.size w w' := by
  have hb0 := nxA (newB w (.cells #[.string s, .int .i64 k, .int .i64 u, .int .i64 h] 23)) (.cells #[.int .i64 0, .int .i64 0] 30)
  have hk0 := Blk.new w [.string s, .int .i64 k, .int .i64 u, .int .i64 h] 23 rfl
  have HK := Lib.hid (hk0.grow (.cells #[.int .i64 0, .int .i64 0] 30))
  have hk1 := Blk.new (w.alloc (.cells #[.string s, .int .i64 k, .int .i64 u, .int .i64 h] 23)) [.int .i64 0, .int .i64 0] 30 rfl
  have hsz : (w.alloc (.cells #[.string s, .int .i64 k, .int .i64 u, .int .i64 h] 23)).heap.size = w.heap.size + 1 := by simp
  rw [hsz] at hk1
  have HB0 := Lib.hid hb0
  have HK1 := Lib.hid hk1
  clear hb0 hk0 hk1 hsz
  have hsh2 : (k = 1 ∧ u = 1) ∨ (k = 2 ∧ 1 ≤ u ∧ u ≤ 8) := of_decide_eq_true hsh.out
  clear hsh
  rcases hsh2 with ⟨rfl, rfl⟩ | ⟨rfl, hu, hu8⟩
  · have h1 := hx.out
    unfold amN at h1
    rw [if_pos rfl, Prod.mk.injEq] at h1
    obtain ⟨h1, rfl⟩ := h1
    have hxm : Hid (mdN n = x) := h1
    clear h1 hx
    go_enter Tryd.func26, Tryd.ntmps26
    go_wp2_with (go_at_call 50; refine (mode_fn n _ hn hxm).mono ?_; rintro e W1 ⟨rfl, hb1⟩; have hk2 := HK1.out.up hb1 HK1.out.lt; have c0 := hk2.cell 0 rfl; have c1 := hk2.cell 1 rfl; have fz := hk2.fz; have lt := hk2.lt; have HB1 := Lib.hid (nx HB0.out hb1); clear hb1 hk2)
    refine bodyPost_ret (v := .agg #[.int .i64 x, .int .i64 0]) (by simp [results, Tryd.results26, go_sem, c0, c1, fz, lt]) rfl ⟨rfl, ?_⟩
    exact (HB1.out.setCell (p := ⟨w.heap.size + 1, 0, none⟩) (by simp) _).setCell (p := ⟨w.heap.size + 1, 1, none⟩) (by simp) _
  · obtain ⟨i, hi, hi8⟩ := mod_nat n u hu
    have h1 := hx.out
    unfold amN at h1
    rw [if_neg (by omega), hi.out, Prod.mk.injEq] at h1
    obtain ⟨rfl, rfl⟩ := h1
    have e1 : IntKind.i64.wrap (1 + (i : Int)) = 1 + (i : Int) := by rw [IntKind.wrap_i64]; omega
    clear hi8 hx
    go_enter Tryd.func26, Tryd.ntmps26
    go_wp2_with (go_at_call 49; refine (mod_is n u _ hn.out (by omega) (by omega) hi).mono ?_; rintro e W1 ⟨rfl, rfl⟩)
    exact bodyPost_ret (v := .agg #[.int .i64 0, .int .i64 (1 + (i : Int))]) (by simp [results, Tryd.results26, go_sem]) rfl ⟨rfl, nxA (newB w _) _⟩
set_option maxHeartbeats 2000000 in
set_option maxRecDepth 8000 in
theorem proc_fn (n : Int) (w : World) (hn : Hid ((Lit.int .i64 n).wf = true)) {x y z : Int} (hx : Hid (pcN n = (x, y, z))) :
    Calls Tryd.prog 25 #[.int .i64 n] w fun e w' => e = .returned (.agg #[.int .i64 x, .int .i64 y, .int .i64 z]) ∧ Below w.heap.size w w' := by
  obtain ⟨i, hi, hi8⟩ := mod_nat n 8 (by omega)
  have h1 := hx.out
  unfold pcN at h1
  rw [hi.out, Prod.mk.injEq, Prod.mk.injEq] at h1
  obtain ⟨h1, rfl, h3⟩ := h1
  have hi9 : i < 8 := by omega
  clear hx hi8
  have hc : i = 0 ∨ i = 1 ∨ i = 2 ∨ i = 3 ∨ i = 4 ∨ i = 5 ∨ i = 6 ∨ i = 7 := by omega
  have e1 : Int.tmod (i : Int) 4 = x := by rw [← h1]; rcases hc with rfl | rfl | rfl | rfl | rfl | rfl | rfl | rfl <;> rfl
  have e2 : IntKind.i64.wrap (Int.tdiv (i : Int) 4) = Int.tdiv (i : Int) 4 := by rcases hc with rfl | rfl | rfl | rfl | rfl | rfl | rfl | rfl <;> decide
  have e3 : IntKind.i64.wrap (1 + Int.tdiv (i : Int) 4) = z := by rw [← h3]; rcases hc with rfl | rfl | rfl | rfl | rfl | rfl | rfl | rfl <;> decide
  have e4 : 1 + (i : Int) / 4 = z := h3
  clear hc h1 h3
  go_enter Tryd.func25, Tryd.ntmps25
  go_wp2_with (go_at_call 49; refine (mod_is n 8 _ hn.out (by omega) (by omega) hi).mono ?_; rintro e W1 ⟨rfl, rfl⟩)
  refine bodyPost_ret (v := .agg #[.int .i64 x, .int .i64 1, .int .i64 z]) (by simp [results, Tryd.results25, go_sem, e4]) rfl ⟨rfl, ?_⟩
  exact newB _ _
theorem light_is (A : Option Addr) (n c : Nat) (w : World) : Calls Tryd.prog 22 #[.slice A n c] w fun e w' => e = .returned (.bool (decide ((n : Int) ≤ 300))) ∧ w = w' := by
  go_enter Tryd.func22, Tryd.ntmps22
  go_wp2
  go_ret
  exact ⟨by simp, rfl⟩
end Go.Proofs.YthclgccgkdijbaaDoor
