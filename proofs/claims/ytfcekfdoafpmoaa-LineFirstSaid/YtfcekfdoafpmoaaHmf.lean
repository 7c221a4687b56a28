/- Contracts of the mill, its answers as functions of their numbers: Mode, Amount, Proc; a resource; Light. -/
import Derived.Test.YtfcekfdoafpmoaaHml
namespace Go.Proofs.Ytfcekfdoafpmoaa
open Go.RowKit
open Go.Sort (grow)
set_option linter.unusedVariables false
set_option linter.unusedSimpArgs false

def mdN (n : Int) : Int := md8 (n % 8).toNat
def amN (k u n : Int) : P2 := if k = 1 then (mdN n, 0) else (0, 1 + n % u)
def pcN (n : Int) : Pr3 := (n % 8 % 4, 1, 1 + n % 8 / 4)
def pcs : List Pr3 := [(0, 1, 1), (1, 1, 1), (2, 1, 1), (3, 1, 1), (0, 1, 2), (1, 1, 2), (2, 1, 2), (3, 1, 2)]
theorem pcN_mem (n : Int) : pcN n ∈ pcs := by
  have h5 : 0 ≤ n % 8 := Int.emod_nonneg _ (by omega)
  have h6 : n % 8 < 8 := Int.emod_lt_of_pos _ (by omega)
  unfold pcN
  generalize n % 8 = m at *
  have hc : m = 0 ∨ m = 1 ∨ m = 2 ∨ m = 3 ∨ m = 4 ∨ m = 5 ∨ m = 6 ∨ m = 7 := by omega
  rcases hc with rfl | rfl | rfl | rfl | rfl | rfl | rfl | rfl <;> decide
theorem pcs_valid : ∀ p ∈ pcs, vpP p = true := by decide
theorem pcN_valid (n : Int) : vpP (pcN n) = true := pcs_valid _ (pcN_mem n)
theorem mdN_is (n : Int) : 1 ≤ mdN n ∧ mdN n ≤ 5 := md8_is _
theorem amN_fit {k u : Int} (n : Int) (h : shp k u = true) : fit k u (amN k u n).1 (amN k u n).2 = true := by
  unfold amN
  rcases of_decide_eq_true h with ⟨rfl, rfl⟩ | ⟨rfl, h1, h2⟩
  · have := mdN_is n
    rw [if_pos rfl]
    unfold fit
    simp
    omega
  · have h5 : 0 ≤ n % u := Int.emod_nonneg _ (by omega)
    have h6 : n % u < u := Int.emod_lt_of_pos _ (by omega)
    rw [if_neg (by omega)]
    unfold fit
    simp
    omega
set_option maxHeartbeats 2000000 in
set_option maxRecDepth 8000 in
theorem proc_fn (n : Int) (w : World) (hn : Hid ((Lit.int .i64 n).wf = true)) {x y z : Int} (hx : Hid (pcN n = (x, y, z))) :
    Calls Try.prog 28 #[.int .i64 n] w fun e w' => e = .returned (.agg #[.int .i64 x, .int .i64 y, .int .i64 z]) ∧ Below w.heap.size w w' := by
  obtain ⟨i, hi, hi8⟩ := mod_nat n 8 (by omega)
  have h1 := hx.out
  unfold pcN at h1
  rw [hi.out, Prod.mk.injEq, Prod.mk.injEq] at h1
  obtain ⟨h1, rfl, h3⟩ := h1
  have hi9 : i < 8 := by omega
  clear hx hi8
  have hc : i = 0 ∨ i = 1 ∨ i = 2 ∨ i = 3 ∨ i = 4 ∨ i = 5 ∨ i = 6 ∨ i = 7 := by omega
  have e1 : Int.tmod (i : Int) 4 = x := by rw [← h1]; rcases hc with rfl | rfl | rfl | rfl | rfl | rfl | rfl | rfl <;> rfl
  have e2 : IntKind.i64.wrap (Int.tdiv (i : Int) 4) = Int.tdiv (i : Int) 4 := by rcases hc with rfl | rfl | rfl | rfl | rfl | rfl | rfl | rfl <;> decide
  have e3 : IntKind.i64.wrap (1 + Int.tdiv (i : Int) 4) = z := by rw [← h3]; rcases hc with rfl | rfl | rfl | rfl | rfl | rfl | rfl | rfl <;> decide
  have e4 : 1 + (i : Int) / 4 = z := h3
  clear hc h1 h3
  go_enter Try.func28, Try.ntmps28
  go_wp2_with (go_at_call 26; refine (mod_is n 8 _ hn.out (by omega) (by omega) hi).mono ?_; rintro e W1 ⟨rfl, rfl⟩)
  refine bodyPost_ret (v := .agg #[.int .i64 x, .int .i64 1, .int .i64 z]) (by simp [results, Try.results28, go_sem, e4]) rfl ⟨rfl, ?_⟩
  exact newB _ _
theorem light_is (A : Option Addr) (n c : Nat) (w : World) : Calls Try.prog 25 #[.slice A n c] w fun e w' => e = .returned (.bool (decide ((n : Int) ≤ 300))) ∧ w = w' := by
  go_enter Try.func25, Try.ntmps25
  go_wp2
  go_ret
  exact ⟨by simp, rfl⟩
end Go.Proofs.Ytfcekfdoafpmoaa
