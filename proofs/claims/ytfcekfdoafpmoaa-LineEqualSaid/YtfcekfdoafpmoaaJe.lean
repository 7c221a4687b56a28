/- Claims of one priority, one after the other. Nothing here speaks of a program. -/
import Derived.Test.YtfcekfdoafpmoaaJl
import Derived.Test.YtfcekfdoafpmoaaHmf
import Derived.Test.YtfcekfdoafpmoaaJi
namespace Go.Proofs.Ytfcekfdoafpmoaa
open Go.RowKit
set_option linter.unusedVariables false

def clE (p k : Int) : Wt := (pcN k, (5, 0), p, 0)
def eqL (p : Int) (n : Nat) : List Wt := (List.range n).map fun (k : Nat) => clE p (k : Int)
theorem eqL_len (p : Int) (n : Nat) : (eqL p n).length = n := by simp [eqL]
theorem eqL_succ (p : Int) (n : Nat) : eqL p (n + 1) = eqL p n ++ [clE p n] := by
  unfold eqL
  rw [List.range_succ, List.map_append]
  rfl
theorem eqL_pri {p : Int} {n : Nat} {x : Wt} (h : x ∈ eqL p n) : x.2.2.1 = p := by
  obtain ⟨k, _, rfl⟩ := List.mem_map.1 h
  rfl
theorem eqL_pos (p : Int) (n : Nat) : posW (eqL p n) (clE p n) = n := by
  rw [posW_end (fun x hx => by rw [eqL_pri hx]; exact Int.le_refl _), eqL_len]
theorem eqL_put (p : Int) (n : Nat) : putW (eqL p n) (clE p n) n = eqL p (n + 1) := by
  have h := insW_end (l := eqL p n) (w := clE p n) (fun x hx => by rw [eqL_pri hx]; exact Int.le_refl _)
  unfold insW at h
  rw [eqL_pos] at h
  rw [h, eqL_succ]
theorem pcN_inj8 : ∀ i : Fin 8, ∀ j : Fin 8, pcN ((i : Nat) : Int) = pcN ((j : Nat) : Int) → i = j := by decide
theorem clE_valid {p : Int} (h0 : 0 ≤ p) (h7 : p ≤ 7) (k : Int) : vW (clE p k) = true := by
  have h1 := pcN_valid k
  unfold vW clE
  simp only [Bool.and_eq_true, decide_eq_true_eq]
  exact ⟨⟨h1, by decide⟩, h0, h7, by omega, by omega⟩
theorem eqL_VL {p : Int} (h0 : 0 ≤ p) (h7 : p ≤ 7) {n : Nat} (hn : n ≤ 8) : VL (eqL p n) := by
  refine ⟨by rw [eqL_len]; exact hn, fun x hx => ?_, ?_⟩
  · obtain ⟨k, _, rfl⟩ := List.mem_map.1 hx
    exact clE_valid h0 h7 _
  · unfold eqL ApW
    rw [List.pairwise_map]
    refine List.Pairwise.imp_of_mem ?_ (List.pairwise_lt_range (n := n))
    intro a b ha hb hab e
    have ha := List.mem_range.1 ha
    have hb := List.mem_range.1 hb
    have h := pcN_inj8 ⟨a, by omega⟩ ⟨b, by omega⟩ e
    have h2 : a = b := congrArg Fin.val h
    omega
theorem eqL_new {p : Int} {n : Nat} (hn : n < 8) : ∀ x ∈ eqL p n, x.1 ≠ (clE p n).1 := fun x hx e => by
  obtain ⟨k, hk, rfl⟩ := List.mem_map.1 hx
  have hk := List.mem_range.1 hk
  have h := pcN_inj8 ⟨k, by omega⟩ ⟨n, by omega⟩ e
  have h2 : k = n := congrArg Fin.val h
  omega
theorem eqL_in {p : Int} (h0 : 0 ≤ p) (h7 : p ≤ 7) {n : Nat} (hn : n < 8) : inC (eqL p n) (clE p n) = 0 := by
  unfold inC
  rw [if_neg (by simpa using eqL_VL h0 h7 (n := n) (by omega)), if_neg (by rintro (h | h); (rw [clE_valid h0 h7] at h; cases h); exact h rfl), if_neg (by rw [findW_none (eqL_new hn)]; omega), if_neg (by rw [eqL_len]; omega)]
theorem eqL_full {p : Int} (h0 : 0 ≤ p) (h7 : p ≤ 7) : inC (eqL p 8) (clE p 8) = 11 := by
  unfold inC
  rw [if_neg (by simpa using eqL_VL h0 h7 (n := 8) (by omega)), if_neg (by rintro (h | h); (rw [clE_valid h0 h7] at h; cases h); exact h rfl), if_pos]
  rw [findW_some]
  · omega
  · exact ⟨clE p 0, List.mem_map.2 ⟨0, by decide, rfl⟩, show pcN 0 = pcN 8 by decide⟩
end Go.Proofs.Ytfcekfdoafpmoaa
