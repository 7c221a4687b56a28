/- Small plain words on lock modes. Nothing here speaks of a program. -/
import Derived.Deep.Draws
import Derived.WalkKit
import Derived.Lib.Hide
import Derived.Lib.Small
namespace Go.Proofs.Ytfcekfdoafpmoaa
open Go.RowKit

def vmd (a : Int) : Bool := decide (1 ≤ a ∧ a ≤ 5)
def cpt (a b : Int) : Bool := decide ((a = 1 ∧ 1 ≤ b ∧ b ≤ 4) ∨ (b = 1 ∧ 1 ≤ a ∧ a ≤ 4) ∨ (a = b ∧ (a = 2 ∨ a = 3)))
def cov (a b : Int) : Bool := decide (1 ≤ b ∧ b ≤ a ∧ a ≤ 5 ∧ ¬ (a = 3 ∧ b = 2))
def sup (a b : Int) : Int := if 1 ≤ a ∧ a ≤ 5 ∧ 1 ≤ b ∧ b ≤ 5 then (if (a = 2 ∧ b = 3) ∨ (a = 3 ∧ b = 2) then 4 else max a b) else 0
theorem md_cases {a : Int} (h : 1 ≤ a ∧ a ≤ 5) : a = 1 ∨ a = 2 ∨ a = 3 ∨ a = 4 ∨ a = 5 := by omega

theorem cov_mk {a b : Int} (h : 1 ≤ b ∧ b ≤ a ∧ a ≤ 5 ∧ ¬ (a = 3 ∧ b = 2)) : cov a b = true := decide_eq_true h
theorem cov_is {a b : Int} (h : cov a b = true) : 1 ≤ b ∧ b ≤ a ∧ a ≤ 5 ∧ ¬ (a = 3 ∧ b = 2) := of_decide_eq_true h
theorem cov_sup {a b : Int} (ha : 1 ≤ a ∧ a ≤ 5) (hb : 1 ≤ b ∧ b ≤ 5) : cov (sup a b) a = true ∧ cov (sup a b) b = true := by
  unfold sup
  rw [if_pos ⟨ha.1, ha.2, hb.1, hb.2⟩]
  split <;> exact ⟨cov_mk (by omega), cov_mk (by omega)⟩
theorem sup_least {a b k : Int} (ha : cov k a = true) (hb : cov k b = true) : cov k (sup a b) = true := by
  have h1 := cov_is ha
  have h2 := cov_is hb
  unfold sup
  rw [if_pos (by omega)]
  split <;> exact cov_mk (by omega)
theorem sup_hit {a b k : Int} (ha : cov k a = true) (hb : cov k b = true) (hno : ∀ j, 1 ≤ j → j < k → ¬ (cov j a = true ∧ cov j b = true)) : sup a b = k := by
  have h1 := cov_is ha
  have h2 := cov_is hb
  have h3 := cov_is (sup_least ha hb)
  have h4 := cov_sup (a := a) (b := b) (by omega) (by omega)
  have h5 := cov_is h4.1
  by_cases hlt : sup a b < k
  · exact absurd h4 (hno _ (by omega) hlt)
  · omega
theorem sup_miss {a b : Int} (hno : ∀ j, 1 ≤ j → j < 6 → ¬ (cov j a = true ∧ cov j b = true)) : sup a b = 0 := by
  by_cases h : 1 ≤ a ∧ a ≤ 5 ∧ 1 ≤ b ∧ b ≤ 5
  · have h4 := cov_sup (a := a) (b := b) (by omega) (by omega)
    have h5 := cov_is h4.1
    exact absurd h4 (hno _ (by omega) (by omega))
  · unfold sup
    rw [if_neg h]
theorem below_drewN (w : World) (n : Nat) : Below w.heap.size w (w.drewN n) := ⟨rfl, rfl, rfl, Nat.le_refl _, fun _ _ => rfl⟩
theorem nx {w a b : World} (h : Below w.heap.size w a) (k : Below a.heap.size a b) : Below w.heap.size w b := h.trans (k.mono h.size)
theorem nxA {w a : World} (h : Below w.heap.size w a) (o : Obj) : Below w.heap.size w (a.alloc o) := h.alloc h.size o
theorem newB (w : World) (o : Obj) : Below w.heap.size w (w.alloc o) := (Below.refl _ _).alloc (Nat.le_refl _) o
theorem bdN {B : Nat} {a w : World} (h : Below B a w) (q : Nat) : Below B a (w.drewN q) := ⟨h.os, h.tape, h.output, h.size, h.block⟩
theorem ret_bool {b c : Bool} (h : b = c) : Ending.returned (.bool b) = .returned (.bool c) := by rw [h]
theorem ret_i64 {a b : Int} (h : a = b) : Ending.returned (.int .i64 a) = .returned (.int .i64 b) := by rw [h]
end Go.Proofs.Ytfcekfdoafpmoaa
