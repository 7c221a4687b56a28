/- Worlds that have only grown, and small plain words on processes. Nothing here speaks of a program. -/
import Derived.Sort.Grow
import Derived.Deep.Draws
import Derived.WalkKit
import Derived.Lib.Hide
import Derived.Lib.Small
namespace Go.Proofs.Ytfcekfdoafpmoaa
open Go.RowKit
open Go.Sort (grow grow_grow alloc_eq_grow grow_empty heap_grow_old)

/-- w' is w with draws and new blocks. -/
def Gro (w w' : World) : Prop := ∃ q os, w' = grow (w.drewN q) os

theorem grow_drewN (w : World) (os : Array Obj) (n : Nat) : (grow w os).drewN n = grow (w.drewN n) os := rfl
theorem Gro.refl (w : World) : Gro w w := ⟨0, #[], by simp [World.drewN_zero]⟩
theorem Gro.trans {a b c : World} (h : Gro a b) (k : Gro b c) : Gro a c := by
  obtain ⟨q, os, rfl⟩ := h
  obtain ⟨q', os', rfl⟩ := k
  exact ⟨q + q', os ++ os', by rw [grow_drewN, grow_grow, World.drewN_drewN]⟩
theorem Gro.alloc {a b : World} (h : Gro a b) (o : Obj) : Gro a (b.alloc o) := h.trans ⟨0, #[o], by rw [World.drewN_zero, alloc_eq_grow]⟩
theorem Gro.drew {a b : World} (h : Gro a b) : Gro a b.drew := h.trans ⟨1, #[], by rw [grow_empty]; rfl⟩
theorem Gro.drewN {a b : World} (h : Gro a b) (n : Nat) : Gro a (b.drewN n) := h.trans ⟨n, #[], by rw [grow_empty]⟩
theorem below_drewN (w : World) (n : Nat) : Below w.heap.size w (w.drewN n) := ⟨rfl, rfl, rfl, Nat.le_refl _, fun _ _ => rfl⟩
theorem below_grow (w : World) (os : Array Obj) : Below w.heap.size w (grow w os) := ⟨rfl, rfl, rfl, by simp, fun _ hk => heap_grow_old w os hk⟩
theorem Gro.below {a b : World} (h : Gro a b) : Below a.heap.size a b := by
  obtain ⟨q, os, rfl⟩ := h
  exact (below_drewN a q).trans ((below_grow _ os).mono (Nat.le_refl _))
theorem Gro.cell {a b : World} (h : Gro a b) {p : Addr} (hp : p.block < a.heap.size) : b.cell? p = a.cell? p := h.below.cell hp
theorem Gro.frozen {a b : World} (h : Gro a b) {p : Addr} (hp : p.block < a.heap.size) : b.frozen? p = a.frozen? p := h.below.frozen hp
theorem Gro.size {a b : World} (h : Gro a b) : a.heap.size ≤ b.heap.size := h.below.size

/-- A step on a world that was below: the frames joined. -/
theorem nx {w a b : World} (h : Below w.heap.size w a) (k : Below a.heap.size a b) : Below w.heap.size w b := h.trans (k.mono h.size)
theorem nxA {w a : World} (h : Below w.heap.size w a) (o : Obj) : Below w.heap.size w (a.alloc o) := h.alloc h.size o
theorem newB (w : World) (o : Obj) : Below w.heap.size w (w.alloc o) := (Below.refl _ _).alloc (Nat.le_refl _) o

/-! ### Processes and stamps -/
def vpB (a b c : Int) : Bool := decide (0 ≤ a ∧ a < 4 ∧ 1 ≤ b ∧ b ≤ 99 ∧ 1 ≤ c ∧ c ≤ 999)
def vsB (t s : Int) : Bool := decide (0 ≤ t ∧ t ≤ 1073741824 ∧ 0 ≤ s ∧ s < 4)
theorem vpB_true {a b c : Int} (h : vpB a b c = true) : 0 ≤ a ∧ a < 4 ∧ 1 ≤ b ∧ b ≤ 99 ∧ 1 ≤ c ∧ c ≤ 999 := of_decide_eq_true h
theorem vpB_mk {a b c : Int} (h : 0 ≤ a ∧ a < 4 ∧ 1 ≤ b ∧ b ≤ 99 ∧ 1 ≤ c ∧ c ≤ 999) : vpB a b c = true := decide_eq_true h
theorem vpB_false {a b c : Int} (h : ¬ (0 ≤ a ∧ a < 4 ∧ 1 ≤ b ∧ b ≤ 99 ∧ 1 ≤ c ∧ c ≤ 999)) : vpB a b c = false := decide_eq_false h
theorem vsB_mk {t s : Int} (h : 0 ≤ t ∧ t ≤ 1073741824 ∧ 0 ≤ s ∧ s < 4) : vsB t s = true := decide_eq_true h
theorem vsB_true {t s : Int} (h : vsB t s = true) : 0 ≤ t ∧ t ≤ 1073741824 ∧ 0 ≤ s ∧ s < 4 := of_decide_eq_true h
theorem vsB_false {t s : Int} (h : ¬ (0 ≤ t ∧ t ≤ 1073741824 ∧ 0 ≤ s ∧ s < 4)) : vsB t s = false := decide_eq_false h

/-- How two numbers, three numbers and two pairs of numbers are compared. -/
def ord (a b : Int) : Int := if a < b then -1 else if b < a then 1 else 0
theorem ord_lib (a b : Int) : Lib.compareInt a b = ord a b := rfl
theorem ord_cases (a b : Int) : (a < b ∧ ord a b = -1) ∨ (b < a ∧ ord a b = 1) ∨ (a = b ∧ ord a b = 0) := by unfold ord; split <;> (try split) <;> omega
theorem ord_self (a : Int) : ord a a = 0 := by unfold ord; simp
def cmp3 (a b c x y z : Int) : Int := if ord a x = 0 then if ord b y = 0 then ord c z else ord b y else ord a x
theorem cmp3_eq {a b c x y z : Int} (h1 : ord a x = 0) (h2 : ord b y = 0) : cmp3 a b c x y z = ord c z := by rw [cmp3, if_pos h1, if_pos h2]
theorem cmp3_two {a b c x y z : Int} (h1 : ord a x = 0) (h2 : ¬ ord b y = 0) : cmp3 a b c x y z = ord b y := by rw [cmp3, if_pos h1, if_neg h2]
theorem cmp3_one {a b c x y z : Int} (h1 : ¬ ord a x = 0) : cmp3 a b c x y z = ord a x := by rw [cmp3, if_neg h1]
end Go.Proofs.Ytfcekfdoafpmoaa
