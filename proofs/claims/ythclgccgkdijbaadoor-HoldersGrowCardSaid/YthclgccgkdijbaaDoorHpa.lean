/- Small laws on two boxes that a region makes and fills; grants made by numbers in plain words. -/
import Derived.Test.YthclgccgkdijbaaDoorHres
import Derived.Test.YthclgccgkdijbaaDoorHrr
namespace Go.Proofs.YthclgccgkdijbaaDoor
open Go.RowKit
set_option linter.unusedVariables false
set_option linter.unusedSimpArgs false

abbrev zP : List Value := [.int .i64 0, .int .i64 0, .int .i64 0]
abbrev zA : List Value := [.int .i64 0, .int .i64 0]
abbrev oP : Obj := .cells #[.int .i64 0, .int .i64 0, .int .i64 0] 26
abbrev oA : Obj := .cells #[.int .i64 0, .int .i64 0] 30
theorem blk_in {X Y : World} {g : Nat} {cs : List Value} (h : Below X.heap.size X Y) (hb : Blk X g cs) : Blk Y g cs := hb.up h hb.lt
theorem blk_sets3 {W : World} {g : Nat} (h : Blk W g zP) (a b c : Value) : Blk (((W.setCell ⟨g, 0, none⟩ a).setCell ⟨g, 1, none⟩ b).setCell ⟨g, 2, none⟩ c) g [a, b, c] := ((h.set 0 a).set 1 b).set 2 c
theorem blk_sets2 {W : World} {g : Nat} (h : Blk W g zA) (a b : Value) : Blk ((W.setCell ⟨g, 0, none⟩ a).setCell ⟨g, 1, none⟩ b) g [a, b] := (h.set 0 a).set 1 b
theorem blk_far {W : World} {g g' o : Nat} {cs : List Value} {v : Value} (h : Blk W g cs) (hg : g ≠ g') : Blk (W.setCell ⟨g', o, none⟩ v) g cs := h.of (Below.heap_setCell _ _ _ _ hg)
theorem light_yes (A : Option Addr) (n c : Nat) (w : World) (h : (n : Int) ≤ 300) : Calls Tryd.prog 22 #[.slice A n c] w fun e w' => e = .returned (.bool true) ∧ w = w' := by
  have := light_is A n c w
  rwa [decide_eq_true h] at this
theorem light_no (A : Option Addr) (n c : Nat) (w : World) (h : ¬ (n : Int) ≤ 300) : Calls Tryd.prog 22 #[.slice A n c] w fun e w' => e = .returned (.bool false) ∧ w = w' := by
  have := light_is A n c w
  rwa [decide_eq_false h] at this
/-- Two boxes behind a region. -/
def TwoB (W : World) (B gp ga : Nat) (x y z m v : Int) : Prop := B ≤ gp ∧ B ≤ ga ∧ Blk W gp [.int .i64 x, .int .i64 y, .int .i64 z] ∧ Blk W ga [.int .i64 m, .int .i64 v]

theorem twoB_mk {W : World} {B gp ga : Nat} {x y z m v : Int} (h1 : B ≤ gp) (h2 : B ≤ ga) (h3 : Blk W gp [.int .i64 x, .int .i64 y, .int .i64 z]) (h4 : Blk W ga [.int .i64 m, .int .i64 v]) : TwoB W B gp ga x y z m v := ⟨h1, h2, h3, h4⟩
instance (k u : Int) (l : List P2) : Decidable (Cmp k u l) := by unfold Cmp pers frs; infer_instance
instance (k u : Int) (l : List Hd) : Decidable (VH k u l) := by unfold VH AscH; infer_instance
instance (k u : Int) (l : List Hd) (p : Pr3) (a : P2) : Decidable (RoomH k u l p a) := by unfold RoomH; infer_instance
def stepM (k u : Int) (D : List Hd) (x : Int) : List Hd := if RoomH k u D (pcN x) (amN k u (x / 8)) then setH D (pcN x) (amN k u (x / 8)) else D
def madeL (k u : Int) (xs : List Int) : List Hd := xs.foldl (stepM k u) []
theorem made_nil (k u : Int) : madeL k u [] = [] := rfl
theorem made_snoc (k u : Int) (xs : List Int) (x : Int) : madeL k u (xs ++ [x]) = stepM k u (madeL k u xs) x := by simp [madeL]
theorem vh_nil {k u : Int} (h : shp k u = true) : VH k u [] := ⟨h, by decide, fun x hx => (by cases hx), List.Pairwise.nil, h, fun a ha => (by cases ha), fun _ => List.Pairwise.nil, fun h2 => by
  rcases of_decide_eq_true h with ⟨h3, -⟩ | ⟨-, h3, -⟩
  · omega
  · show usum [] ≤ u
    rw [usum]
    omega⟩
theorem set_procs {k u : Int} {D : List Hd} {p : Pr3} {a : P2} (ha : fit k u a.1 a.2 = true) (hp : p ∈ pcs) (h : ∀ x ∈ D, x.1 ∈ pcs) : ∀ x ∈ setH D p a, x.1 ∈ pcs := fun x hx => by
  rw [setH_fit ha] at hx
  rcases insH_mem.1 hx with rfl | hx
  · exact hp
  · exact h x (delH_mem.1 hx).1
theorem step_ok {k u : Int} (hs : shp k u = true) {D : List Hd} (h : VH k u D ∧ ∀ x ∈ D, x.1 ∈ pcs) (x : Int) : VH k u (stepM k u D x) ∧ ∀ y ∈ stepM k u D x, y.1 ∈ pcs := by
  unfold stepM
  split
  · rename_i hr
    exact ⟨hr.2.2.2, set_procs hr.2.2.1 (pcN_mem x) h.2⟩
  · exact h
theorem fold_ok {k u : Int} (hs : shp k u = true) : ∀ (xs : List Int) (D : List Hd), (VH k u D ∧ ∀ x ∈ D, x.1 ∈ pcs) → (VH k u (xs.foldl (stepM k u) D) ∧ ∀ x ∈ xs.foldl (stepM k u) D, x.1 ∈ pcs)
  | [], _, h => h
  | x :: xs, D, h => fold_ok hs xs _ (step_ok hs h x)
theorem made_ok {k u : Int} (hs : shp k u = true) (xs : List Int) : VH k u (madeL k u xs) ∧ ∀ x ∈ madeL k u xs, x.1 ∈ pcs := fold_ok hs xs [] ⟨vh_nil hs, fun x hx => by cases hx⟩
end Go.Proofs.YthclgccgkdijbaaDoor
