/- Contracts: whether there is room for one amount more. -/
import Derived.Test.YtfcekfdoafpmoaaAcat
import Derived.Test.YtfcekfdoafpmoaaArcomp
import Derived.Deep.AppendLies
namespace Go.Proofs.Ytfcekfdoafpmoaa
open Go.RowKit
open Go.Sort (grow)
set_option linter.unusedVariables false
set_option linter.unusedSimpArgs false

abbrev E2 (W : World) (g : Nat) (x y : Int) : Prop := W.cell? ⟨g, 0, none⟩ = some (.int .i64 x) ∧ W.cell? ⟨g, 1, none⟩ = some (.int .i64 y)
theorem E2.of {w W : World} {g : Nat} {x y : Int} (hb : Below w.heap.size w W) (hg : g < w.heap.size) (hc : E2 w g x y) : E2 W g x y :=
  ⟨(hb.cell (p := ⟨g, 0, none⟩) hg).trans hc.1, (hb.cell (p := ⟨g, 1, none⟩) hg).trans hc.2⟩
theorem ard_one {W : World} {g : Nat} {x y : Int} (h : E2 W g x y) : ARd W (some ⟨g, 0, none⟩) [(x, y)] := fun _ =>
  ⟨g, 0, rfl, World.block_lt_of_cell? W _ h.1, fun i hi => by
    obtain rfl : i = 0 := by simpa using hi
    exact h⟩
/-- The two boxes of a call on a resource and an amount. -/
abbrev T2 (w : World) (s : ByteArray) (k u h m n : Int) : World := (w.alloc (.cells #[.string s, .int .i64 k, .int .i64 u, .int .i64 h] 64)).alloc (.cells #[.int .i64 m, .int .i64 n] 26)
theorem keep2 {w W : World} {s : ByteArray} {k u h m n : Int} (hW : Below (T2 w s k u h m n).heap.size (T2 w s k u h m n) W) :
    Below (T2 w s k u h m n).heap.size (T2 w s k u h m n) W ∧ S4 W w.heap.size s k u h ∧ E2 W (w.heap.size + 1) m n :=
  ⟨hW, S4.of hW (by simp [T2]; omega) ⟨by simp [T2], by simp [T2], by simp [T2], by simp [T2]⟩, E2.of hW (by simp [T2]) ⟨by simp [T2], by simp [T2]⟩⟩

theorem E2.far {w w' : World} {row : Option Nat} (hg : w.grownBy w' row) {g : Nat} {x y : Int} (h : E2 w g x y) (hne : some g ≠ row) : E2 w' g x y := by
  have hlt : g < w.heap.size := World.block_lt_of_cell? w _ h.1
  exact ⟨(hg.cell_far ⟨g, 0, none⟩ hlt hne).trans h.1, (hg.cell_far ⟨g, 1, none⟩ hlt hne).trans h.2⟩
theorem size_T2 (w : World) (s : ByteArray) (k u h x y : Int) : (T2 w s k u h x y).heap.size = w.heap.size + 1 + 1 := by simp [T2]
abbrev oE : Obj := .cells #[] 26
abbrev oB (x y : Int) : Obj := .cells #[.int .i64 x, .int .i64 y] 26
theorem ownA_a (W : World) (G : Nat) (hG : W.heap.size = G) : OwnA (W.alloc oE).drew W.heap.size (.slice (some ⟨G, 0, none⟩) 0 0) [] := by
  subst hG
  exact (OwnA.empty W W.heap.size (Nat.le_refl _)).below (bdD (Below.refl _ _))
theorem ownA_b (W : World) (o : Obj) (G : Nat) (hG : W.heap.size = G) : OwnA ((W.alloc oE).alloc o).drew W.heap.size (.slice (some ⟨G, 0, none⟩) 0 0) [] := by
  subst hG
  exact (OwnA.empty W W.heap.size (Nat.le_refl _)).below (bdD (newB _ _))
theorem ownA_c (W : World) (o : Obj) (G : Nat) (hG : W.heap.size + 1 = G) : OwnA ((W.alloc o).alloc oE).drew W.heap.size (.slice (some ⟨G, 0, none⟩) 0 0) [] := by
  have e : (W.alloc o).heap.size = G := by simpa using hG
  subst e
  exact (OwnA.empty (W.alloc o) W.heap.size (by simp)).below (bdD (Below.refl _ _))

end Go.Proofs.Ytfcekfdoafpmoaa
