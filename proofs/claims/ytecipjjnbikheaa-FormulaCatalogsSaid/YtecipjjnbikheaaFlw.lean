/- What the walks of layer 8's statements share. -/
import Derived.Test.YtecipjjnbikheaaFaw
import Derived.Deep.RegionHeld3
namespace Go.Proofs.Ytecipjjnbikheaa
open Go.RowKit
set_option linter.unusedVariables false

theorem InB.si {w : World} {A : Option Addr} {n c : Nat} {l : List Bool} (h : InB w A n c l) : SI w l A n := ⟨h.len, h.rd, h.big⟩
/-- The world behind the box of an expression. -/
abbrev BE (w : World) (k : Int) (s : ByteArray) (m u : Int) (A : Option Addr) (n c : Nat) : World := w.alloc (.cells #[.int .i64 k, .string s, .int .i64 m, .int .i64 u, .slice A n c] 28)
abbrev S5 (W : World) (g : Nat) (k : Int) (s : ByteArray) (m u : Int) (A : Option Addr) (n c : Nat) : Prop := W.cell? ⟨g, 0, none⟩ = some (.int .i64 k) ∧ W.cell? ⟨g, 1, none⟩ = some (.string s) ∧ W.cell? ⟨g, 2, none⟩ = some (.int .i64 m) ∧ W.cell? ⟨g, 3, none⟩ = some (.int .i64 u) ∧ W.cell? ⟨g, 4, none⟩ = some (.slice A n c)
theorem Blk.s5 {W : World} {g : Nat} {k : Int} {s : ByteArray} {m u : Int} {A : Option Addr} {n c : Nat} (h : Blk W g [.int .i64 k, .string s, .int .i64 m, .int .i64 u, .slice A n c]) : S5 W g k s m u A n c := ⟨h.cell 0 rfl, h.cell 1 rfl, h.cell 2 rfl, h.cell 3 rfl, h.cell 4 rfl⟩
theorem be_blk {w W : World} {k : Int} {s : ByteArray} {m u : Int} {A : Option Addr} {n c : Nat} (h : Below (BE w k s m u A n c).heap.size (BE w k s m u A n c) W) : Blk W w.heap.size [.int .i64 k, .string s, .int .i64 m, .int .i64 u, .slice A n c] :=
  (Blk.new w [.int .i64 k, .string s, .int .i64 m, .int .i64 u, .slice A n c] 28 rfl).up h (by simp [BE])
/-- All that stays true behind the box: its cells, the tree. -/
theorem be_all {w : World} {k : Int} {s : ByteArray} {m u : Int} {A : Option Addr} {n c : Nat} {e : Ex} (hT : TIn (Lo w.heap.size) w ⟨k, s, m, u, A, n, c⟩ e) {W : World} (h : Below (BE w k s m u A n c).heap.size (BE w k s m u A n c) W) : S5 W w.heap.size k s m u A n c ∧ TIn (Lo W.heap.size) W ⟨k, s, m, u, A, n, c⟩ e :=
  ⟨(be_blk h).s5, TIn.up hT (dn1 h)⟩
end Go.Proofs.Ytecipjjnbikheaa
