/- Contract of ParseProc: the process whose text it is, if there is one. -/
import Derived.Test.YtchffamnamhcdaaDoorIfmt
import Derived.Test.YtchffamnamhcdaaDoorIsplit
import Derived.Test.YtchffamnamhcdaaDoorImerge
namespace Go.Proofs.YtchffamnamhcdaaDoor
open Go.RowKit

/-- The package variables of the library that a call may read: the table, and two errors. -/
def Vars (w : World) : Prop := Tab w ∧ (∃ tp p, w.var? Tryd.prog "strconv.ErrSyntax" = some #[.iface tp p]) ∧ ∃ tp p, w.var? Tryd.prog "strconv.ErrRange" = some #[.iface tp p]
theorem Vars.below {w w' : World} (h : Vars w) (hb : Below w.heap.size w w') : Vars w' := by
  obtain ⟨h1, ⟨tp, p, h2⟩, tq, q, h3⟩ := h
  exact ⟨h1.below hb, ⟨tp, p, var_below h2 hb⟩, tq, q, var_below h3 hb⟩

/-- The end of strconv.Atoi with an error. -/
def AtoiErr (w : World) (e : Ending) (w' : World) : Prop := ∃ (m : Int) (k : Nat), e = .returned (.tuple #[.int .i64 m, .iface 89 (.pointer (some ⟨k, 0, none⟩))]) ∧ Below w.heap.size w w'
theorem atoi_ok (s : ByteArray) (hs : s.size ≤ 140737488351232) (w : World) {v : Int} (h : Hid (Lib.atoiAll s.data.toList = .ok v)) :
    Calls Tryd.prog 45 #[.string s] w fun e w' => e = .returned (.tuple #[.int .i64 v, .nilIface]) ∧ Below w.heap.size w w' :=
  (Tryd.strconv_Atoi_ok s (by omega) v h.out w).mono fun _ _ ⟨he, hw⟩ => ⟨he, by
    rcases hw with rfl | ⟨t, rfl⟩
    · exact Below.refl _ _
    · exact Lib.bytesWorld_below _ _ _⟩
theorem atoi_bad (s : ByteArray) (hs : s.size ≤ 140737488351232) (w : World) (hV : Vars w) (h : Hid (∀ v, ¬ Lib.atoiAll s.data.toList = .ok v)) :
    Calls Tryd.prog 45 #[.string s] w (AtoiErr w) := by
  obtain ⟨_, ⟨tp, p, h2⟩, tq, q, h3⟩ := hV
  cases ha : Lib.atoiAll s.data.toList
  · exact absurd ha (h.out _)
  · exact (Tryd.strconv_Atoi_syntax_var s (by omega) ha tp p w h2).mono fun _ _ ⟨N, he, _, _, hb⟩ => ⟨_, N, he, hb⟩
  · exact (Tryd.strconv_Atoi_range_var s (by omega) ha tq q w h3).mono fun _ _ ⟨N, he, _, _, hb⟩ => ⟨_, N, he, hb⟩

/-- What reading the text l gives. -/
def Res (l : List UInt8) (a b c : Int) (r : Bool) : Prop := (r = true ∧ PText l a b c) ∨ (r = false ∧ a = 0 ∧ b = 0 ∧ c = 0 ∧ ∀ x y z, ¬ PText l x y z)
def ParseV (a b c : Int) (r : Bool) : Value := .tuple #[.agg #[.int .i64 a, .int .i64 b, .int .i64 c], .bool r]
def Parses (l : List UInt8) (w : World) (e : Ending) (w' : World) : Prop := ∃ a b c r, e = .returned (ParseV a b c r) ∧ Res l a b c r ∧ Below w.heap.size w w'
theorem parses_no {l : List UInt8} {w w' : World} (h : ∀ x y z, ¬ PText l x y z) (hb : Below w.heap.size w w') : Parses l w (.returned (ParseV 0 0 0 false)) w' := ⟨0, 0, 0, false, rfl, .inr ⟨rfl, rfl, rfl, rfl, h⟩, hb⟩
theorem ptext_cut {s : ByteArray} {a b c : Int} (h : PText s.data.toList a b c) : cutN (min 4 (s.size + 1) - 1) s.data.toList = [dec a.toNat, dec b.toNat, dec c.toNat] := by
  have hl := fmtP_len h.1
  rw [← h.2] at hl
  have : s.size = s.data.toList.length := by simp
  rw [show min 4 (s.size + 1) - 1 = 1 + 2 by omega, h.2]
  exact fmtP_cut h.1 1

/-- The worlds while a text is read: the result, the pieces and the numbers, each in its block. -/
def PW (w wr : World) (N : Nat) (x y z : List UInt8) (u v t : Int) : Prop :=
  Below w.heap.size w wr ∧ w.heap.size + 3 ≤ wr.heap.size ∧ wr.heap[w.heap.size]? = some (.cells #[.int .i64 0, .int .i64 0, .int .i64 0] 23 (0, 0)) ∧
    wr.heap[w.heap.size + 1]? = some (.cells (rowS [x, y, z] N) 9 (0, 0)) ∧ wr.heap[w.heap.size + 2]? = some (.cells #[.int .i64 u, .int .i64 v, .int .i64 t] 56 (0, 0))
theorem PW.below {w wr w' : World} {N : Nat} {x y z : List UInt8} {u v t : Int} (h : PW w wr N x y z u v t) (hb : Below wr.heap.size wr w') : PW w w' N x y z u v t := by
  obtain ⟨h1, h2, h3, h4, h5⟩ := h
  have hs := hb.size
  exact ⟨h1.trans (hb.mono (by omega)), by omega, (hb.block _ (by omega)).trans h3, (hb.block _ (by omega)).trans h4, (hb.block _ (by omega)).trans h5⟩
theorem heap_set {w : World} {k o : Nat} {a : Array Value} {T : TypeId} (h : w.heap[k]? = some (.cells a T (0, 0))) (v : Value) : (w.setCell ⟨k, o, none⟩ v).heap[k]? = some (.cells (a.setIfInBounds o v) T (0, 0)) := by
  simp [World.setCell, Array.getElem?_modify, h]
theorem PW.set {w wr : World} {N : Nat} {x y z : List UInt8} {u v t : Int} (h : PW w wr N x y z u v t) (n : Int) :
    PW w (wr.setCell ⟨w.heap.size + 2, 0, none⟩ (.int .i64 n)) N x y z n v t ∧ PW w (wr.setCell ⟨w.heap.size + 2, 1, none⟩ (.int .i64 n)) N x y z u n t ∧ PW w (wr.setCell ⟨w.heap.size + 2, 2, none⟩ (.int .i64 n)) N x y z u v n := by
  obtain ⟨h1, h2, h3, h4, h5⟩ := h
  have g : ∀ o k, k < w.heap.size + 2 → (wr.setCell ⟨w.heap.size + 2, o, none⟩ (.int .i64 n)).heap[k]? = wr.heap[k]? := fun o k hk => Below.heap_setCell _ _ _ _ (by simp; omega)
  have z : ∀ o, (wr.setCell ⟨w.heap.size + 2, o, none⟩ (.int .i64 n)).heap.size = wr.heap.size := fun o => by simp [World.setCell]
  refine ⟨⟨h1.setCell (by simp) _, by rw [z]; exact h2, ?_, ?_, ?_⟩, ⟨h1.setCell (by simp) _, by rw [z]; exact h2, ?_, ?_, ?_⟩, ⟨h1.setCell (by simp) _, by rw [z]; exact h2, ?_, ?_, ?_⟩⟩
  all_goals first
    | (rw [g _ _ (by omega)]; assumption)
    | (rw [heap_set h5]; rfl)
theorem cell_of {w : World} {k o : Nat} {a : Array Value} {T : TypeId} (h : w.heap[k]? = some (.cells a T (0, 0))) : w.cell? ⟨k, o, none⟩ = a[o]? ∧ w.frozen? ⟨k, o, none⟩ = false := by
  constructor
  · exact cell_of_row w k o a T (0, 0) h
  · simp [World.frozen?, h]
/-- What a walk wants of such a world. -/
theorem PW.facts {w wr : World} {N : Nat} {x y z : List UInt8} {u v t : Int} (h : PW w wr N x y z u v t) :
    (wr.cell? ⟨w.heap.size, 0, none⟩ = some (.int .i64 0) ∧ wr.cell? ⟨w.heap.size, 1, none⟩ = some (.int .i64 0) ∧ wr.cell? ⟨w.heap.size, 2, none⟩ = some (.int .i64 0)) ∧
    (wr.cell? ⟨w.heap.size + 1, 0, none⟩ = some (.string (mkB x)) ∧ wr.cell? ⟨w.heap.size + 1, 1, none⟩ = some (.string (mkB y)) ∧ wr.cell? ⟨w.heap.size + 1, 2, none⟩ = some (.string (mkB z))) ∧
    (wr.cell? ⟨w.heap.size + 1 + 1, 0, none⟩ = some (.int .i64 u) ∧ wr.cell? ⟨w.heap.size + 1 + 1, 1, none⟩ = some (.int .i64 v) ∧ wr.cell? ⟨w.heap.size + 1 + 1, 2, none⟩ = some (.int .i64 t)) ∧
    (∀ o, wr.frozen? ⟨w.heap.size, o, none⟩ = false) ∧ (∀ o, wr.frozen? ⟨w.heap.size + 1 + 1, o, none⟩ = false) ∧
    (w.heap.size < wr.heap.size ∧ w.heap.size + 1 < wr.heap.size ∧ w.heap.size + 1 + 1 < wr.heap.size) := by
  obtain ⟨h1, h2, h3, h4, h5⟩ := h
  refine ⟨⟨?_, ?_, ?_⟩, ⟨?_, ?_, ?_⟩, ⟨?_, ?_, ?_⟩, fun o => (cell_of h3).2, fun o => (cell_of h5).2, by omega, by omega, by omega⟩
  · rw [(cell_of h3).1]; rfl
  · rw [(cell_of h3).1]; rfl
  · rw [(cell_of h3).1]; rfl
  · rw [(cell_of h4).1]; simp [Lib.cellsOf]
  · rw [(cell_of h4).1]; simp [Lib.cellsOf]
  · rw [(cell_of h4).1]; simp [Lib.cellsOf]
  · rw [(cell_of h5).1]; rfl
  · rw [(cell_of h5).1]; rfl
  · rw [(cell_of h5).1]; rfl
end Go.Proofs.YtchffamnamhcdaaDoor
