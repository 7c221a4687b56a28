/- The numbers of this translation, and append onto a slice of bytes in its terms. -/
import Derived.Test.YtchffamnamhcdaaDoorProg
import Derived.Test.YtchffamnamhcdaaDoorHeap
import Derived.WalkKit
import Derived.WalkLawsBesides
import Derived.Lib.Hide
import Derived.KernelRfl
namespace Go.Proofs.YtchffamnamhcdaaDoor
open Go.RowKit

theorem u8_info : (Tryd.prog.info? 5).map (fun i => (i.zero, i.size, i.bytes)) = some (some (.int .u8 0), 1, 1) := by kernel_rfl

abbrev OwnB (w : World) (base : Nat) (v : Value) (xs : List Int) : Prop := Own 5 w base v xs
/-- A slice of bytes onto which may be appended: one of the call's own, or one without room. -/
def DstB (w : World) (base : Nat) (v : Value) (xs : List Int) : Prop := OwnB w base v xs ∨ ∃ A, v = .slice A xs.length xs.length ∧ Rd w A xs
theorem DstB.below {w w' : World} {base : Nat} {v : Value} {xs : List Int} (h : DstB w base v xs) (hb : Below w.heap.size w w') : DstB w' base v xs := by
  rcases h with h | ⟨A, hv, h⟩
  · exact .inl (h.below hb)
  · exact .inr ⟨A, hv, h.below hb⟩

/-- What a call gives that makes a new row of bytes. -/
def Gives (w : World) (xs : List Int) (e : Ending) (w' : World) : Prop := ∃ V, e = .returned V ∧ OwnB w' w.heap.size V xs ∧ Below w.heap.size w w'

theorem app_bytes {w : World} {ops : Array Oper} {rest : List Oper} {o : Oper} {a : Act} {Q : Exit → Act → World → Prop} (hgd : Region.wanted o (yielded ops a.tmps) = true) (s y : Operand)
    (ho : o.op = .call { callee := .builtin .append, args := #[s, y], argTypes := #[41, 41] })
    (base : Nat) (V : Value) (xs : List Int) (A : Option Addr) (ys : List Int) (c : Nat) (hv : a.eval s = V) (hx : a.eval y = .slice A ys.length c)
    (hd : DstB w base V xs) (hne : OwnB w base V xs ∨ 0 < ys.length) (hs : Rd w A ys) (hlen : xs.length + ys.length ≤ 225179981368000) (hbase : base ≤ w.heap.size)
    (h : ∀ V' w', OwnB w' base V' (xs ++ ys) → Below base w w' → (OwnB w base V xs → w.grownBy w' V.ownBlock) → (V'.ownBlock = V.ownBlock ∨ V'.ownBlock = some w.heap.size) → wpList Tryd.prog ops Q rest (a.put o.dst V') w') :
    wpList Tryd.prog ops Q (o :: rest) a w := by
  obtain ⟨i0, hi, hz0, hz1, hz2⟩ := info_parts u8_info
  refine wpList_app w hgd s y 41 41 ho base 5 i0 _ 1 1 Tryd.underlying41 hi hz0 hz1 hz2 rfl V xs.length (bv xs) _ ys.length (bv ys) hv hx ?_ (Src.bytes Tryd.underlying41 c hs)
    (by simp only [maxLen]; omega) (fits_bytes hlen) hbase (fun V' w' h1 h2 h3 h4 => h V' w' ?_ h2 h3 h4)
  · rcases hd with hd | ⟨A', rfl, hd⟩
    · exact .inl hd
    · rcases hne with hne | hne
      · exact .inl hne
      · exact .inr ⟨FullRow.bytes hd, hne⟩
  · unfold OwnB Own
    rw [bv_append, List.length_append]
    exact h1

theorem one_new (w : World) (x : Int) : Rd (w.alloc (.cells #[.int .u8 x] 5)) (some ⟨w.heap.size, 0, none⟩) [x] := fun _ => by
  refine ⟨w.heap.size, 0, rfl, by simp, fun i hi => ?_⟩
  obtain rfl : i = 0 := by simpa using hi
  simp
theorem rd_new (w : World) (xs : List Int) (U : TypeId) : Rd (w.alloc (.cells (bv xs).toArray U)) (some ⟨w.heap.size, 0, none⟩) xs := fun _ => by
  refine ⟨w.heap.size, 0, rfl, by simp, fun i hi => ?_⟩
  have h := cell_of_row (w.alloc (.cells (bv xs).toArray U)) w.heap.size i (bv xs).toArray U (0, 0) (heap_alloc_new w _)
  rw [Nat.zero_add, h]
  simp [bv, List.getElem?_eq_getElem hi, List.getD_eq_getElem?_getD]
theorem below_new (w : World) (o : Obj) : Below w.heap.size w (w.alloc o) := (Below.refl _ _).alloc (Nat.le_refl _) o
end Go.Proofs.YtchffamnamhcdaaDoor
