/- Slices of integers as lists; rows of integers of the call's own, append of one. -/
import Derived.Test.YtfcekfdoafpmoaaProg
import Derived.Test.YtfcekfdoafpmoaaHeap
import Derived.WalkKit
import Derived.WalkLawsBesides
import Derived.Lib.Hide
import Derived.KernelRfl
namespace Go.Proofs.Ytfcekfdoafpmoaa
set_option linter.unusedVariables false
open Go.RowKit

def iv (xs : List Int) : List Value := xs.map (Value.int .i64)
theorem iv_length (xs : List Int) : (iv xs).length = xs.length := by simp [iv]
theorem iv_get {xs : List Int} {j : Nat} {u : Value} (h : (iv xs)[j]? = some u) : j < xs.length ∧ u = .int .i64 (xs.getD j 0) := by
  simp only [iv, List.getElem?_map, Option.map_eq_some_iff] at h
  obtain ⟨x, hx, rfl⟩ := h
  obtain ⟨hj, hx⟩ := List.getElem?_eq_some_iff.1 hx
  exact ⟨hj, by simp [List.getD_eq_getElem?_getD, List.getElem?_eq_getElem hj, hx]⟩
theorem iv_at {xs : List Int} {j : Nat} (h : j < xs.length) : (iv xs)[j]? = some (.int .i64 (xs.getD j 0)) := by
  simp [iv, List.getD_eq_getElem?_getD, List.getElem?_eq_getElem h]
/-- The slice at A reads as the integers xs. -/
def IRd (w : World) (A : Option Addr) (xs : List Int) : Prop :=
  xs ≠ [] → ∃ b o, A = some ⟨b, o, none⟩ ∧ b < w.heap.size ∧ ∀ i, i < xs.length → w.cell? ⟨b, o + i, none⟩ = some (.int .i64 (xs.getD i 0))
theorem IRd.nil (w : World) (A : Option Addr) : IRd w A [] := fun h => absurd rfl h
theorem IRd.at_ {w : World} {A : Option Addr} {xs : List Int} (h : IRd w A xs) {i : Nat} (hi : i < xs.length) :
    ∃ b o, A = some ⟨b, o, none⟩ ∧ b < w.heap.size ∧ w.cell? ⟨b, o + i, none⟩ = some (.int .i64 (xs.getD i 0)) := by
  obtain ⟨b, o, hA, hb, hc⟩ := h (by rintro rfl; simp at hi)
  exact ⟨b, o, hA, hb, hc i hi⟩
theorem IRd.below {w w' : World} {A : Option Addr} {xs : List Int} (h : IRd w A xs) (hb : Below w.heap.size w w') : IRd w' A xs := fun hx => by
  obtain ⟨b, o, hA, hlt, hc⟩ := h hx
  exact ⟨b, o, hA, Nat.lt_of_lt_of_le hlt hb.size, fun i hi => (hb.cell (p := ⟨b, o + i, none⟩) hlt).trans (hc i hi)⟩
abbrev OwnI (w : World) (base : Nat) (v : Value) (xs : List Int) : Prop := w.ownsRow base 3 1 v xs.length (iv xs)
theorem OwnI.form {w : World} {base : Nat} {v : Value} {xs : List Int} (h : OwnI w base v xs) :
    ∃ A c, v = .slice A xs.length c ∧ xs.length ≤ c ∧ IRd w A xs := by
  rcases h.2 with ⟨rfl, hn⟩ | ⟨g, cap, cur, rfl, hb, hg, hnc, hcm, _, _⟩
  · exact ⟨none, 0, by rw [hn], by omega, fun hx => absurd (List.eq_nil_of_length_eq_zero hn) hx⟩
  · have hlt : g < w.heap.size := (Array.getElem?_eq_some_iff.1 hg).1
    refine ⟨_, cap, rfl, hnc, fun _ => ⟨g, 0, rfl, hlt, fun i hi => ?_⟩⟩
    have := h.cellAt i (by rw [Nat.mul_one]; exact hi)
    rw [Nat.zero_add, this, iv_at hi]
theorem OwnI.below {w w' : World} {base : Nat} {v : Value} {xs : List Int} (h : OwnI w base v xs) (hb : Below w.heap.size w w') : OwnI w' base v xs := by
  refine ⟨h.1, ?_⟩
  rcases h.2 with hn | ⟨g, cap, cur, rfl, hbg, hg, rest⟩
  · exact .inl hn
  · exact .inr ⟨g, cap, cur, rfl, hbg, by rw [hb.block g (Array.getElem?_eq_some_iff.1 hg).1]; exact hg, rest⟩
theorem OwnI.nil (w : World) (base : Nat) : OwnI w base (.slice none 0 0) [] := World.ownsRow_nil w base 3 1

theorem int_info : (Try.prog.info? 3).map (fun i => (i.zero, i.size, i.bytes)) = some (some (.int .i64 0), 1, 8) := by kernel_rfl
theorem app_int {w : World} {ops : Array Oper} {rest : List Oper} {o : Oper} {a : Act} {Q : Exit → Act → World → Prop} (hgd : Region.wanted o (yielded ops a.tmps) = true) (s y : Operand)
    (ho : o.op = .call { callee := .builtin .append, args := #[s, y], argTypes := #[44, 44] })
    (base : Nat) (V : Value) (xs : List Int) (g : Nat) (x : Int) (hv : a.eval s = V) (hx : a.eval y = .slice (some ⟨g, 0, none⟩) 1 1)
    (hd : OwnI w base V xs) (hs : w.cell? ⟨g, 0, none⟩ = some (.int .i64 x)) (hlen : Hid (xs.length ≤ 1000000)) (hbase : base ≤ w.heap.size)
    (h : ∀ V' w', OwnI w' base V' (xs ++ [x]) → Below base w w' → wpList Try.prog ops Q rest (a.put o.dst V') w') :
    wpList Try.prog ops Q (o :: rest) a w := by
  obtain ⟨i0, hi, hz0, hz1, hz2⟩ := info_parts int_info
  have hl := hlen.out
  refine wpList_app w hgd s y 44 44 ho base 3 i0 _ 1 8 Try.underlying44 hi hz0 hz1 hz2 rfl V xs.length (iv xs) _ 1 [.int .i64 x] hv hx (.inl hd)
    (Src.ofSlice w Try.underlying44 _ _ 1 _ rfl (fun j u hj => ?_) (fun u hu => ?_)) (by simp only [maxLen]; omega) (fits_half (by omega)) hbase (fun V' w' h1 h2 h3 h4 => h V' w' ?_ h2)
  · obtain rfl : j = 0 := by
      rcases j with _ | j
      · rfl
      · simp at hj
    rw [add_at]
    simp only [List.getElem?_cons_zero, Option.some.injEq] at hj
    subst hj
    exact hs
  · simp only [List.mem_singleton] at hu
    subst hu
    rfl
  · unfold OwnI
    simpa [iv] using h1
end Go.Proofs.Ytfcekfdoafpmoaa
