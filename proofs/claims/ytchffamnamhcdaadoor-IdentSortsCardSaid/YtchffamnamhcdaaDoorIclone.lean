/- slices.Clone at processes; rows of processes of the call's own, in the words of the library's sort. -/
import Derived.Test.YtchffamnamhcdaaDoorIhas
import Derived.Test.YtchffamnamhcdaaDoorHeap
import Derived.Test.YtchffamnamhcdaaDoorBase
import Derived.Shelf.SlSortCmp.WholeK
namespace Go.Proofs.YtchffamnamhcdaaDoor
set_option linter.unusedVariables false
open Go.RowKit

def enc3 (p : P3) : List Value := [.int .i64 p.1, .int .i64 p.2.1, .int .i64 p.2.2]
abbrev Row3 (w : World) (g : Nat) (d : Array P3) : Prop := Go.Sort.HoldsK enc3 3 w g 0 d
/-- A slice of processes that a call may write: nothing in it, or a row of its own. -/
def RowP (base : Nat) (w : World) (V : Value) (ps : List P3) : Prop :=
  (ps = [] ∧ ∃ A c, V = .slice A 0 c) ∨ ∃ g cap, V = .slice (some ⟨g, 0, none⟩) ps.length cap ∧ 0 < ps.length ∧ ps.length ≤ cap ∧ base ≤ g ∧ g < w.heap.size ∧ Row3 w g ps.toArray
theorem flat_get {ps : List P3} {j : Nat} (hj : j < ps.length * 3) : (Go.Sort.flatK enc3 3 ps.toArray).toList[j]? = some ((enc3 (ps.getD (j / 3) default))[j % 3]!) := by
  rw [Array.getElem?_toList, Array.getElem?_eq_getElem (by simpa using hj), ← getElem!_pos _ _ (by simpa using hj), Go.Sort.get_flatK _ _ _ _ (by simpa using hj)]
  have : ps.toArray[j / 3]! = ps.getD (j / 3) default := by
    rw [getElem!_pos _ _ (by simp; omega), List.getD_eq_getElem?_getD, List.getElem?_eq_getElem (by omega)]
    simp
  rw [this]
theorem prd_flat {w : World} {A : Option Addr} {ps : List P3} (h : PRd w A ps) {j : Nat} (hj : j < ps.length * 3) : ∃ b o, A = some ⟨b, o, none⟩ ∧ w.cell? ⟨b, o + j, none⟩ = some ((enc3 (ps.getD (j / 3) default))[j % 3]!) := by
  obtain ⟨b, o, hA, hb, hc⟩ := h (by rintro rfl; simp at hj)
  refine ⟨b, o, hA, ?_⟩
  obtain ⟨h1, h2, h3⟩ := hc (j / 3) (by omega)
  have hd : j % 3 = 0 ∨ j % 3 = 1 ∨ j % 3 = 2 := by omega
  rcases hd with e | e | e
  · rw [e, show o + j = o + j / 3 * 3 by omega, h1]; rfl
  · rw [e, show o + j = o + j / 3 * 3 + 1 by omega, h2]; rfl
  · rw [e, show o + j = o + j / 3 * 3 + 2 by omega, h3]; rfl
theorem enc3_at (p : P3) : ∀ i, i < 3 → ((enc3 p)[i]!).oneCell' = true := by
  intro i hi
  have : i = 0 ∨ i = 1 ∨ i = 2 := by omega
  rcases this with rfl | rfl | rfl <;> rfl

theorem proc_info : (Tryd.prog.info? 23).map (fun i => (i.zero, i.size, i.bytes)) = some (some (.agg #[.int .i64 0, .int .i64 0, .int .i64 0]), 3, 24) := by kernel_rfl
theorem app_procs {w : World} {ops : Array Oper} {rest : List Oper} {o : Oper} {a : Act} {Q : Exit → Act → World → Prop} (hgd : Region.wanted o (yielded ops a.tmps) = true) (s y : Operand)
    (ho : o.op = .call { callee := .builtin .append, args := #[s, y], argTypes := #[38, 38] })
    (base : Nat) (V : Value) (A : Addr) (ps : List P3) (n c : Nat) (hn : Hid (ps.length = n)) (hv : a.eval s = V) (hx : a.eval y = .slice (some A) n c)
    (hd : w.ownsRow base 23 3 V 0 []) (hs : PRd w (some A) ps) (hlen : Hid (n ≤ 100)) (hbase : base ≤ w.heap.size)
    (h : ∀ V' w', w'.ownsRow base 23 3 V' n (Go.Sort.flatK enc3 3 ps.toArray).toList → Below base w w' → wpList Tryd.prog ops Q rest (a.put o.dst V') w') :
    wpList Tryd.prog ops Q (o :: rest) a w := by
  have hn' := hn.out
  subst hn'
  obtain ⟨i0, hi, hz0, hz1, hz2⟩ := info_parts proc_info
  refine wpList_app w hgd s y 38 38 ho base 23 i0 _ 3 24 Tryd.underlying38 hi hz0 hz1 hz2 rfl V 0 [] _ ps.length (Go.Sort.flatK enc3 3 ps.toArray).toList hv hx (.inl hd)
    (Src.ofSlice w Tryd.underlying38 _ _ c _ (by simp) (fun j u hj => ?_) (fun u hu => ?_)) (by have := hlen.out; simp only [maxLen]; omega) (fits_half (by have := hlen.out; omega)) hbase (fun V' w' h1 h2 h3 h4 => h V' w' (by simpa using h1) h2)
  · have hj3 : j < ps.length * 3 := by
      have := (List.getElem?_eq_some_iff.1 hj).1
      simpa using this
    obtain ⟨b, off, hA, hc⟩ := prd_flat hs hj3
    obtain rfl : A = ⟨b, off, none⟩ := Option.some.inj hA
    rw [add_at, hc, ← flat_get hj3, hj]
  · obtain ⟨j, hj, rfl⟩ := List.getElem_of_mem hu
    have hj3 : j < ps.length * 3 := by simpa using hj
    have := flat_get hj3
    rw [List.getElem?_eq_getElem hj] at this
    rw [Option.some.inj this]
    exact enc3_at _ _ (by omega)
theorem row_of_own {w : World} {base g cap n : Nat} {ps : List P3} (hn : ps.length = n) (h : w.ownsRow base 23 3 (.slice (some ⟨g, 0, none⟩) n cap) n (Go.Sort.flatK enc3 3 ps.toArray).toList) : Row3 w g ps.toArray := by
  intro j hj
  have hj3 : j < n * 3 := by rw [← hn]; simpa using hj
  rw [Nat.zero_add]
  refine ⟨?_, h.frozenAt j⟩
  rw [h.cellAt j hj3, Array.getElem?_toList, Array.getElem?_eq_getElem hj]
  exact congrArg some (getElem!_pos _ j hj).symm

def Clones (ps : List P3) (w : World) (e : Ending) (w' : World) : Prop := ∃ V, e = .returned V ∧ RowP w.heap.size w' V ps ∧ Below w.heap.size w w'
set_option maxHeartbeats 1000000 in
set_option maxRecDepth 8000 in
theorem clone_procs (A : Option Addr) (n c : Nat) (ps : List P3) (w : World) (h : PRd w A ps) (hn : Hid (ps.length = n)) (hm : Hid (n ≤ 100)) :
    Calls Tryd.prog 50 #[.slice A n c] w (Clones ps w) := by
  have HR := Lib.hid h
  clear h
  cases A with
  | none =>
    have h0 : Hid (ps = []) := by
      rcases List.eq_nil_or_concat ps with h0 | ⟨ys, y, h0⟩
      · exact h0
      · obtain ⟨b, o, hb, _⟩ := HR.out (by rw [h0]; simp)
        cases hb
    have hn0 : n = 0 := by rw [← hn.out, h0.out]; rfl
    subst hn0
    have hnil : ∀ w : World, (binOp .eql 38 (.slice none 0 c) (.slice none 0 0)).run Tryd.prog w = .ok (.bool true) w := fun _ => by kernel_rfl
    go_enter Tryd.func50, Tryd.ntmps50
    go_wp2
    go_ret
    exact ⟨_, rfl, .inl ⟨h0.out, none, 0, rfl⟩, Below.refl _ _⟩
  | some a =>
    have hnil : ∀ w : World, (binOp .eql 38 (.slice (some a) n c) (.slice none 0 0)).run Tryd.prog w = .ok (.bool false) w := fun _ => by kernel_rfl
    go_enter Tryd.func50, Tryd.ntmps50
    go_wp2_with (at_builtin; (refine app_procs rfl (.tmp 5) (.tmp 6) rfl w.heap.size _ a ps n c hn rfl rfl (World.ownsRow_made w #[] 0 (Nat.le_refl _) (Nat.zero_le _) rfl) (HR.out.below (newB w _)) hm (newB w (.cells #[] 23)).size ?_); intro V1 W1 ho1 hb1; have hB1 := (newB w (.cells #[] 23)).trans hb1)
    go_ret
    refine ⟨V1, rfl, ?_, hB1⟩
    have hn' := hn.out
    rcases Nat.eq_zero_or_pos n with h0 | hp
    · subst h0
      refine .inl ⟨List.eq_nil_of_length_eq_zero hn', ?_⟩
      rcases ho1.2 with ⟨rfl, _⟩ | ⟨g, cap, cur, rfl, _⟩
      · exact ⟨_, _, rfl⟩
      · exact ⟨_, _, rfl⟩
    · rcases ho1.2 with ⟨rfl, h0⟩ | ⟨g, cap, cur, rfl, hbg, hg, hnc, hcm, _⟩
      · omega
      · exact .inr ⟨g, cap, by rw [hn'], by omega, by omega, hbg, (Array.getElem?_eq_some_iff.1 hg).1, row_of_own hn' ho1⟩
end Go.Proofs.YtchffamnamhcdaaDoor
