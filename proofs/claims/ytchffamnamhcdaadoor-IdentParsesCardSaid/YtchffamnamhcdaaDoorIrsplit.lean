/- The reference's Split: a text cut at its points. -/
import Derived.Test.YtchffamnamhcdaaDoorIrnum
import Derived.Test.YtchffamnamhcdaaDoorBase
namespace Go.Proofs.YtchffamnamhcdaaDoor
set_option linter.unusedVariables false
open Go.RowKit

/-- The pieces that are done, and the one under way. -/
def stp (st : List (List UInt8) × List UInt8) (c : UInt8) : List (List UInt8) × List UInt8 := if c = 46 then (st.1 ++ [st.2], []) else (st.1, st.2 ++ [c])
def spl (l : List UInt8) : List (List UInt8) × List UInt8 := l.foldl stp ([], [])
theorem spl_snoc (l : List UInt8) (c : UInt8) : spl (l ++ [c]) = stp (spl l) c := by simp [spl]
def jn (st : List (List UInt8) × List UInt8) : List UInt8 := (st.1.map (· ++ [46])).flatten ++ st.2
theorem jn_stp (st : List (List UInt8) × List UInt8) (c : UInt8) : jn (stp st c) = jn st ++ [c] := by
  unfold stp jn
  by_cases h : c = 46
  · subst h; simp
  · rw [if_neg h]; simp
theorem jn_fold : ∀ (l : List UInt8) (st : List (List UInt8) × List UInt8), jn (l.foldl stp st) = jn st ++ l
  | [], st => by simp
  | c :: r, st => by rw [List.foldl_cons, jn_fold r, jn_stp]; simp
theorem jn_spl (l : List UInt8) : jn (spl l) = l := by rw [spl, jn_fold]; simp [jn]
theorem spl_free : ∀ (x r : List UInt8) (i : List (List UInt8)) (c : List UInt8), 46 ∉ x → (x ++ r).foldl stp (i, c) = r.foldl stp (i, c ++ x)
  | [], r, i, c, _ => by simp
  | b :: x, r, i, c, h => by
    have h1 : ¬ b = 46 := fun e => h (by simp [e])
    have h2 : 46 ∉ x := fun e => h (by simp [e])
    rw [List.cons_append, List.foldl_cons, stp, if_neg h1, spl_free x r i _ h2]
    simp
theorem spl_fmt {a b c : Int} (h : vpB a b c = true) : spl (fmtP a b c) = ([dec a.toNat, dec b.toNat], dec c.toNat) := by
  have := vpB_true h
  have f1 := dec_free (n := a.toNat) (by omega)
  have f2 := dec_free (n := b.toNat) (by omega)
  have f3 := dec_free (n := c.toNat) (by omega)
  have e3 := spl_free (dec c.toNat) [] [dec a.toNat, dec b.toNat] [] f3
  rw [List.append_nil] at e3
  rw [spl, fmtP, spl_free _ _ _ _ f1, List.foldl_cons, stp, if_pos rfl, spl_free _ _ _ _ f2, List.foldl_cons, stp, if_pos rfl]
  simp only [List.nil_append, List.cons_append]
  rw [e3]
  rfl
theorem spl_len (l : List UInt8) : (spl l).1.length ≤ l.length ∧ (spl l).2.length ≤ l.length := by
  have h := congrArg List.length (jn_spl l)
  have h2 : ∀ ps : List (List UInt8), ps.length ≤ ((ps.map (· ++ [46])).flatten).length := by
    intro ps
    induction ps with
    | nil => simp
    | cons p r ih => simp at *; omega
  have := h2 (spl l).1
  unfold jn at h
  rw [List.length_append] at h
  omega
/-- The cells of the pieces. -/
def strs (st : List (List UInt8) × List UInt8) : List Value := (st.1 ++ [st.2]).map fun x => .string (mkB x)

theorem strs_info : (Tryd.prog.info? 9).map (fun i => (i.zero, i.size, i.bytes)) = some (some (.string ⟨#[]⟩), 1, 16) := by kernel_rfl
theorem app_str {w : World} {ops : Array Oper} {rest : List Oper} {o : Oper} {a : Act} {Q : Exit → Act → World → Prop} (hgd : Region.wanted o (yielded ops a.tmps) = true) (s y : Operand)
    (ho : o.op = .call { callee := .builtin .append, args := #[s, y], argTypes := #[60, 60] })
    (base : Nat) (V : Value) (n : Nat) (xs : List Value) (g : Nat) (x : ByteArray) (hv : a.eval s = V) (hx : a.eval y = .slice (some ⟨g, 0, none⟩) 1 1)
    (hd : w.ownsRow base 9 1 V n xs) (hs : w.cell? ⟨g, 0, none⟩ = some (.string x)) (hlen : n ≤ 1000) (hbase : base ≤ w.heap.size)
    (h : ∀ V' w', w'.ownsRow base 9 1 V' (n + 1) (xs ++ [.string x]) → Below base w w' → wpList Tryd.prog ops Q rest (a.put o.dst V') w') :
    wpList Tryd.prog ops Q (o :: rest) a w := by
  obtain ⟨i0, hi, hz0, hz1, hz2⟩ := info_parts strs_info
  refine wpList_app w hgd s y 60 60 ho base 9 i0 _ 1 16 Tryd.underlying60 hi hz0 hz1 hz2 rfl V n xs _ 1 [.string x] hv hx (.inl hd)
    (Src.ofSlice w Tryd.underlying60 _ _ 1 _ rfl (fun j u hj => ?_) (fun u hu => ?_)) (by simp only [maxLen]; omega) (fits_half (by omega)) hbase (fun V' w' h1 h2 h3 h4 => h V' w' h1 h2)
  · obtain rfl : j = 0 := by
      rcases j with _ | j
      · rfl
      · simp at hj
    rw [add_at]
    simp only [List.getElem?_cons_zero, Option.some.injEq] at hj
    subst hj
    exact hs
  · simp only [List.mem_singleton] at hu
    subst hu
    rfl
end Go.Proofs.YtchffamnamhcdaaDoor
