/- Slices of tokens as lists; rows of tokens of the call's own, append; == of two tokens. -/
import Derived.Test.YtohjllnfnkajjaaGreatLval
import Derived.Test.YtohjllnfnkajjaaGreatHeap
namespace Go.Proofs.YtohjllnfnkajjaaGreat
open Go.RowKit
set_option linter.unusedVariables false

abbrev tk (k : Int) (s : ByteArray) (n a : Int) : Value := .agg #[.int .i64 k, .string s, .int .i64 n, .int .i64 a]
/-- A token as a value. -/
abbrev tv (r : T4) : Value := tk r.1 r.2.1 r.2.2.1 r.2.2.2
/-- The four cells at o of block b hold the token r. -/
def TZ (w : World) (b o : Nat) (r : T4) : Prop :=
  w.cell? ⟨b, o, none⟩ = some (.int .i64 r.1) ∧ w.cell? ⟨b, o + 1, none⟩ = some (.string r.2.1) ∧ w.cell? ⟨b, o + 2, none⟩ = some (.int .i64 r.2.2.1) ∧ w.cell? ⟨b, o + 3, none⟩ = some (.int .i64 r.2.2.2)
theorem TZ.lt {w : World} {b o : Nat} {r : T4} (h : TZ w b o r) : b < w.heap.size := by have := World.block_lt_of_cell? w _ h.1; exact this
theorem TZ.of {w w' : World} {b o : Nat} {r : T4} (h : TZ w b o r) {B : Nat} (hb : Below B w w') (hB : b < B) : TZ w' b o r :=
  ⟨(hb.cell (p := ⟨b, o, none⟩) hB).trans h.1, (hb.cell (p := ⟨b, o + 1, none⟩) hB).trans h.2.1, (hb.cell (p := ⟨b, o + 2, none⟩) hB).trans h.2.2.1, (hb.cell (p := ⟨b, o + 3, none⟩) hB).trans h.2.2.2⟩
theorem TZ.below {w w' : World} {b o : Nat} {r : T4} (h : TZ w b o r) (hb : Below w.heap.size w w') : TZ w' b o r := h.of hb h.lt

/-- The slice at A reads as the tokens l, four cells each. -/
def TRd (w : World) (A : Option Addr) (l : List T4) : Prop :=
  l ≠ [] → ∃ b o, A = some ⟨b, o, none⟩ ∧ b < w.heap.size ∧ ∀ i, i < l.length → TZ w b (o + i * 4) (l.getD i default)
theorem TRd.nil (w : World) (A : Option Addr) : TRd w A [] := fun h => absurd rfl h
theorem TRd.below {w w' : World} {A : Option Addr} {l : List T4} (h : TRd w A l) (hb : Below w.heap.size w w') : TRd w' A l := fun hx => by
  obtain ⟨b, o, hA, hlt, hc⟩ := h hx
  exact ⟨b, o, hA, Nat.lt_of_lt_of_le hlt hb.size, fun i hi => (hc i hi).of hb hlt⟩
theorem TRd.at_ {w : World} {A : Option Addr} {l : List T4} (h : TRd w A l) {i : Nat} (hi : i < l.length) :
    ∃ b o k s u hm, A = some ⟨b, o, none⟩ ∧ b < w.heap.size ∧ Hid (l.getD i default = (k, s, u, hm)) ∧ w.cell? ⟨b, o + i * 4, none⟩ = some (.int .i64 k) ∧ w.cell? ⟨b, o + i * 4 + 1, none⟩ = some (.string s) ∧ w.cell? ⟨b, o + i * 4 + 2, none⟩ = some (.int .i64 u) ∧ w.cell? ⟨b, o + i * 4 + 3, none⟩ = some (.int .i64 hm) := by
  obtain ⟨b, o, hA, hb, hc⟩ := h (by rintro rfl; simp at hi)
  obtain ⟨h1, h2, h3, h4⟩ := hc i hi
  exact ⟨b, o, _, _, _, _, hA, hb, rfl, h1, h2, h3, h4⟩
theorem getD_takeT {l : List T4} {k i : Nat} (h : i < k) : (l.take k).getD i default = l.getD i default := by simp [List.getD_eq_getElem?_getD, h]
theorem getD_dropT (l : List T4) (k i : Nat) : (l.drop k).getD i default = l.getD (k + i) default := by simp [List.getD_eq_getElem?_getD]
theorem TRd.take {w : World} {A : Option Addr} {l : List T4} (h : TRd w A l) (k : Nat) : TRd w A (l.take k) := fun hx => by
  obtain ⟨b, o, rfl, hlt, hc⟩ := h (by rintro rfl; simp at hx)
  refine ⟨b, o, rfl, hlt, fun i hi => ?_⟩
  rw [List.length_take] at hi
  rw [getD_takeT (by omega)]
  exact hc i (by omega)
theorem TRd.drop {w : World} {A : Option Addr} {l : List T4} (h : TRd w A l) (k : Nat) : TRd w (A.map fun a => a.add (k * 4)) (l.drop k) := fun hx => by
  have hk : k < l.length := by
    rcases Nat.lt_or_ge k l.length with hk | hk
    · exact hk
    · exact absurd (List.drop_eq_nil_of_le hk) hx
  obtain ⟨b, o, rfl, hlt, hc⟩ := h (by rintro rfl; simp at hk)
  refine ⟨b, o + k * 4, by simp [add_at], hlt, fun i hi => ?_⟩
  rw [List.length_drop] at hi
  have h1 := hc (k + i) (by omega)
  rw [getD_dropT, show o + k * 4 + i * 4 = o + (k + i) * 4 by omega]
  exact h1

/-! ### Cells -/
def tvs : List T4 → List Value
  | [] => []
  | p :: l => .int .i64 p.1 :: .string p.2.1 :: .int .i64 p.2.2.1 :: .int .i64 p.2.2.2 :: tvs l
theorem tvs_length : ∀ l : List T4, (tvs l).length = l.length * 4
  | [] => rfl
  | p :: l => by simp [tvs, tvs_length l]; omega
theorem tvs_append : ∀ l r : List T4, tvs (l ++ r) = tvs l ++ tvs r
  | [], r => rfl
  | p :: l, r => by simp [tvs, tvs_append l r]
theorem tvs_at : ∀ (l : List T4) (i : Nat), i < l.length → (tvs l)[i * 4]? = some (.int .i64 (l.getD i default).1) ∧ (tvs l)[i * 4 + 1]? = some (.string (l.getD i default).2.1) ∧ (tvs l)[i * 4 + 2]? = some (.int .i64 (l.getD i default).2.2.1) ∧ (tvs l)[i * 4 + 3]? = some (.int .i64 (l.getD i default).2.2.2)
  | [], i, h => by simp at h
  | p :: l, 0, _ => by simp [tvs]
  | p :: l, i + 1, h => by
    have := tvs_at l i (by simpa using h)
    rw [show (i + 1) * 4 = i * 4 + 1 + 1 + 1 + 1 by omega]
    simpa [tvs] using this
theorem tvs_one (l : List T4) : ∀ u ∈ tvs l, u.oneCell' = true := by
  induction l with
  | nil => intro u hu; cases hu
  | cons p l ih =>
    intro u hu
    simp only [tvs, List.mem_cons] at hu
    rcases hu with rfl | rfl | rfl | rfl | hu
    · rfl
    · rfl
    · rfl
    · rfl
    · exact ih u hu
/-- What lies at cell j of the row. -/
theorem TRd.cell {w : World} {b o : Nat} {l : List T4} (hc : ∀ i, i < l.length → TZ w b (o + i * 4) (l.getD i default)) {j : Nat} {u : Value} (hu : (tvs l)[j]? = some u) : w.cell? ⟨b, o + j, none⟩ = some u := by
  have hj : j < l.length * 4 := by rw [← tvs_length]; exact (List.getElem?_eq_some_iff.1 hu).1
  obtain ⟨h1, h2, h3, h4⟩ := hc (j / 4) (by omega)
  obtain ⟨g1, g2, g3, g4⟩ := tvs_at l (j / 4) (by omega)
  have hd : j % 4 = 0 ∨ j % 4 = 1 ∨ j % 4 = 2 ∨ j % 4 = 3 := by omega
  rcases hd with e | e | e | e
  · rw [show o + j = o + j / 4 * 4 by omega, h1, ← g1, show j / 4 * 4 = j by omega, hu]
  · rw [show o + j = o + j / 4 * 4 + 1 by omega, h2, ← g2, show j / 4 * 4 + 1 = j by omega, hu]
  · rw [show o + j = o + j / 4 * 4 + 2 by omega, h3, ← g3, show j / 4 * 4 + 2 = j by omega, hu]
  · rw [show o + j = o + j / 4 * 4 + 3 by omega, h4, ← g4, show j / 4 * 4 + 3 = j by omega, hu]

theorem Src.toks {w : World} {tx e' : TypeId} (hk : Tryz.prog.underlying tx = some (.slice e')) {A : Option Addr} {ys : List T4} (c : Nat) (h : TRd w A ys) : Src Tryz.prog 4 tx (.slice A ys.length c) ys.length (tvs ys) w := by
  cases A with
  | none =>
    have hx : ys = [] := by
      rcases ys with _ | ⟨x, r⟩
      · rfl
      · obtain ⟨_, _, h, _⟩ := h (by simp)
        cases h
    subst hx
    exact Src.ofNil w hk c
  | some a =>
    rcases ys with _ | ⟨x, r⟩
    · exact Src.ofSlice w hk a 0 c [] rfl (fun j u h => by simp at h) (fun u h => by cases h)
    · obtain ⟨b, o, hA, _, hc⟩ := h (by simp)
      injection hA with hA
      subst hA
      refine Src.ofSlice w hk _ _ c _ (by rw [tvs_length]) (fun j u hu => ?_) (tvs_one _)
      rw [add_at]
      exact TRd.cell hc hu
/-- A slice of tokens that lies in the world. -/
structure InT (w : World) (A : Option Addr) (n c : Nat) (l : List T4) : Prop where
  len : l.length = n
  rd : TRd w A l
  fit : n ≤ c
  big : n ≤ 3518437208880
theorem InT.below {w w' : World} {A : Option Addr} {n c : Nat} {l : List T4} (h : InT w A n c l) (hb : Below w.heap.size w w') : InT w' A n c l := ⟨h.len, h.rd.below hb, h.fit, h.big⟩
end Go.Proofs.YtohjllnfnkajjaaGreat
