/- Slices of amounts as lists of pairs; rows of amounts of the call's own, append. -/
import Derived.Test.YtfcekfdoafpmoaaAval
import Derived.Test.YtfcekfdoafpmoaaHeap
namespace Go.Proofs.Ytfcekfdoafpmoaa
open Go.RowKit
set_option linter.unusedVariables false

/-- The slice at A reads as the amounts l, two cells each. -/
def ARd (w : World) (A : Option Addr) (l : List P2) : Prop :=
  l ≠ [] → ∃ b o, A = some ⟨b, o, none⟩ ∧ b < w.heap.size ∧ ∀ i, i < l.length → w.cell? ⟨b, o + i * 2, none⟩ = some (.int .i64 (l.getD i default).1) ∧ w.cell? ⟨b, o + i * 2 + 1, none⟩ = some (.int .i64 (l.getD i default).2)
theorem ARd.nil (w : World) (A : Option Addr) : ARd w A [] := fun h => absurd rfl h
theorem ARd.below {w w' : World} {A : Option Addr} {l : List P2} (h : ARd w A l) (hb : Below w.heap.size w w') : ARd w' A l := fun hx => by
  obtain ⟨b, o, hA, hlt, hc⟩ := h hx
  refine ⟨b, o, hA, Nat.lt_of_lt_of_le hlt hb.size, fun i hi => ?_⟩
  obtain ⟨h1, h2⟩ := hc i hi
  exact ⟨(hb.cell (p := ⟨b, o + i * 2, none⟩) hlt).trans h1, (hb.cell (p := ⟨b, o + i * 2 + 1, none⟩) hlt).trans h2⟩
theorem ARd.at_ {w : World} {A : Option Addr} {l : List P2} (h : ARd w A l) {i : Nat} (hi : i < l.length) :
    ∃ b o x y, A = some ⟨b, o, none⟩ ∧ b < w.heap.size ∧ Hid (l.getD i default = (x, y)) ∧ w.cell? ⟨b, o + i * 2, none⟩ = some (.int .i64 x) ∧ w.cell? ⟨b, o + i * 2 + 1, none⟩ = some (.int .i64 y) := by
  obtain ⟨b, o, hA, hb, hc⟩ := h (by rintro rfl; simp at hi)
  obtain ⟨h1, h2⟩ := hc i hi
  exact ⟨b, o, _, _, hA, hb, rfl, h1, h2⟩
theorem getD_take2 {l : List P2} {k i : Nat} (h : i < k) : (l.take k).getD i default = l.getD i default := by simp [List.getD_eq_getElem?_getD, h]
theorem getD_drop2 (l : List P2) (k i : Nat) : (l.drop k).getD i default = l.getD (k + i) default := by simp [List.getD_eq_getElem?_getD]
theorem ARd.take {w : World} {A : Option Addr} {l : List P2} (h : ARd w A l) (k : Nat) : ARd w A (l.take k) := fun hx => by
  obtain ⟨b, o, rfl, hlt, hc⟩ := h (by rintro rfl; simp at hx)
  refine ⟨b, o, rfl, hlt, fun i hi => ?_⟩
  rw [List.length_take] at hi
  rw [getD_take2 (by omega)]
  exact hc i (by omega)
theorem ARd.drop {w : World} {A : Option Addr} {l : List P2} (h : ARd w A l) (k : Nat) : ARd w (A.map fun a => a.add (k * 2)) (l.drop k) := fun hx => by
  have hk : k < l.length := by
    rcases Nat.lt_or_ge k l.length with hk | hk
    · exact hk
    · exact absurd (List.drop_eq_nil_of_le hk) hx
  obtain ⟨b, o, rfl, hlt, hc⟩ := h (by rintro rfl; simp at hk)
  refine ⟨b, o + k * 2, by simp [add_at], hlt, fun i hi => ?_⟩
  rw [List.length_drop] at hi
  obtain ⟨h1, h2⟩ := hc (k + i) (by omega)
  rw [getD_drop2, show o + k * 2 + i * 2 = o + (k + i) * 2 by omega]
  exact ⟨h1, h2⟩

/-! ### Cells -/
def av : List P2 → List Value
  | [] => []
  | p :: l => .int .i64 p.1 :: .int .i64 p.2 :: av l
theorem av_length : ∀ l : List P2, (av l).length = l.length * 2
  | [] => rfl
  | p :: l => by simp [av, av_length l]; omega
theorem av_append : ∀ l r : List P2, av (l ++ r) = av l ++ av r
  | [], r => rfl
  | p :: l, r => by simp [av, av_append l r]
theorem av_at : ∀ (l : List P2) (i : Nat), i < l.length → (av l)[i * 2]? = some (.int .i64 (l.getD i default).1) ∧ (av l)[i * 2 + 1]? = some (.int .i64 (l.getD i default).2)
  | [], i, h => by simp at h
  | p :: l, 0, _ => by simp [av]
  | p :: l, i + 1, h => by
    have := av_at l i (by simpa using h)
    rw [show (i + 1) * 2 = i * 2 + 1 + 1 by omega]
    simpa [av] using this
theorem av_one (l : List P2) : ∀ u ∈ av l, u.oneCell' = true := by
  induction l with
  | nil => intro u hu; cases hu
  | cons p l ih =>
    intro u hu
    simp only [av, List.mem_cons] at hu
    rcases hu with rfl | rfl | hu
    · rfl
    · rfl
    · exact ih u hu
/-- What lies at cell j of the row. -/
theorem ARd.cell {w : World} {b o : Nat} {l : List P2} (hc : ∀ i, i < l.length → w.cell? ⟨b, o + i * 2, none⟩ = some (.int .i64 (l.getD i default).1) ∧ w.cell? ⟨b, o + i * 2 + 1, none⟩ = some (.int .i64 (l.getD i default).2))
    {j : Nat} {u : Value} (hu : (av l)[j]? = some u) : w.cell? ⟨b, o + j, none⟩ = some u := by
  have hj : j < l.length * 2 := by rw [← av_length]; exact (List.getElem?_eq_some_iff.1 hu).1
  obtain ⟨h1, h2⟩ := hc (j / 2) (by omega)
  obtain ⟨g1, g2⟩ := av_at l (j / 2) (by omega)
  have hd : j % 2 = 0 ∨ j % 2 = 1 := by omega
  rcases hd with e | e
  · rw [show o + j = o + j / 2 * 2 by omega, h1, ← g1, show j / 2 * 2 = j by omega, hu]
  · rw [show o + j = o + j / 2 * 2 + 1 by omega, h2, ← g2, show j / 2 * 2 + 1 = j by omega, hu]

abbrev OwnA (w : World) (base : Nat) (v : Value) (l : List P2) : Prop := w.ownsRow base 26 2 v l.length (av l)
theorem OwnA.form {w : World} {base : Nat} {v : Value} {l : List P2} (h : OwnA w base v l) :
    ∃ A c, v = .slice A l.length c ∧ l.length ≤ c ∧ ARd w A l ∧ (0 < l.length → ∃ g, A = some ⟨g, 0, none⟩ ∧ base ≤ g ∧ g < w.heap.size) := by
  rcases h.2 with ⟨rfl, hn⟩ | ⟨g, cap, cur, rfl, hb, hg, hnc, hcm, _, _⟩
  · exact ⟨none, 0, by rw [hn], by omega, fun hx => absurd (List.eq_nil_of_length_eq_zero hn) hx, fun h0 => by omega⟩
  · have hlt : g < w.heap.size := (Array.getElem?_eq_some_iff.1 hg).1
    refine ⟨_, cap, rfl, hnc, fun _ => ⟨g, 0, rfl, hlt, fun i hi => ?_⟩, fun _ => ⟨g, rfl, hb, hlt⟩⟩
    obtain ⟨g1, g2⟩ := av_at l i hi
    have h1 := h.cellAt (i * 2) (by omega)
    have h2 := h.cellAt (i * 2 + 1) (by omega)
    rw [Nat.zero_add, h1, h2, g1, g2]
    exact ⟨rfl, rfl⟩
theorem OwnA.below {w w' : World} {base : Nat} {v : Value} {l : List P2} (h : OwnA w base v l) (hb : Below w.heap.size w w') : OwnA w' base v l := by
  refine ⟨h.1, ?_⟩
  rcases h.2 with hn | ⟨g, cap, cur, rfl, hbg, hg, rest⟩
  · exact .inl hn
  · exact .inr ⟨g, cap, cur, rfl, hbg, by rw [hb.block g (Array.getElem?_eq_some_iff.1 hg).1]; exact hg, rest⟩
theorem OwnA.empty (w : World) (base : Nat) (h : base ≤ w.heap.size) : OwnA (w.alloc (.cells #[] 26)) base (.slice (some ⟨w.heap.size, 0, none⟩) 0 0) [] :=
  World.ownsRow_made w #[] 0 h (Nat.zero_le _) rfl

theorem Src.ams {w : World} {tx e' : TypeId} (hk : Try.prog.underlying tx = some (.slice e')) {A : Option Addr} {ys : List P2} (c : Nat) (h : ARd w A ys) : Src Try.prog 2 tx (.slice A ys.length c) ys.length (av ys) w := by
  cases A with
  | none =>
    have hx : ys = [] := by
      rcases ys with _ | ⟨x, r⟩
      · rfl
      · obtain ⟨_, _, h, _⟩ := h (by simp)
        cases h
    subst hx
    exact Src.ofNil w hk c
  | some a =>
    rcases ys with _ | ⟨x, r⟩
    · exact Src.ofSlice w hk a 0 c [] rfl (fun j u h => by simp at h) (fun u h => by cases h)
    · obtain ⟨b, o, hA, _, hc⟩ := h (by simp)
      injection hA with hA
      subst hA
      refine Src.ofSlice w hk _ _ c _ (by rw [av_length]) (fun j u hu => ?_) (av_one _)
      rw [add_at]
      exact ARd.cell hc hu
theorem am_info : (Try.prog.info? 26).map (fun i => (i.zero, i.size, i.bytes)) = some (some (.agg #[.int .i64 0, .int .i64 0]), 2, 16) := by kernel_rfl
end Go.Proofs.Ytfcekfdoafpmoaa
