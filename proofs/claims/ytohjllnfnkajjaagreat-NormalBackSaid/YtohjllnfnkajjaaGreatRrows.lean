/- Expressions in memory: rows of expressions (their own cells), the trees that they stand for; rows of atoms; blocks that are kept. -/
import Derived.Test.YtohjllnfnkajjaaGreatRcat
import Derived.Test.YtohjllnfnkajjaaGreatRd
namespace Go.Proofs.YtohjllnfnkajjaaGreat
open Go.RowKit
set_option linter.unusedVariables false

/-- An expression as a value. -/
abbrev xe (k : Int) (s : ByteArray) (m u : Int) (A : Option Addr) (n c : Nat) : Value := .agg #[.int .i64 k, .string s, .int .i64 m, .int .i64 u, .slice A n c]
structure XV where
  k : Int
  s : ByteArray
  m : Int
  u : Int
  A : Option Addr
  n : Nat
  c : Nat
abbrev XV.zero : XV := ⟨0, ⟨#[]⟩, 0, 0, none, 0, 0⟩
instance : Inhabited XV := ⟨XV.zero⟩
abbrev XV.val (v : XV) : Value := xe v.k v.s v.m v.u v.A v.n v.c
/-- What of an expression its own cells say. -/
def XV.ks (v : XV) : Int × A3 × Nat := (v.k, (v.s, v.m, v.u), v.n)
def Ex.ks (e : Ex) : Int × A3 × Nat := (e.k, e.a, e.l.length)

/-! ### Cells -/
theorem cell_of_block {w w' : World} {b : Nat} (h : w'.heap[b]? = w.heap[b]?) (o : Nat) : w'.cell? ⟨b, o, none⟩ = w.cell? ⟨b, o, none⟩ := by
  simp only [World.cell?, h]
theorem frozen_of_block {w w' : World} {b : Nat} (h : w'.heap[b]? = w.heap[b]?) (o : Nat) : w'.frozen? ⟨b, o, none⟩ = w.frozen? ⟨b, o, none⟩ := by
  simp only [World.frozen?, h]
/-- The five cells at o of block b hold the expression v. -/
def ZX (w : World) (b o : Nat) (v : XV) : Prop :=
  w.cell? ⟨b, o, none⟩ = some (.int .i64 v.k) ∧ w.cell? ⟨b, o + 1, none⟩ = some (.string v.s) ∧ w.cell? ⟨b, o + 2, none⟩ = some (.int .i64 v.m) ∧ w.cell? ⟨b, o + 3, none⟩ = some (.int .i64 v.u) ∧ w.cell? ⟨b, o + 4, none⟩ = some (.slice v.A v.n v.c)
theorem ZX.lt {w : World} {b o : Nat} {v : XV} (h : ZX w b o v) : b < w.heap.size := by have := World.block_lt_of_cell? w _ h.1; exact this
theorem ZX.of {w w' : World} {b o : Nat} {v : XV} (h : ZX w b o v) (hb : w'.heap[b]? = w.heap[b]?) : ZX w' b o v :=
  ⟨(cell_of_block hb _).trans h.1, (cell_of_block hb _).trans h.2.1, (cell_of_block hb _).trans h.2.2.1, (cell_of_block hb _).trans h.2.2.2.1, (cell_of_block hb _).trans h.2.2.2.2⟩
def xvs : List XV → List Value
  | [] => []
  | v :: l => .int .i64 v.k :: .string v.s :: .int .i64 v.m :: .int .i64 v.u :: .slice v.A v.n v.c :: xvs l
theorem xvs_length : ∀ l : List XV, (xvs l).length = l.length * 5
  | [] => rfl
  | v :: l => by simp [xvs, xvs_length l]; omega
theorem xvs_append : ∀ l r : List XV, xvs (l ++ r) = xvs l ++ xvs r
  | [], r => rfl
  | v :: l, r => by simp [xvs, xvs_append l r]
theorem xvs_at : ∀ (l : List XV) (i : Nat), i < l.length → (xvs l)[i * 5]? = some (.int .i64 (l.getD i default).k) ∧ (xvs l)[i * 5 + 1]? = some (.string (l.getD i default).s) ∧ (xvs l)[i * 5 + 2]? = some (.int .i64 (l.getD i default).m) ∧ (xvs l)[i * 5 + 3]? = some (.int .i64 (l.getD i default).u) ∧ (xvs l)[i * 5 + 4]? = some (.slice (l.getD i default).A (l.getD i default).n (l.getD i default).c)
  | [], i, h => by simp at h
  | v :: l, 0, _ => by simp [xvs]
  | v :: l, i + 1, h => by
    have := xvs_at l i (by simpa using h)
    rw [show (i + 1) * 5 = i * 5 + 1 + 1 + 1 + 1 + 1 by omega]
    simpa [xvs] using this
theorem xvs_one (l : List XV) : ∀ u ∈ xvs l, u.oneCell' = true := by
  induction l with
  | nil => intro u hu; cases hu
  | cons v l ih =>
    intro u hu
    simp only [xvs, List.mem_cons] at hu
    rcases hu with rfl | rfl | rfl | rfl | rfl | hu
    · rfl
    · rfl
    · rfl
    · rfl
    · rfl
    · exact ih u hu
/-- The slice at A reads as the expressions l, five cells each. -/
def XRd (w : World) (A : Option Addr) (l : List XV) : Prop :=
  l ≠ [] → ∃ b o, A = some ⟨b, o, none⟩ ∧ b < w.heap.size ∧ ∀ i, i < l.length → ZX w b (o + i * 5) (l.getD i default)
theorem XRd.nil (w : World) (A : Option Addr) : XRd w A [] := fun h => absurd rfl h
theorem XRd.cell {w : World} {b o : Nat} {l : List XV} (hc : ∀ i, i < l.length → ZX w b (o + i * 5) (l.getD i default)) {j : Nat} {u : Value} (hu : (xvs l)[j]? = some u) : w.cell? ⟨b, o + j, none⟩ = some u := by
  have hj : j < l.length * 5 := by rw [← xvs_length]; exact (List.getElem?_eq_some_iff.1 hu).1
  obtain ⟨h1, h2, h3, h4, h5⟩ := hc (j / 5) (by omega)
  obtain ⟨g1, g2, g3, g4, g5⟩ := xvs_at l (j / 5) (by omega)
  have hd : j % 5 = 0 ∨ j % 5 = 1 ∨ j % 5 = 2 ∨ j % 5 = 3 ∨ j % 5 = 4 := by omega
  rcases hd with e | e | e | e | e
  · rw [show o + j = o + j / 5 * 5 by omega, h1, ← g1, show j / 5 * 5 = j by omega, hu]
  · rw [show o + j = o + j / 5 * 5 + 1 by omega, h2, ← g2, show j / 5 * 5 + 1 = j by omega, hu]
  · rw [show o + j = o + j / 5 * 5 + 2 by omega, h3, ← g3, show j / 5 * 5 + 2 = j by omega, hu]
  · rw [show o + j = o + j / 5 * 5 + 3 by omega, h4, ← g4, show j / 5 * 5 + 3 = j by omega, hu]
  · rw [show o + j = o + j / 5 * 5 + 4 by omega, h5, ← g5, show j / 5 * 5 + 4 = j by omega, hu]
abbrev OwnX (w : World) (base : Nat) (v : Value) (l : List XV) : Prop := w.ownsRow base 28 5 v l.length (xvs l)
theorem OwnX.form {w : World} {base : Nat} {v : Value} {l : List XV} (h : OwnX w base v l) :
    ∃ A c, v = .slice A l.length c ∧ l.length ≤ c ∧ c ≤ maxLen ∧ XRd w A l ∧ (0 < l.length → ∃ g, A = some ⟨g, 0, none⟩ ∧ base ≤ g ∧ g < w.heap.size) := by
  rcases h.2 with ⟨rfl, hn⟩ | ⟨g, cap, cur, rfl, hb, hg, hnc, hcm, _, _⟩
  · exact ⟨none, 0, by rw [hn], by omega, by simp [maxLen], fun hx => absurd (List.eq_nil_of_length_eq_zero hn) hx, fun h0 => by omega⟩
  · have hlt : g < w.heap.size := (Array.getElem?_eq_some_iff.1 hg).1
    refine ⟨_, cap, rfl, hnc, hcm, fun _ => ⟨g, 0, rfl, hlt, fun i hi => ?_⟩, fun _ => ⟨g, rfl, hb, hlt⟩⟩
    obtain ⟨g1, g2, g3, g4, g5⟩ := xvs_at l i hi
    have h1 := h.cellAt (i * 5) (by omega)
    have h2 := h.cellAt (i * 5 + 1) (by omega)
    have h3 := h.cellAt (i * 5 + 2) (by omega)
    have h4 := h.cellAt (i * 5 + 3) (by omega)
    have h5 := h.cellAt (i * 5 + 4) (by omega)
    rw [g1] at h1
    rw [g2] at h2
    rw [g3] at h3
    rw [g4] at h4
    rw [g5] at h5
    rw [Nat.zero_add]
    exact ⟨h1, h2, h3, h4, h5⟩
theorem own_kept {w w' : World} {base : Nat} {T : TypeId} {sz : Nat} {v : Value} {n : Nat} {xs : List Value} (h : w.ownsRow base T sz v n xs) (hb : ∀ g, v.ownBlock = some g → w'.heap[g]? = w.heap[g]?) : w'.ownsRow base T sz v n xs := by
  refine ⟨h.1, ?_⟩
  rcases h.2 with hn | ⟨g, cap, cur, rfl, hbg, hg, rest⟩
  · exact .inl hn
  · exact .inr ⟨g, cap, cur, rfl, hbg, by rw [hb g rfl]; exact hg, rest⟩
theorem own_lt {w : World} {base : Nat} {T : TypeId} {sz : Nat} {v : Value} {n : Nat} {xs : List Value} (h : w.ownsRow base T sz v n xs) {g : Nat} (hg : v.ownBlock = some g) : base ≤ g ∧ g < w.heap.size := by
  rcases h.2 with ⟨rfl, _⟩ | ⟨g', cap, cur, rfl, hbg, hg', _⟩
  · simp [Value.ownBlock] at hg
  · simp only [Value.ownBlock, Option.some.injEq] at hg
    subst hg
    exact ⟨hbg, (Array.getElem?_eq_some_iff.1 hg').1⟩
theorem OwnX.nil (w : World) (base : Nat) : OwnX w base (.slice none 0 0) [] := World.ownsRow_nil w base _ 5
theorem Src.exprs {w : World} {tx e' : TypeId} (hk : Tryz.prog.underlying tx = some (.slice e')) {A : Option Addr} {ys : List XV} (c : Nat) (h : XRd w A ys) : Src Tryz.prog 5 tx (.slice A ys.length c) ys.length (xvs ys) w := by
  cases A with
  | none =>
    have hx : ys = [] := by
      rcases ys with _ | ⟨x, r⟩
      · rfl
      · obtain ⟨_, _, h, _⟩ := h (by simp)
        cases h
    subst hx
    exact Src.ofNil w hk c
  | some a =>
    rcases ys with _ | ⟨x, r⟩
    · exact Src.ofSlice w hk a 0 c [] rfl (fun j u h => by simp at h) (fun u h => by cases h)
    · obtain ⟨b, o, hA, _, hc⟩ := h (by simp)
      injection hA with hA
      subst hA
      refine Src.ofSlice w hk _ _ c _ (by rw [xvs_length]) (fun j u hu => ?_) (xvs_one _)
      rw [add_at]
      exact XRd.cell hc hu
theorem expr_info : (Tryz.prog.info? 28).map (fun i => (i.zero, i.size, i.bytes)) = some (some (.agg #[.int .i64 0, .string ⟨#[]⟩, .int .i64 0, .int .i64 0, .slice none 0 0]), 5, 64) := by kernel_rfl

/-! ### Trees -/
/-- An expression's cells agree with the tree. -/
def ShV (v : XV) (e : Ex) : Prop := v.ks = e.ks ∧ v.n ≤ v.c ∧ v.c ≤ maxLen
/-- The slice at A reads as the trees l; the rows lie in blocks of D. -/
inductive KRd (D : Nat → Prop) (w : World) : Option Addr → List Ex → Prop
  | nil (A : Option Addr) : KRd D w A []
  | row (b o : Nat) (l : List Ex) (vs : List XV) (hD : D b) (hb : b < w.heap.size) (hl : vs.length = l.length)
      (hc : ∀ i, i < l.length → ZX w b (o + i * 5) (vs.getD i default)) (hs : ∀ i, i < l.length → ShV (vs.getD i default) (l.getD i default))
      (hk : ∀ i, i < l.length → KRd D w (vs.getD i default).A (l.getD i default).l) : KRd D w (some ⟨b, o, none⟩) l
/-- A value stands for a tree. -/
def TIn (D : Nat → Prop) (w : World) (v : XV) (e : Ex) : Prop := ShV v e ∧ KRd D w v.A e.l
theorem KRd.of {D D' : Nat → Prop} {w w' : World} {A : Option Addr} {l : List Ex} (h : KRd D w A l) (hD : ∀ b, D b → D' b) (hb : ∀ b, D b → b < w.heap.size → w'.heap[b]? = w.heap[b]?) (hs : w.heap.size ≤ w'.heap.size) : KRd D' w' A l := by
  induction h with
  | nil A => exact .nil A
  | row b o l vs h1 h2 h3 h4 h5 h6 ih => exact .row b o l vs (hD b h1) (Nat.lt_of_lt_of_le h2 hs) h3 (fun i hi => (h4 i hi).of (hb b h1 h2)) h5 ih
theorem TIn.of {D D' : Nat → Prop} {w w' : World} {v : XV} {e : Ex} (h : TIn D w v e) (hD : ∀ b, D b → D' b) (hb : ∀ b, D b → b < w.heap.size → w'.heap[b]? = w.heap[b]?) (hs : w.heap.size ≤ w'.heap.size) : TIn D' w' v e := ⟨h.1, h.2.of hD hb hs⟩
theorem KRd.at_ {D : Nat → Prop} {w : World} {A : Option Addr} {l : List Ex} (h : KRd D w A l) {i : Nat} (hi : i < l.length) :
    ∃ b o v, A = some ⟨b, o, none⟩ ∧ D b ∧ b < w.heap.size ∧ ZX w b (o + i * 5) v ∧ TIn D w v (l.getD i default) := by
  cases h with
  | nil => simp at hi
  | row b o _ vs h1 h2 h3 h4 h5 h6 => exact ⟨b, o, _, rfl, h1, h2, h4 i hi, h5 i hi, h6 i hi⟩
/-- Blocks below B. -/
abbrev Lo (B : Nat) : Nat → Prop := fun b => b < B
theorem KRd.lo {B : Nat} {w w' : World} {A : Option Addr} {l : List Ex} (h : KRd (Lo B) w A l) (hb : Below B w w') : KRd (Lo B) w' A l := h.of (fun _ h => h) (fun b h1 _ => hb.block b h1) hb.size
theorem TIn.below {B : Nat} {w w' : World} {v : XV} {e : Ex} (h : TIn (Lo B) w v e) (hb : Below B w w') : TIn (Lo B) w' v e := ⟨h.1, h.2.lo hb⟩
theorem TIn.mono {D D' : Nat → Prop} {w : World} {v : XV} {e : Ex} (h : TIn D w v e) (hD : ∀ b, D b → D' b) : TIn D' w v e := h.of hD (fun _ _ _ => rfl) (Nat.le_refl _)
theorem TIn.zero (D : Nat → Prop) (w : World) : TIn D w XV.zero Ex.zero := ⟨⟨rfl, Nat.le_refl _, by show (0 : Nat) ≤ maxLen; simp [maxLen]⟩, .nil _⟩

/-! ### Rows of atoms -/
abbrev av (s : ByteArray) (m u : Int) : Value := .agg #[.string s, .int .i64 m, .int .i64 u]
def avs : List A3 → List Value
  | [] => []
  | a :: l => .string a.1 :: .int .i64 a.2.1 :: .int .i64 a.2.2 :: avs l
theorem avs_length : ∀ l : List A3, (avs l).length = l.length * 3
  | [] => rfl
  | v :: l => by simp [avs, avs_length l]; omega
theorem avs_append : ∀ l r : List A3, avs (l ++ r) = avs l ++ avs r
  | [], r => rfl
  | v :: l, r => by simp [avs, avs_append l r]
theorem avs_at : ∀ (l : List A3) (i : Nat), i < l.length → (avs l)[i * 3]? = some (.string (l.getD i default).1) ∧ (avs l)[i * 3 + 1]? = some (.int .i64 (l.getD i default).2.1) ∧ (avs l)[i * 3 + 2]? = some (.int .i64 (l.getD i default).2.2)
  | [], i, h => by simp at h
  | v :: l, 0, _ => by simp [avs]
  | v :: l, i + 1, h => by
    have := avs_at l i (by simpa using h)
    rw [show (i + 1) * 3 = i * 3 + 1 + 1 + 1 by omega]
    simpa [avs] using this
theorem avs_one (l : List A3) : ∀ u ∈ avs l, u.oneCell' = true := by
  induction l with
  | nil => intro u hu; cases hu
  | cons v l ih =>
    intro u hu
    simp only [avs, List.mem_cons] at hu
    rcases hu with rfl | rfl | rfl | hu
    · rfl
    · rfl
    · rfl
    · exact ih u hu
def ZA (w : World) (b o : Nat) (a : A3) : Prop := w.cell? ⟨b, o, none⟩ = some (.string a.1) ∧ w.cell? ⟨b, o + 1, none⟩ = some (.int .i64 a.2.1) ∧ w.cell? ⟨b, o + 2, none⟩ = some (.int .i64 a.2.2)
theorem ZA.lt {w : World} {b o : Nat} {a : A3} (h : ZA w b o a) : b < w.heap.size := by have := World.block_lt_of_cell? w _ h.1; exact this
theorem ZA.of {w w' : World} {b o : Nat} {a : A3} (h : ZA w b o a) (hb : w'.heap[b]? = w.heap[b]?) : ZA w' b o a :=
  ⟨(cell_of_block hb _).trans h.1, (cell_of_block hb _).trans h.2.1, (cell_of_block hb _).trans h.2.2⟩
/-- The slice at A reads as the atoms l, three cells each. -/
def QRd (w : World) (A : Option Addr) (l : List A3) : Prop :=
  l ≠ [] → ∃ b o, A = some ⟨b, o, none⟩ ∧ b < w.heap.size ∧ ∀ i, i < l.length → ZA w b (o + i * 3) (l.getD i default)
theorem QRd.nil (w : World) (A : Option Addr) : QRd w A [] := fun h => absurd rfl h
theorem QRd.below {w w' : World} {A : Option Addr} {l : List A3} (h : QRd w A l) (hb : Below w.heap.size w w') : QRd w' A l := fun hx => by
  obtain ⟨b, o, hA, hlt, hc⟩ := h hx
  exact ⟨b, o, hA, Nat.lt_of_lt_of_le hlt hb.size, fun i hi => (hc i hi).of (hb.block b hlt)⟩
theorem QRd.at_ {w : World} {A : Option Addr} {l : List A3} (h : QRd w A l) {i : Nat} (hi : i < l.length) :
    ∃ b o s m u, A = some ⟨b, o, none⟩ ∧ b < w.heap.size ∧ Hid (l.getD i default = (s, m, u)) ∧ w.cell? ⟨b, o + i * 3, none⟩ = some (.string s) ∧ w.cell? ⟨b, o + i * 3 + 1, none⟩ = some (.int .i64 m) ∧ w.cell? ⟨b, o + i * 3 + 2, none⟩ = some (.int .i64 u) := by
  obtain ⟨b, o, hA, hb, hc⟩ := h (by rintro rfl; simp at hi)
  obtain ⟨h1, h2, h3⟩ := hc i hi
  exact ⟨b, o, _, _, _, hA, hb, rfl, h1, h2, h3⟩
theorem QRd.cell {w : World} {b o : Nat} {l : List A3} (hc : ∀ i, i < l.length → ZA w b (o + i * 3) (l.getD i default)) {j : Nat} {u : Value} (hu : (avs l)[j]? = some u) : w.cell? ⟨b, o + j, none⟩ = some u := by
  have hj : j < l.length * 3 := by rw [← avs_length]; exact (List.getElem?_eq_some_iff.1 hu).1
  obtain ⟨h1, h2, h3⟩ := hc (j / 3) (by omega)
  obtain ⟨g1, g2, g3⟩ := avs_at l (j / 3) (by omega)
  have hd : j % 3 = 0 ∨ j % 3 = 1 ∨ j % 3 = 2 := by omega
  rcases hd with e | e | e
  · rw [show o + j = o + j / 3 * 3 by omega, h1, ← g1, show j / 3 * 3 = j by omega, hu]
  · rw [show o + j = o + j / 3 * 3 + 1 by omega, h2, ← g2, show j / 3 * 3 + 1 = j by omega, hu]
  · rw [show o + j = o + j / 3 * 3 + 2 by omega, h3, ← g3, show j / 3 * 3 + 2 = j by omega, hu]
abbrev OwnQ (w : World) (base : Nat) (v : Value) (l : List A3) : Prop := w.ownsRow base 25 3 v l.length (avs l)
theorem OwnQ.form {w : World} {base : Nat} {v : Value} {l : List A3} (h : OwnQ w base v l) :
    ∃ A c, v = .slice A l.length c ∧ l.length ≤ c ∧ QRd w A l := by
  rcases h.2 with ⟨rfl, hn⟩ | ⟨g, cap, cur, rfl, hb, hg, hnc, hcm, _, _⟩
  · exact ⟨none, 0, by rw [hn], by omega, fun hx => absurd (List.eq_nil_of_length_eq_zero hn) hx⟩
  · have hlt : g < w.heap.size := (Array.getElem?_eq_some_iff.1 hg).1
    refine ⟨_, cap, rfl, hnc, fun _ => ⟨g, 0, rfl, hlt, fun i hi => ?_⟩⟩
    obtain ⟨g1, g2, g3⟩ := avs_at l i hi
    have h1 := h.cellAt (i * 3) (by omega)
    have h2 := h.cellAt (i * 3 + 1) (by omega)
    have h3 := h.cellAt (i * 3 + 2) (by omega)
    rw [g1] at h1
    rw [g2] at h2
    rw [g3] at h3
    rw [Nat.zero_add]
    exact ⟨h1, h2, h3⟩
theorem OwnQ.nil (w : World) (base : Nat) : OwnQ w base (.slice none 0 0) [] := World.ownsRow_nil w base _ 3
theorem Src.atoms {w : World} {tx e' : TypeId} (hk : Tryz.prog.underlying tx = some (.slice e')) {A : Option Addr} {ys : List A3} (c : Nat) (h : QRd w A ys) : Src Tryz.prog 3 tx (.slice A ys.length c) ys.length (avs ys) w := by
  cases A with
  | none =>
    have hx : ys = [] := by
      rcases ys with _ | ⟨x, r⟩
      · rfl
      · obtain ⟨_, _, h, _⟩ := h (by simp)
        cases h
    subst hx
    exact Src.ofNil w hk c
  | some a =>
    rcases ys with _ | ⟨x, r⟩
    · exact Src.ofSlice w hk a 0 c [] rfl (fun j u h => by simp at h) (fun u h => by cases h)
    · obtain ⟨b, o, hA, _, hc⟩ := h (by simp)
      injection hA with hA
      subst hA
      refine Src.ofSlice w hk _ _ c _ (by rw [avs_length]) (fun j u hu => ?_) (avs_one _)
      rw [add_at]
      exact QRd.cell hc hu
theorem atom_info : (Tryz.prog.info? 25).map (fun i => (i.zero, i.size, i.bytes)) = some (some (.agg #[.string ⟨#[]⟩, .int .i64 0, .int .i64 0]), 3, 32) := by kernel_rfl
theorem QRd.one_at (w : World) (T : TypeId) (s : ByteArray) (m u : Int) {g : Nat} (hg : w.heap.size = g) : QRd (w.alloc (.cells #[.string s, .int .i64 m, .int .i64 u] T)) (some ⟨g, 0, none⟩) [(s, m, u)] := by
  subst hg
  exact fun _ => ⟨_, 0, rfl, by simp, fun i hi => by
    obtain rfl : i = 0 := by simpa using hi
    exact ⟨by simp, by simp, by simp⟩⟩
theorem eqIn_am (x y a b : Int) (w : World) : (Op.equalIn 9999 23 (.agg #[.int .i64 x, .int .i64 y]) (.agg #[.int .i64 a, .int .i64 b])).run Tryz.prog w = .ok (decide (x = a ∧ y = b)) w := by
  have u3 := Tryz.underlying3
  have hS : Tryz.prog.underlying 23 = some (.struct (Tryz.prog.fieldsOf 23)) := by kernel_rfl
  have hp : Tryz.prog.stoodInHeld 23 = false := by kernel_rfl
  rw [show (9999 : Nat) = 9998 + 1 from rfl, run_equalIn_agg w 9998 23 _ _ hS hp]
  simp only [Program.fieldsOf, Tryz.underlying23]
  go_simp
  by_cases h1 : x = a <;> by_cases h2 : y = b <;> simp [h1, h2]
set_option maxRecDepth 100000 in
theorem eqAtom (s t : ByteArray) (m u m' u' : Int) (w : World) : (binOp .eql 25 (av s m u) (av t m' u')).run Tryz.prog w = .ok (.bool (eqS s t && decide (m = m' ∧ u = u'))) w := by
  have u4 := Tryz.underlying9
  have e9 := fun W => eqIn_am m u m' u' W
  have hS : Tryz.prog.underlying 25 = some (.struct (Tryz.prog.fieldsOf 25)) := by kernel_rfl
  have hp : Tryz.prog.stoodInHeld 25 = false := by kernel_rfl
  rw [run_eql_struct, show (10000 : Nat) = 9999 + 1 from rfl, run_equalIn_agg w 9999 25 _ _ hS hp]
  simp only [Program.fieldsOf, Tryz.underlying25]
  simp only [Op.eqFields]
  go_simp
  unfold eqS
  by_cases h0 : s.toList = t.toList <;> by_cases h1 : m = m' <;> by_cases h2 : u = u' <;> simp [h0, h1, h2]
set_option maxRecDepth 100000 in
theorem neAtom (s t : ByteArray) (m u m' u' : Int) (w : World) : (binOp .neq 25 (av s m u) (av t m' u')).run Tryz.prog w = .ok (.bool !(eqS s t && decide (m = m' ∧ u = u'))) w := by
  have u4 := Tryz.underlying9
  have e9 := fun W => eqIn_am m u m' u' W
  have hS : Tryz.prog.underlying 25 = some (.struct (Tryz.prog.fieldsOf 25)) := by kernel_rfl
  have hp : Tryz.prog.stoodInHeld 25 = false := by kernel_rfl
  rw [run_neq_struct, show (10000 : Nat) = 9999 + 1 from rfl, run_equalIn_agg w 9999 25 _ _ hS hp]
  simp only [Program.fieldsOf, Tryz.underlying25]
  simp only [Op.eqFields]
  go_simp
  unfold eqS
  by_cases h0 : s.toList = t.toList <;> by_cases h1 : m = m' <;> by_cases h2 : u = u' <;> simp [h0, h1, h2]
end Go.Proofs.YtohjllnfnkajjaaGreat
