/- Slices of strings as lists; rows of strings of the call's own, append of several; strconv.Itoa at small numbers, strings.Join, a builder's WriteString and String. -/
import Derived.Test.YtmfdafffafbmpaaDoorCsame
import Derived.Test.YtmfdafffafbmpaaDoorCtxt
import Derived.Test.YtmfdafffafbmpaaDoorShelf
namespace Go.Proofs.YtmfdafffafbmpaaDoor
open Go.RowKit
open Go.Sort (grow)
set_option linter.unusedVariables false
set_option linter.unusedSimpArgs false

def sv (xs : List ByteArray) : List Value := xs.map Value.string
theorem sv_at {xs : List ByteArray} {j : Nat} {x : ByteArray} (h : xs[j]? = some x) : (sv xs)[j]? = some (.string x) := by simp [sv, h]
theorem sv_get {xs : List ByteArray} {j : Nat} {u : Value} (h : (sv xs)[j]? = some u) : ∃ x, xs[j]? = some x ∧ u = .string x := by
  simp only [sv, List.getElem?_map, Option.map_eq_some_iff] at h
  obtain ⟨x, hx, rfl⟩ := h
  exact ⟨x, hx, rfl⟩
/-- The slice at A reads as the strings xs. -/
def SRd (w : World) (A : Option Addr) (xs : List ByteArray) : Prop :=
  xs ≠ [] → ∃ b o, A = some ⟨b, o, none⟩ ∧ b < w.heap.size ∧ ∀ (i : Nat) x, xs[i]? = some x → w.cell? ⟨b, o + i, none⟩ = some (.string x)
theorem SRd.nil (w : World) (A : Option Addr) : SRd w A [] := fun h => absurd rfl h
theorem SRd.below {w w' : World} {A : Option Addr} {xs : List ByteArray} (h : SRd w A xs) (hb : Below w.heap.size w w') : SRd w' A xs := fun hx => by
  obtain ⟨b, o, hA, hlt, hc⟩ := h hx
  exact ⟨b, o, hA, Nat.lt_of_lt_of_le hlt hb.size, fun i x hi => (hb.cell (p := ⟨b, o + i, none⟩) hlt).trans (hc i x hi)⟩
abbrev OwnS (w : World) (base : Nat) (v : Value) (xs : List ByteArray) : Prop := w.ownsRow base 9 1 v xs.length (sv xs)
theorem OwnS.form {w : World} {base : Nat} {v : Value} {xs : List ByteArray} (h : OwnS w base v xs) :
    ∃ A c, v = .slice A xs.length c ∧ xs.length ≤ c ∧ SRd w A xs := by
  rcases h.2 with ⟨rfl, hn⟩ | ⟨g, cap, cur, rfl, hb, hg, hnc, hcm, _, _⟩
  · exact ⟨none, 0, by rw [hn], by omega, fun hx => absurd (List.eq_nil_of_length_eq_zero hn) hx⟩
  · have hlt : g < w.heap.size := (Array.getElem?_eq_some_iff.1 hg).1
    refine ⟨_, cap, rfl, hnc, fun _ => ⟨g, 0, rfl, hlt, fun i x hi => ?_⟩⟩
    have := h.cellAt i (by rw [Nat.mul_one]; exact (List.getElem?_eq_some_iff.1 hi).1)
    rw [Nat.zero_add, this, sv_at hi]
theorem OwnS.below {w w' : World} {base : Nat} {v : Value} {xs : List ByteArray} (h : OwnS w base v xs) (hb : Below w.heap.size w w') : OwnS w' base v xs := by
  refine ⟨h.1, ?_⟩
  rcases h.2 with hn | ⟨g, cap, cur, rfl, hbg, hg, rest⟩
  · exact .inl hn
  · exact .inr ⟨g, cap, cur, rfl, hbg, by rw [hb.block g (Array.getElem?_eq_some_iff.1 hg).1]; exact hg, rest⟩
theorem OwnS.nil (w : World) (base : Nat) : OwnS w base (.slice none 0 0) [] := World.ownsRow_nil w base 9 1
theorem OwnS.lit (w : World) (xs : List ByteArray) {base : Nat} (hb : base ≤ w.heap.size) (hl : xs.length ≤ 1000) : OwnS (w.alloc (.cells (sv xs).toArray 9)) base (.slice (some ⟨w.heap.size, 0, none⟩) xs.length xs.length) xs := by
  have := World.ownsRow_lit (base := base) (e := 9) (size := 1) w (sv xs).toArray xs.length hb (by simp only [maxLen]; omega) (by simp [sv])
  simpa using this
theorem OwnS.lit_at (w : World) (xs : List ByteArray) {base g : Nat} (hg : w.heap.size = g) (hb : base ≤ g) (hl : xs.length ≤ 1000) : OwnS (w.alloc (.cells (sv xs).toArray 9)) base (.slice (some ⟨g, 0, none⟩) xs.length xs.length) xs := by
  subst hg
  exact OwnS.lit w xs hb hl
theorem SRd.lit_at (w : World) (T : TypeId) (xs : List ByteArray) {g : Nat} (hg : w.heap.size = g) : SRd (w.alloc (.cells (sv xs).toArray T)) (some ⟨g, 0, none⟩) xs := by
  subst hg
  refine fun _ => ⟨_, 0, rfl, by simp, fun i x hi => ?_⟩
  have h1 := sv_at hi
  rw [Nat.zero_add]
  have : (w.alloc (.cells (sv xs).toArray T)).cell? ⟨w.heap.size, i, none⟩ = (sv xs).toArray[i]? := by
    have hb := heap_alloc_new w (.cells (sv xs).toArray T)
    simp only [World.cell?, hb]
    rfl
  rw [this]
  simpa using h1
theorem Src.strs {w : World} {tx e' : TypeId} (hk : Tryd.prog.underlying tx = some (.slice e')) {A : Option Addr} {ys : List ByteArray} (c : Nat) (h : SRd w A ys) : Src Tryd.prog 1 tx (.slice A ys.length c) ys.length (sv ys) w := by
  cases A with
  | none =>
    have hx : ys = [] := by
      rcases ys with _ | ⟨x, r⟩
      · rfl
      · obtain ⟨_, _, h, _⟩ := h (by simp)
        cases h
    subst hx
    exact Src.ofNil w hk c
  | some a =>
    rcases ys with _ | ⟨x, r⟩
    · exact Src.ofSlice w hk a 0 c [] rfl (fun j u h => by simp at h) (fun u h => by cases h)
    · obtain ⟨b, o, hA, _, hc⟩ := h (by simp)
      injection hA with hA
      subst hA
      refine Src.ofSlice w hk _ _ c _ (by simp [sv]) (fun j u hu => ?_) (fun u hu => ?_)
      · obtain ⟨y, hy, rfl⟩ := sv_get hu
        rw [add_at]
        exact hc j y hy
      · simp only [sv, List.mem_map] at hu
        obtain ⟨y, _, rfl⟩ := hu
        rfl
theorem str_info : (Tryd.prog.info? 9).map (fun i => (i.zero, i.size, i.bytes)) = some (some (.string ⟨#[]⟩), 1, 16) := by kernel_rfl
theorem app_strs {w : World} {ops : Array Oper} {rest : List Oper} {o : Oper} {a : Act} {Q : Exit → Act → World → Prop} (hgd : Region.wanted o (yielded ops a.tmps) = true) (s y : Operand)
    (ho : o.op = .call { callee := .builtin .append, args := #[s, y], argTypes := #[68, 68] })
    (base : Nat) (V : Value) (xs : List ByteArray) (A : Option Addr) (ys : List ByteArray) (n c : Nat) (hn : Hid (ys.length = n)) (hv : a.eval s = V) (hx : a.eval y = .slice A n c)
    (hd : OwnS w base V xs) (hs : SRd w A ys) (hlen : Hid (xs.length + n ≤ 1000000)) (hbase : base ≤ w.heap.size)
    (h : ∀ V' w', OwnS w' base V' (xs ++ ys) → Below base w w' → wpList Tryd.prog ops Q rest (a.put o.dst V') w') :
    wpList Tryd.prog ops Q (o :: rest) a w := by
  have hn' := hn.out
  subst hn'
  obtain ⟨i0, hi, hz0, hz1, hz2⟩ := info_parts str_info
  have hl := hlen.out
  refine wpList_app w hgd s y 68 68 ho base 9 i0 _ 1 16 Tryd.underlying68 hi hz0 hz1 hz2 rfl V xs.length (sv xs) _ ys.length (sv ys) hv hx (.inl hd)
    (Src.strs Tryd.underlying68 c hs) (by simp only [maxLen]; omega) (fits_half (by omega)) hbase (fun V' w' h1 h2 h3 h4 => h V' w' ?_ h2)
  unfold OwnS
  rw [List.length_append]
  simpa [sv] using h1

/-! ### The library's functions -/
theorem itoa_b (n : Int) (w : World) (h0 : 0 ≤ n) (h1 : n < 100) {r : ByteArray} (hr : Hid (mkB (dec n.toNat) = r)) : Calls Tryd.prog 62 #[.int .i64 n] w fun e w' => e = .returned (.string r) ∧ w = w' := by
  rw [← hr.out]
  obtain ⟨m, rfl⟩ := Int.eq_ofNat_of_zero_le h0
  exact (Tryd.strconv_Itoa_small m (by omega) w).mono fun _ _ ⟨he, hw⟩ => ⟨he, hw.symm⟩
theorem join_is (A : Option Addr) (n c : Nat) (xs : List ByteArray) (w : World) (hl : SRd w A xs) (hn : Hid (xs.length = n)) (h0 : Hid (xs ≠ [])) (hc : n ≤ c) (hn9 : n ≤ 1000) {r : ByteArray} (hr : Hid (mkB (Lib.join (xs.map (·.data.toList)) [32]) = r)) (hs : r.size ≤ 100000) :
    Calls Tryd.prog 63 #[.slice A n c, .string ⟨#[32]⟩] w fun e w' => e = .returned (.string r) ∧ Below w.heap.size w w' := by
  obtain ⟨b, o, rfl, hb, hcells⟩ := hl h0.out
  have hn' := hn.out
  subst hn'
  have hz : (Lib.join (xs.map (·.data.toList)) [32]).length ≤ 100000 := by rw [← hr.out, mkB_size] at hs; exact hs
  have := Tryd.strings_Join b o c xs ⟨#[32]⟩ w (fun j x hj => hcells j x hj) hb (by omega) hc (by show (Lib.join (xs.map (·.data.toList)) [32]).length ≤ _; omega)
  refine this.mono fun e w' ⟨he, hw⟩ => ⟨?_, hw⟩
  rw [he, ← hr.out]
  rfl
/-- A builder of the call's own that holds these bytes. -/
abbrev Bld (B b : Nat) (l : List UInt8) (w : World) : Prop := Lib.IsBuilder 57 5 B b (Lib.byteCells l) w
theorem Bld.below {B b : Nat} {l : List UInt8} {w w' : World} (h : Bld B b l w) (hb : Below w.heap.size w w') : Bld B b l w' := by
  have aux : ∀ p, Lib.BuilderAt 57 5 B b p (Lib.byteCells l) w → Lib.BuilderAt 57 5 B b p (Lib.byteCells l) w' := by
    rintro p ⟨h1, v, h2, h3, h4⟩
    refine ⟨h1, v, by rw [hb.block b (Array.getElem?_eq_some_iff.1 h2).1]; exact h2, ⟨h3.1, ?_⟩, h4⟩
    rcases h3.2 with hn | ⟨g, cap, cur, rfl, hbg, hg, rest⟩
    · exact .inl hn
    · exact .inr ⟨g, cap, cur, rfl, hbg, by rw [hb.block g (Array.getElem?_eq_some_iff.1 hg).1]; exact hg, rest⟩
  exact h.imp (aux _) (aux _)
theorem Bld.new (w : World) : Bld w.heap.size w.heap.size [] (w.alloc (.cells #[.pointer none, .slice none 0 0] 57)) :=
  .inl ⟨Nat.le_refl _, _, heap_alloc_new w _, World.ownsRow_nil _ _ _ _, by simp [Value.ownBlock]⟩
theorem write_is (B b : Nat) (l : List UInt8) (s : ByteArray) (w : World) (h : Bld B b l w) (hlen : Hid (l.length + s.size ≤ 100000)) (hB : Hid (B ≤ w.heap.size)) :
    Calls Tryd.prog 47 #[.pointer (some ⟨b, 0, none⟩), .string s] w fun e w' => e = .returned (.tuple #[.int .i64 s.size, .nilIface]) ∧ Bld B b (l ++ s.data.toList) w' ∧ Below B w w' := by
  refine (Any.Builder_WriteString (ρ := Tryd.lays156_ren) { Tryd.lays156 with } Tryd.Builder_Extra_156 B b (Lib.byteCells l) s w h (by have := hlen.out; rw [Lib.byteCells_length]; omega) hB.out).mono fun e w' ⟨he, hb, hw⟩ => ⟨he, .inr ?_, hw⟩
  have : Lib.byteCells (l ++ s.data.toList) = Lib.byteCells l ++ Lib.strCells s := by simp [Lib.byteCells, Lib.strCells]
  rw [this]
  exact hb
theorem string_is (B b : Nat) (l : List UInt8) (w : World) (h : Bld B b l w) (hB : Hid (B ≤ w.heap.size)) {r : ByteArray} (hr : Hid (mkB l = r)) :
    Calls Tryd.prog 49 #[.pointer (some ⟨b, 0, none⟩)] w fun e w' => e = .returned (.string r) ∧ Below B w w' := by
  rw [← hr.out]
  exact Tryd.Builder_String_any B b l w h hB.out
end Go.Proofs.YtmfdafffafbmpaaDoor
