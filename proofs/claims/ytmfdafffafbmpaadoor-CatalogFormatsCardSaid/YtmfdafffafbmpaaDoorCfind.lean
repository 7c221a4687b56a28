/- Contracts: Find. -/
import Derived.Test.YtmfdafffafbmpaaDoorCcat
namespace Go.Proofs.YtmfdafffafbmpaaDoor
open Go.RowKit
open Go.Sort (grow)
set_option linter.unusedVariables false
set_option linter.unusedSimpArgs false

/-- What Find answers. -/
def Fnd (l : List P4) (s : ByteArray) (r : P4) (b : Bool) : Prop := (∃ p, At4 l s p ∧ r = l.getD p default ∧ b = true) ∨ (No4 l s ∧ r = (⟨#[]⟩, 0, 0, 0) ∧ b = false)
theorem At4.uniq {l : List P4} {s : ByteArray} {i j : Nat} (h : At4 l s i) (k : At4 l s j) : i = j := by
  rcases Nat.lt_trichotomy i j with h1 | h1 | h1
  · exact absurd h.2.1 (k.2.2 i h1)
  · exact h1
  · exact absurd k.2.1 (h.2.2 j h1)
theorem Fnd.hit {l : List P4} {s : ByteArray} {r : P4} {b : Bool} (h : Fnd l s r b) {p : Nat} (hp : At4 l s p) : r = l.getD p default ∧ b = true := by
  rcases h with ⟨q, hq, h1, h2⟩ | ⟨hno, _, _⟩
  · obtain rfl := hp.uniq hq
    exact ⟨h1, h2⟩
  · exact absurd hno hp.not
theorem Fnd.miss {l : List P4} {s : ByteArray} {r : P4} {b : Bool} (h : Fnd l s r b) (hp : No4 l s) : r = (⟨#[]⟩, 0, 0, 0) ∧ b = false := by
  rcases h with ⟨q, hq, h1, h2⟩ | ⟨_, h1, h2⟩
  · exact absurd hp hq.not
  · exact ⟨h1, h2⟩
theorem fnd_ex (l : List P4) (s : ByteArray) : ∃ t k u h b, Hid (Fnd l s (t, k, u, h) b) := by
  rcases at_or l s with ⟨p, hp⟩ | h
  · exact ⟨_, _, _, _, true, .inl ⟨p, hp, rfl, rfl⟩⟩
  · exact ⟨_, _, _, _, false, .inr ⟨h, rfl, rfl⟩⟩
/-- A box of four cells that a call has made for a result, as yet zero. -/
def R0 (W : World) (k : Nat) : Prop := (k < W.heap.size ∧ W.cell? ⟨k, 0, none⟩ = some (.string ⟨#[]⟩) ∧ W.cell? ⟨k, 1, none⟩ = some (.int .i64 0) ∧ W.cell? ⟨k, 2, none⟩ = some (.int .i64 0) ∧ W.cell? ⟨k, 3, none⟩ = some (.int .i64 0)) ∧ ∀ o, W.frozen? ⟨k, o, none⟩ = false
theorem R0.new (W : World) (T : TypeId) : R0 (W.alloc (.cells #[.string ⟨#[]⟩, .int .i64 0, .int .i64 0, .int .i64 0] T)) W.heap.size := ⟨⟨by simp, by simp, by simp, by simp, by simp⟩, fun o => by simp⟩
theorem R0.below {W W' : World} {k : Nat} (h : R0 W k) (hb : Below W.heap.size W W') : R0 W' k := by
  obtain ⟨⟨h0, h1, h2, h3, h4⟩, hf⟩ := h
  have := hb.size
  exact ⟨⟨by omega, (hb.cell (p := ⟨k, 0, none⟩) h0).trans h1, (hb.cell (p := ⟨k, 1, none⟩) h0).trans h2, (hb.cell (p := ⟨k, 2, none⟩) h0).trans h3, (hb.cell (p := ⟨k, 3, none⟩) h0).trans h4⟩, fun o => (hb.frozen (p := ⟨k, o, none⟩) h0).trans (hf o)⟩
theorem set4 {W : World} {k : Nat} (h : R0 W k) (a b c d : Value) (o : Obj) :
    (((((W.setCell ⟨k, 0, none⟩ a).setCell ⟨k, 1, none⟩ b).setCell ⟨k, 2, none⟩ c).setCell ⟨k, 3, none⟩ d).alloc o).cell? ⟨k, 0, none⟩ = some a ∧
    (((((W.setCell ⟨k, 0, none⟩ a).setCell ⟨k, 1, none⟩ b).setCell ⟨k, 2, none⟩ c).setCell ⟨k, 3, none⟩ d).alloc o).cell? ⟨k, 1, none⟩ = some b ∧
    (((((W.setCell ⟨k, 0, none⟩ a).setCell ⟨k, 1, none⟩ b).setCell ⟨k, 2, none⟩ c).setCell ⟨k, 3, none⟩ d).alloc o).cell? ⟨k, 2, none⟩ = some c ∧
    (((((W.setCell ⟨k, 0, none⟩ a).setCell ⟨k, 1, none⟩ b).setCell ⟨k, 2, none⟩ c).setCell ⟨k, 3, none⟩ d).alloc o).cell? ⟨k, 3, none⟩ = some d := by
  obtain ⟨⟨h0, h1, h2, h3, h4⟩, hf⟩ := h
  have hb := newB ((((W.setCell ⟨k, 0, none⟩ a).setCell ⟨k, 1, none⟩ b).setCell ⟨k, 2, none⟩ c).setCell ⟨k, 3, none⟩ d) o
  have hs : k < ((((W.setCell ⟨k, 0, none⟩ a).setCell ⟨k, 1, none⟩ b).setCell ⟨k, 2, none⟩ c).setCell ⟨k, 3, none⟩ d).heap.size := by simpa using h0
  refine ⟨(hb.cell (p := ⟨k, 0, none⟩) hs).trans ?_, (hb.cell (p := ⟨k, 1, none⟩) hs).trans ?_, (hb.cell (p := ⟨k, 2, none⟩) hs).trans ?_, (hb.cell (p := ⟨k, 3, none⟩) hs).trans ?_⟩ <;> simp [go_sem, h1, h2, h3, h4]
set_option maxHeartbeats 2000000 in
set_option maxRecDepth 8000 in
theorem find_is (A : Option Addr) (n c : Nat) (l : List P4) (nm : ByteArray) (w : World) (hl : InR w A n c l) {s : ByteArray} {k u h : Int} {b : Bool} (hr : Hid (Fnd l nm (s, k, u, h) b)) :
    Calls Tryd.prog 25 #[.slice A n c, .string nm] w fun e w' => e = .returned (.tuple #[ra s k u h, .bool b]) ∧ Below w.heap.size w w' := by
  have HR := Lib.hid hl.rd
  have hn : Hid (l.length = n) := hl.len
  have hbig := hl.big
  clear hl
  go_enter Tryd.func25, Tryd.ntmps25
  go_wp2
  go_loopw [7, 10] (fun p i wr => ∃ (j : Nat), j ≤ n ∧ i = .int .i64 j ∧ Hid (R0 wr w.heap.size) ∧ Hid (Below w.heap.size w wr) ∧ Hid (∀ i, i < j → (l.getD i default).1 ≠ nm)) (fun _ i _ => n - (intOf i).toNat)
  case atStart => exact ⟨0, by omega, rfl, R0.new _ _, newB _ _, fun i hi => by omega⟩
  case round =>
    obtain ⟨j, hj, rfl, hR, hB, hall⟩ := hrel
    obtain ⟨⟨hk, hf1, hf2, hf3, hf4⟩, hfz⟩ := hR.out
    by_cases hlt : (j : Int) < (n : Int)
    · obtain ⟨g, o, s', k', u', h', rfl, hg, hx, c1, c2, c3, c4⟩ := (HR.out.below hB.out).at_ (i := j) (by have := hn.out; omega)
      have e5 : IntKind.i64.wrap ((j : Int) + 1) = (j : Int) + 1 := by rw [IntKind.wrap_i64]; omega
      by_cases he0 : s' = nm
      · have he : (s'.toList == nm.toList) = true := eqS_iff.2 he0
        have hend : Hid ((s, k, u, h) = (s', k', u', h') ∧ b = true) := by
          have hA : At4 l nm j := ⟨by have := hn.out; omega, by rw [hx.out]; exact he0, hall.out⟩
          obtain ⟨e1, e2⟩ := hr.out.hit hA
          exact ⟨e1.trans hx.out, e2⟩
        clear hr he0
        go_wp2
        obtain ⟨e1, rfl⟩ := hend.out
        simp only [Prod.mk.injEq] at e1
        obtain ⟨rfl, rfl, rfl, rfl⟩ := e1
        obtain ⟨q0, q1, q2, q3⟩ := set4 hR.out (.string s) (.int .i64 k) (.int .i64 u) (.int .i64 h) (.cells #[.string s, .int .i64 k, .int .i64 u, .int .i64 h] 26)
        exact bodyPost_ret (v := .tuple #[ra s k u h, .bool true]) (by simp [results, Tryd.results25, go_sem, hf1, hf2, hf3, hf4, hfz, q0, q1, q2, q3]) rfl ⟨rfl, nxA (((((hB.out.setCell (Nat.le_refl _) _).setCell (Nat.le_refl _) _).setCell (Nat.le_refl _) _).setCell (Nat.le_refl _) _)) _⟩
      · have he : (s'.toList == nm.toList) = false := eqS_no.2 he0
        have hall2 : Hid (∀ i, i < j + 1 → (l.getD i default).1 ≠ nm) := fun i hi => by
          by_cases e : i = j
          · subst e; rw [hx.out]; exact he0
          · exact hall.out i (by omega)
        clear he0
        go_wp2
        go_roundw
        case rel => exact ⟨j + 1, by omega, by go_num, hR.out.below (newB _ _), nxA hB.out _, hall2⟩
        case measure => simp [intOf]; omega
    · have hend : Hid ((s, k, u, h) = (⟨#[]⟩, 0, 0, 0) ∧ b = false) := hr.out.miss fun i hi => hall.out i (by have := hn.out; omega)
      clear hr
      go_wp2
      obtain ⟨e1, rfl⟩ := hend.out
      simp only [Prod.mk.injEq] at e1
      obtain ⟨rfl, rfl, rfl, rfl⟩ := e1
      exact bodyPost_ret (v := .tuple #[ra ⟨#[]⟩ 0 0 0, .bool false]) (by simp [results, Tryd.results25, go_sem, hf1, hf2, hf3, hf4, hfz]) rfl ⟨rfl, (((hB.out.setCell (Nat.le_refl _) _).setCell (Nat.le_refl _) _).setCell (Nat.le_refl _) _).setCell (Nat.le_refl _) _⟩
set_option maxHeartbeats 2000000 in
set_option maxRecDepth 8000 in
theorem refFind_is (A : Option Addr) (n c : Nat) (l : List P4) (nm : ByteArray) (w : World) (hl : InR w A n c l) {s : ByteArray} {k u h : Int} {b : Bool} (hr : Hid (Fnd l nm (s, k, u, h) b)) :
    Calls Tryd.prog 26 #[.slice A n c, .string nm] w fun e w' => e = .returned (.tuple #[ra s k u h, .bool b]) ∧ Below w.heap.size w w' := by
  have HR := Lib.hid hl.rd
  have hn : Hid (l.length = n) := hl.len
  have hbig := hl.big
  clear hl
  go_enter Tryd.func26, Tryd.ntmps26
  go_wp2
  go_loopw [6] (fun i wr => ∃ (j : Nat), j ≤ n ∧ i = .int .i64 j ∧ Hid (R0 wr w.heap.size) ∧ Hid (Below w.heap.size w wr) ∧ Hid (∀ i, i < j → (l.getD i default).1 ≠ nm)) (fun i _ => n - (intOf i).toNat)
  case atStart => exact ⟨0, by omega, rfl, R0.new _ _, newB _ _, fun i hi => by omega⟩
  case round =>
    obtain ⟨j, hj, rfl, hR, hB, hall⟩ := hrel
    obtain ⟨⟨hk, hf1, hf2, hf3, hf4⟩, hfz⟩ := hR.out
    by_cases hlt : (j : Int) < (n : Int)
    · obtain ⟨g, o, s', k', u', h', rfl, hg, hx, c1, c2, c3, c4⟩ := (HR.out.below hB.out).at_ (i := j) (by have := hn.out; omega)
      have e5 : IntKind.i64.wrap ((j : Int) + 1) = (j : Int) + 1 := by rw [IntKind.wrap_i64]; omega
      by_cases he0 : s' = nm
      · have he : (s'.toList == nm.toList) = true := eqS_iff.2 he0
        have hend : Hid ((s, k, u, h) = (s', k', u', h') ∧ b = true) := by
          have hA : At4 l nm j := ⟨by have := hn.out; omega, by rw [hx.out]; exact he0, hall.out⟩
          obtain ⟨e1, e2⟩ := hr.out.hit hA
          exact ⟨e1.trans hx.out, e2⟩
        clear hr he0
        go_wp2
        obtain ⟨e1, rfl⟩ := hend.out
        simp only [Prod.mk.injEq] at e1
        obtain ⟨rfl, rfl, rfl, rfl⟩ := e1
        exact bodyPost_ret (v := .tuple #[ra s k u h, .bool true]) (by simp [results, Tryd.results26, go_sem, hf1, hf2, hf3, hf4, hfz]) rfl ⟨rfl, ((((hB.out.setCell (Nat.le_refl _) _).setCell (Nat.le_refl _) _).setCell (Nat.le_refl _) _).setCell (Nat.le_refl _) _)⟩
      · have he : (s'.toList == nm.toList) = false := eqS_no.2 he0
        have hall2 : Hid (∀ i, i < j + 1 → (l.getD i default).1 ≠ nm) := fun i hi => by
          by_cases e : i = j
          · subst e; rw [hx.out]; exact he0
          · exact hall.out i (by omega)
        clear he0
        go_wp2
        go_roundw
        case rel => exact ⟨j + 1, by omega, by go_num, hR, hB, hall2⟩
        case measure => simp [intOf]; omega
    · have hend : Hid ((s, k, u, h) = (⟨#[]⟩, 0, 0, 0) ∧ b = false) := hr.out.miss fun i hi => hall.out i (by have := hn.out; omega)
      clear hr
      go_wp2
      obtain ⟨e1, rfl⟩ := hend.out
      simp only [Prod.mk.injEq] at e1
      obtain ⟨rfl, rfl, rfl, rfl⟩ := e1
      exact bodyPost_ret (v := .tuple #[ra ⟨#[]⟩ 0 0 0, .bool false]) (by simp [results, Tryd.results26, go_sem, hf1, hf2, hf3, hf4, hfz]) rfl ⟨rfl, (((hB.out.setCell (Nat.le_refl _) _).setCell (Nat.le_refl _) _).setCell (Nat.le_refl _) _).setCell (Nat.le_refl _) _⟩
end Go.Proofs.YtmfdafffafbmpaaDoor
