/- The contract of the statements' own examples; contracts with their results written out. -/
import Derived.Test.YtchffamnamhcdaaDoorIparseW
namespace Go.Proofs.YtchffamnamhcdaaDoor
open Go.RowKit

theorem parse_yesT (s : ByteArray) (hs : s.size ≤ 140737488351232) (w : World) (hV : Vars w) {a b c : Int} (h : Hid (PText s.data.toList a b c)) :
    Calls Tryd.prog 24 #[.string s] w fun e w' => e = .returned (.tuple #[.agg #[.int .i64 a, .int .i64 b, .int .i64 c], .bool true]) ∧ Below w.heap.size w w' := parse_yes s hs w hV h
theorem parse_noT (s : ByteArray) (hs : s.size ≤ 140737488351232) (w : World) (hV : Vars w) (h : Hid (∀ a b c, ¬ PText s.data.toList a b c)) :
    Calls Tryd.prog 24 #[.string s] w fun e w' => e = .returned (.tuple #[.agg #[.int .i64 0, .int .i64 0, .int .i64 0], .bool false]) ∧ Below w.heap.size w w' := parse_no s hs w hV h
theorem merge_okT (t s u v : Int) (w : World) (h1 : Hid (vsB t s = true)) (h2 : Hid (vsB u v = true)) (hm : max t u < 1073741824) {m : Int} (e : Hid (max t u + 1 = m)) :
    Calls Tryd.prog 35 #[.agg #[.int .i64 t, .int .i64 s], .agg #[.int .i64 u, .int .i64 v]] w fun e w' => e = .returned (.tuple #[.agg #[.int .i64 m, .int .i64 s], .int .i64 0]) ∧ Below w.heap.size w w' := by
  have e' := e.out
  subst e'
  exact merge_ok t s u v w h1 h2 hm
theorem next_is (g : Int) (w : World) {r : Int} (h : Hid (nextI g = r)) : Calls Tryd.prog 37 #[.int .i64 g] w fun e w' => e = .returned (.int .i64 r) ∧ w = w' := by
  have h' := h.out
  subst h'
  exact next_any g w
theorem refNext_is (g : Int) (w : World) {r : Int} (h : Hid (nextI g = r)) : Calls Tryd.prog 38 #[.int .i64 g] w fun e w' => e = .returned (.int .i64 r) ∧ w = w' := by
  have h' := h.out
  subst h'
  exact refNext_any g w
theorem compareProc_is (a b c x y z : Int) (w : World) {r : Int} (h : Hid (cmp3 a b c x y z = r)) :
    Calls Tryd.prog 19 #[.agg #[.int .i64 a, .int .i64 b, .int .i64 c], .agg #[.int .i64 x, .int .i64 y, .int .i64 z]] w fun e w' => e = .returned (.int .i64 r) ∧ Below w.heap.size w w' := by
  have h' := h.out
  subst h'
  exact (compareProc_any a b c x y z w).mono fun _ _ h => ⟨h.1, h.2.below⟩
theorem format_str (a b c : Int) (w : World) (h : Hid (vpB a b c = true)) (hT : Tab w) {A : ByteArray} (hA : Hid (mkB (fmtP a b c) = A)) :
    Calls Tryd.prog 23 #[.agg #[.int .i64 a, .int .i64 b, .int .i64 c]] w fun e w' => e = .returned (.string A) ∧ Below w.heap.size w w' :=
  format_is a b c w hT (.inl ⟨h.out, hA.out⟩)

/-- A block of three cells, a block of two, carried from world to world. -/
def B3 (W : World) (k : Nat) (a b c : Value) : Prop := k < W.heap.size ∧ W.cell? ⟨k, 0, none⟩ = some a ∧ W.cell? ⟨k, 1, none⟩ = some b ∧ W.cell? ⟨k, 2, none⟩ = some c
def B2 (W : World) (k : Nat) (a b : Value) : Prop := k < W.heap.size ∧ W.cell? ⟨k, 0, none⟩ = some a ∧ W.cell? ⟨k, 1, none⟩ = some b
theorem B3.new (W : World) (T : TypeId) (a b c : Value) : B3 (W.alloc (.cells #[a, b, c] T)) W.heap.size a b c := ⟨by simp, by simp, by simp, by simp⟩
theorem B2.new (W : World) (T : TypeId) (a b : Value) : B2 (W.alloc (.cells #[a, b] T)) W.heap.size a b := ⟨by simp, by simp, by simp⟩
theorem B3.below {W W' : World} {k : Nat} {a b c : Value} (h : B3 W k a b c) (hb : Below W.heap.size W W') : B3 W' k a b c := by
  obtain ⟨h0, h1, h2, h3⟩ := h
  have := hb.size
  exact ⟨by omega, (hb.cell (p := ⟨k, 0, none⟩) h0).trans h1, (hb.cell (p := ⟨k, 1, none⟩) h0).trans h2, (hb.cell (p := ⟨k, 2, none⟩) h0).trans h3⟩
theorem B2.below {W W' : World} {k : Nat} {a b : Value} (h : B2 W k a b) (hb : Below W.heap.size W W') : B2 W' k a b := by
  obtain ⟨h0, h1, h2⟩ := h
  have := hb.size
  exact ⟨by omega, (hb.cell (p := ⟨k, 0, none⟩) h0).trans h1, (hb.cell (p := ⟨k, 1, none⟩) h0).trans h2⟩

theorem eg_text : fmtP 2 1 5 = [50, 46, 49, 46, 53] := by
  unfold fmtP
  rw [show (2 : Int).toNat = 2 from rfl, show (1 : Int).toNat = 1 from rfl, show (5 : Int).toNat = 5 from rfl, dec_one (by omega), dec_one (by omega), dec_one (by omega)]
  rfl

set_option maxHeartbeats 1000000 in
theorem awake_any (w : World) (hV : Vars w) : Calls Tryd.prog 14 #[] w fun e w' => e = .returned (.bool true) ∧ Below w.heap.size w w' := by
  have hp : Hid (PText (ByteArray.mk #[50, 46, 49, 46, 53]).data.toList 2 1 5) := ⟨by decide, eg_text.symm⟩
  have hv : Hid (vpB 2 1 5 = true) := by show _ = _; decide
  have hA : Hid (mkB (fmtP 2 1 5) = ⟨#[50, 46, 49, 46, 53]⟩) := by show _ = _; rw [eg_text]; rfl
  have hm1 : Hid (vsB 3 0 = true) := by show _ = _; decide
  have hm2 : Hid (vsB 7 1 = true) := by show _ = _; decide
  have hm3 : Hid (max (3 : Int) 7 + 1 = 8) := by show _ = _; decide
  have hn : Hid (nextI 1073741824 = 1) := by show _ = _; decide
  have hc : Hid (cmp3 2 1 5 2 0 0 = 1) := by show _ = _; decide
  have HV := Lib.hid hV
  clear hV
  go_enter Tryd.func14, Tryd.ntmps14
  go_wp2_with (first
    | (go_at_call 24; refine (parse_yesT _ (by decide) _ HV.out hp).mono ?_; rintro e W1 ⟨rfl, hb1⟩)
    | (go_at_call 35; refine (merge_okT _ _ _ _ _ hm1 hm2 (by omega) hm3).mono ?_; rintro e W2 ⟨rfl, hb2⟩; have x2 := Lib.hid ((B3.new W1 _ _ _ _).below hb2); obtain ⟨i0, i1, i2, i3⟩ := x2.out)
    | (go_at_call 23; refine (format_str _ _ _ _ hv (HV.out.below (nx (nx (nxA hb1 _) hb2) (newB _ _))).1 hA).mono ?_; rintro e W3 ⟨rfl, hb3⟩; have x3 := Lib.hid ((x2.out.below (newB _ _)).below hb3); have y3 := Lib.hid ((B2.new W2 _ _ _).below hb3); clear i0 i1 i2 i3; obtain ⟨i0, i1, i2, i3⟩ := x3.out; obtain ⟨j0, j1, j2⟩ := y3.out)
    | (go_at_call 37; refine (next_is _ _ hn).mono ?_; rintro e W4 ⟨rfl, rfl⟩)
    | (go_at_call 19; refine (compareProc_is _ _ _ _ _ _ _ hc).mono ?_; rintro e W5 ⟨rfl, hb5⟩))
  go_ret
  exact ⟨rfl, nx (nx (nx (nx (nxA hb1 _) hb2) (newB _ _)) hb3) hb5⟩
end Go.Proofs.YtchffamnamhcdaaDoor
