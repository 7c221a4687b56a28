/- The reference's ParseProc walked. -/
import Derived.Test.YtchffamnamhcdaaDoorIrsplitW
import Derived.Test.YtchffamnamhcdaaDoorIb
namespace Go.Proofs.YtchffamnamhcdaaDoor
set_option linter.unusedVariables false
open Go.RowKit

theorem numIs_ex (l : List UInt8) : ∃ n r, Hid (NumIs l n r) := by
  cases h : numO l with
  | none => exact ⟨_, _, .inl ⟨h, rfl, rfl⟩⟩
  | some v => exact ⟨_, _, .inr ⟨v, h, rfl, rfl⟩⟩
theorem NumIs.uniq {l : List UInt8} {n m : Int} {r q : Bool} (h : NumIs l n r) (k : NumIs l m q) : n = m ∧ r = q := by
  rcases h with ⟨h1, rfl, rfl⟩ | ⟨v, h1, rfl, rfl⟩ <;> rcases k with ⟨k1, rfl, rfl⟩ | ⟨u, k1, rfl, rfl⟩
  · exact ⟨rfl, rfl⟩
  · rw [h1] at k1; cases k1
  · rw [h1] at k1; cases k1
  · rw [h1] at k1; injection k1 with k1; subst k1; exact ⟨rfl, rfl⟩
theorem number_is (x : List UInt8) (w : World) {n : Int} {r : Bool} (h : Hid (NumIs x n r)) :
    Calls Tryd.prog 49 #[.string (mkB x)] w fun e w' => e = .returned (.tuple #[.int .i64 n, .bool r]) ∧ Below w.heap.size w w' :=
  (number_any (mkB x) w).mono fun e w' ⟨m, q, he, hm, hb⟩ => by
    rw [mkB_data] at hm
    obtain ⟨rfl, rfl⟩ := hm.uniq h.out
    exact ⟨he, hb⟩
theorem split_three (s : ByteArray) (hs : Hid (s.size ≤ 20)) (w : World) {x y z : List UInt8} (h : Hid (spl s.data.toList = ([x, y], z))) :
    Calls Tryd.prog 48 #[.string s, .int .u8 46] w fun e w' => ∃ g cap, e = .returned (.slice (some ⟨g, 0, none⟩) 3 cap) ∧ B3 w' g (.string (mkB x)) (.string (mkB y)) (.string (mkB z)) ∧ Below w.heap.size w w' :=
  (split_walk s hs.out w).mono fun e w' ⟨g, m, cap, he, hm, ho, hb⟩ => by
    rw [h.out] at hm ho
    obtain rfl : m = 2 := hm
    exact ⟨g, cap, he, ⟨(ho.lt g rfl).2, by rw [ho.cellAt 0 (by omega)]; rfl, by rw [ho.cellAt 1 (by omega)]; rfl, by rw [ho.cellAt 2 (by omega)]; rfl⟩, hb⟩
theorem split_other (s : ByteArray) (hs : Hid (s.size ≤ 20)) (w : World) (h : Hid (¬ (spl s.data.toList).1.length = 2)) :
    Calls Tryd.prog 48 #[.string s, .int .u8 46] w fun e w' => ∃ g n cap, e = .returned (.slice (some ⟨g, 0, none⟩) n cap) ∧ ¬ (n : Int) = 3 ∧ Below w.heap.size w w' :=
  (split_walk s hs.out w).mono fun e w' ⟨g, m, cap, he, hm, ho, hb⟩ => ⟨g, m + 1, cap, he, by have := h.out; omega, hb⟩

/-- The worlds while the reference reads: the result and the pieces. -/
def PQ (w W : World) (g : Nat) (x y z : List UInt8) : Prop :=
  Below w.heap.size w W ∧ R3 W w.heap.size (.int .i64 0) (.int .i64 0) (.int .i64 0) ∧ B3 W g (.string (mkB x)) (.string (mkB y)) (.string (mkB z))
theorem PQ.below {w W W' : World} {g : Nat} {x y z : List UInt8} (h : PQ w W g x y z) (hb : Below W.heap.size W W') : PQ w W' g x y z := ⟨nx h.1 hb, h.2.1.below hb, h.2.2.below hb⟩
theorem PQ.facts {w W : World} {g : Nat} {x y z : List UInt8} (h : PQ w W g x y z) :
    (w.heap.size < W.heap.size ∧ W.cell? ⟨w.heap.size, 0, none⟩ = some (.int .i64 0) ∧ W.cell? ⟨w.heap.size, 1, none⟩ = some (.int .i64 0) ∧ W.cell? ⟨w.heap.size, 2, none⟩ = some (.int .i64 0)) ∧ (∀ o, W.frozen? ⟨w.heap.size, o, none⟩ = false) ∧
    (g < W.heap.size ∧ W.cell? ⟨g, 0, none⟩ = some (.string (mkB x)) ∧ W.cell? ⟨g, 1, none⟩ = some (.string (mkB y)) ∧ W.cell? ⟨g, 2, none⟩ = some (.string (mkB z))) := ⟨h.2.1.1, h.2.1.2, h.2.2⟩

set_option maxHeartbeats 2000000 in
set_option maxRecDepth 8000 in
theorem refParse_any (s : ByteArray) (w : World) : Calls Tryd.prog 26 #[.string s] w (Parses s.data.toList w) := by
  have ss : s.data.toList.length = s.size := by simp
  by_cases hs : 20 < (s.size : Int)
  · have hno : Hid (∀ x y z, ¬ PText s.data.toList x y z) := fun x y z h => by
      have := fmtP_len h.1
      rw [← h.2] at this
      omega
    clear ss
    go_enter Tryd.func26, Tryd.ntmps26
    go_wp2
    exact bodyPost_ret (v := ParseV 0 0 0 false) (by simp [ParseV, results, Tryd.results26, go_sem]) rfl (parses_no hno.out (newB _ _))
  · have hs2 : Hid (s.size ≤ 20) := by show _ ≤ _; omega
    clear ss
    by_cases h2 : (spl s.data.toList).1.length = 2
    · obtain ⟨x, y, z, hc⟩ : ∃ x y z, Hid (spl s.data.toList = ([x, y], z)) := by
        rcases he : spl s.data.toList with ⟨l, z⟩
        rw [he] at h2
        match l, h2 with
        | [x, y], _ => exact ⟨x, y, z, rfl⟩
      clear h2
      obtain ⟨a, ra, ha⟩ := numIs_ex x
      obtain ⟨b, rb, hb⟩ := numIs_ex y
      obtain ⟨c, rc, hc'⟩ := numIs_ex z
      have HP : Hid (∀ u v t, PText s.data.toList u v t → (ra = true ∧ a = u) ∧ (rb = true ∧ b = v) ∧ (rc = true ∧ c = t)) := fun u v t h => by
        have hv := vpB_true h.1
        have e := hc.out
        rw [h.2, spl_fmt h.1] at e
        simp only [Prod.mk.injEq, List.cons.injEq, and_true] at e
        obtain ⟨⟨e1, e2⟩, e3⟩ := e
        have k : ∀ {l : List UInt8} {n : Int} {r : Bool} {u : Int}, 0 ≤ u → u < 1000 → dec u.toNat = l → NumIs l n r → r = true ∧ n = u := fun {l n r u} h0 h1 he h => by
          obtain ⟨k1, k2⟩ := h.uniq (.inr ⟨u.toNat, by rw [← he]; exact numO_dec (by omega), rfl, rfl⟩)
          exact ⟨k2, by rw [k1]; omega⟩
        exact ⟨k (by omega) (by omega) e1 ha.out, k (by omega) (by omega) e2 hb.out, k (by omega) (by omega) e3 hc'.out⟩
      obtain ⟨q, hq⟩ : ∃ q, Hid (vpB a b c = q) := ⟨_, rfl⟩
      have HR : (Hid ((∀ u v t, ¬ PText s.data.toList u v t)) ∧ (ra = false ∨ (ra = true ∧ rb = false) ∨ (ra = true ∧ rb = true ∧ rc = false) ∨ (ra = true ∧ rb = true ∧ rc = true ∧ q = false))) ∨ (Hid (PText s.data.toList a b c) ∧ ra = true ∧ rb = true ∧ rc = true ∧ q = true) := by
        cases ra
        · exact .inl ⟨fun u v t h => (by cases (HP.out u v t h).1.1), .inl rfl⟩
        · cases rb
          · exact .inl ⟨fun u v t h => (by cases (HP.out u v t h).2.1.1), .inr (.inl ⟨rfl, rfl⟩)⟩
          · cases rc
            · exact .inl ⟨fun u v t h => (by cases (HP.out u v t h).2.2.1), .inr (.inr (.inl ⟨rfl, rfl, rfl⟩))⟩
            · cases q
              · refine .inl ⟨fun u v t h => ?_, .inr (.inr (.inr ⟨rfl, rfl, rfl, rfl⟩))⟩
                obtain ⟨⟨_, rfl⟩, ⟨_, rfl⟩, ⟨_, rfl⟩⟩ := HP.out u v t h
                have := h.1
                rw [hq.out] at this
                cases this
              · refine .inr ⟨⟨hq.out, ?_⟩, rfl, rfl, rfl, rfl⟩
                have e := jn_spl s.data.toList
                rw [hc.out] at e
                rcases ha.out with ⟨_, _, h⟩ | ⟨u, h1, rfl, _⟩
                · cases h
                rcases hb.out with ⟨_, _, h⟩ | ⟨v, h2, rfl, _⟩
                · cases h
                rcases hc'.out with ⟨_, _, h⟩ | ⟨t, h3, rfl, _⟩
                · cases h
                rw [← e, fmtP]
                simp only [Int.toNat_natCast]
                rw [← numO_some h1, ← numO_some h2, ← numO_some h3]
                simp [jn]
      clear HP
      rcases HR with ⟨hno, rfl | ⟨rfl, rfl⟩ | ⟨rfl, rfl, rfl⟩ | ⟨rfl, rfl, rfl, rfl⟩⟩ | ⟨hp, rfl, rfl, rfl, rfl⟩
      all_goals
        go_enter Tryd.func26, Tryd.ntmps26
        go_wp2_with (first
          | (go_at_call 48; refine (split_three s hs2 _ hc).mono ?_; rintro e W1 ⟨g, cap, rfl, hg, hb1⟩; have x1 : Hid (PQ w W1 g x y z) := ⟨nx (newB w _) hb1, (R3.new w _ _ _ _).below hb1, hg⟩; clear hg; obtain ⟨⟨f0, f1, f2, f3⟩, fz, ⟨p0, p1, p2, p3⟩⟩ := x1.out.facts)
          | (go_at_call 49; (with_reducible refine (number_is x _ ha).mono ?_); rintro e W2 ⟨rfl, hb2⟩; have x2 := Lib.hid (x1.out.below hb2); clear ha f0 f1 f2 f3 fz p0 p1 p2 p3; obtain ⟨⟨f0, f1, f2, f3⟩, fz, ⟨p0, p1, p2, p3⟩⟩ := x2.out.facts)
          | (go_at_call 49; (with_reducible refine (number_is y _ hb).mono ?_); rintro e W3 ⟨rfl, hb3⟩; have x3 := Lib.hid (x2.out.below hb3); clear hb f0 f1 f2 f3 fz p0 p1 p2 p3; obtain ⟨⟨f0, f1, f2, f3⟩, fz, ⟨p0, p1, p2, p3⟩⟩ := x3.out.facts)
          | (go_at_call 49; (with_reducible refine (number_is z _ hc').mono ?_); rintro e W4 ⟨rfl, hb4⟩; have x4 := Lib.hid (x3.out.below hb4); clear f0 f1 f2 f3 fz p0 p1 p2 p3; obtain ⟨⟨f0, f1, f2, f3⟩, fz, ⟨p0, p1, p2, p3⟩⟩ := x4.out.facts)
          | (go_at_call 16; refine (refValid_b _ _ _ _ hq).mono ?_; rintro e W5 ⟨rfl, hb5⟩; have x5 := Lib.hid ((x4.out.below (newB _ _)).below hb5); have y5 := Lib.hid ((B3.new W4 _ _ _ _).below hb5); clear f0 f1 f2 f3 fz p0 p1 p2 p3; obtain ⟨⟨f0, f1, f2, f3⟩, fz, ⟨p0, p1, p2, p3⟩⟩ := x5.out.facts; obtain ⟨j0, j1, j2, j3⟩ := y5.out))
        first
          | exact bodyPost_ret (v := ParseV a b c true) (by simp [ParseV, results, Tryd.results26, go_sem, f1, f2, f3]) rfl ⟨a, b, c, true, rfl, .inl ⟨rfl, hp.out⟩, ((x5.out.1.setCell (Nat.le_refl _) _).setCell (Nat.le_refl _) _).setCell (Nat.le_refl _) _⟩
          | exact bodyPost_ret (v := ParseV 0 0 0 false) (by simp [ParseV, results, Tryd.results26, go_sem, f1, f2, f3]) rfl (parses_no hno.out (((x5.out.1.setCell (Nat.le_refl _) _).setCell (Nat.le_refl _) _).setCell (Nat.le_refl _) _))
          | exact bodyPost_ret (v := ParseV 0 0 0 false) (by simp [ParseV, results, Tryd.results26, go_sem, f0, f1, f2, f3]) rfl (parses_no hno.out (nxA (((x4.out.1.setCell (Nat.le_refl _) _).setCell (Nat.le_refl _) _).setCell (Nat.le_refl _) _) _))
    · have h3 := Lib.hid h2
      clear h2
      have hno : Hid (∀ x y z, ¬ PText s.data.toList x y z) := fun x y z h => h3.out (by rw [h.2, spl_fmt h.1]; rfl)
      go_enter Tryd.func26, Tryd.ntmps26
      go_wp2_with (go_at_call 48; refine (split_other s hs2 _ h3).mono ?_; rintro e W1 ⟨g, n, cap, rfl, hn3, hb1⟩; have x1 := Lib.hid ((R3.new w _ _ _ _).below hb1); obtain ⟨⟨f0, f1, f2, f3⟩, fz⟩ := x1.out)
      exact bodyPost_ret (v := ParseV 0 0 0 false) (by simp [ParseV, results, Tryd.results26, go_sem, f1, f2, f3]) rfl (parses_no hno.out ((((nx (newB w _) hb1).setCell (Nat.le_refl _) _).setCell (Nat.le_refl _) _).setCell (Nat.le_refl _) _))
end Go.Proofs.YtchffamnamhcdaaDoor
