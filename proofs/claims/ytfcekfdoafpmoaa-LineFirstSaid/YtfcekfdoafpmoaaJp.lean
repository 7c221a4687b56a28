/- Contracts of the program: Insert of lines. -/
import Derived.Test.YtfcekfdoafpmoaaJpb
import Derived.Test.YtfcekfdoafpmoaaHq
namespace Go.Proofs.Ytfcekfdoafpmoaa
open Go.RowKit
set_option linter.unusedVariables false
set_option linter.unusedSimpArgs false

set_option maxHeartbeats 4000000 in
set_option maxRecDepth 8000 in
theorem ins_err (A : Option Addr) (n c : Nat) (l : List Wt) (x y z m v p u : Int) (w : World) (hl : WRd w A l) (hn : Hid (l.length = n)) (hm : Hid (n ≤ 1000)) {code : Int} (hc : Hid (inC l ((x, y, z), (m, v), p, u) = code)) (h0 : Hid (code ≠ 0)) :
    Calls Try.prog 15 #[.slice A n c, wag x y z m v p u] w fun e w' => e = .returned (.tuple #[.slice none 0 0, .int .i64 0, .int .i64 code]) ∧ Below w.heap.size w w' := by
  have HR := Lib.hid hl
  have HB0 := Lib.hid (newB w (.cells #[.int .i64 x, .int .i64 y, .int .i64 z, .int .i64 m, .int .i64 v, .int .i64 p, .int .i64 u] 28))
  have HK0 := Lib.hid (Blk.new w [.int .i64 x, .int .i64 y, .int .i64 z, .int .i64 m, .int .i64 v, .int .i64 p, .int .i64 u] 28 rfl)
  clear hl
  by_cases hVL : VL l
  · have hvl : Hid (VL l ↔ true = true) := Lib.hid (by simp [hVL])
    cases hb : vW ((x, y, z), (m, v), p, u) with
    | false =>
      have hbw := Lib.hid hb
      have hcd : Hid (code = 1) := Lib.hid (by rw [← hc.out, inC, if_neg (by simpa using hVL), if_pos (.inl hb)])
      have hcd' := hcd.out
      subst hcd'
      clear hb hVL hc h0
      go_enter Try.func15, Try.ntmps15
      go_wp2_with (first
        | (go_at_call 13; refine (vl_is _ n c l _ (HR.out.below HB0.out) hn hm hvl).mono ?_; rintro e W1 ⟨rfl, hb1⟩; have HB1 := Lib.hid (nx HB0.out hb1); have HK1 := Lib.hid (HK0.out.up hb1 HK0.out.lt); clear hb1; have i0 := HK1.out.cell 0 rfl; have i1 := HK1.out.cell 1 rfl; have i2 := HK1.out.cell 2 rfl; have i3 := HK1.out.cell 3 rfl; have i4 := HK1.out.cell 4 rfl; have i5 := HK1.out.cell 5 rfl; have i6 := HK1.out.cell 6 rfl)
        | (go_at_call 11; refine (vw_is x y z m v p u _ hbw).mono ?_; rintro e W2 ⟨rfl, hb2⟩; have HB2 := Lib.hid (nx HB1.out hb2); have HK2 := Lib.hid (HK1.out.up hb2 HK1.out.lt); clear hb2 i0 i1 i2 i3 i4 i5 i6; have j0 := HK2.out.cell 0 rfl; have j1 := HK2.out.cell 1 rfl; have j2 := HK2.out.cell 2 rfl; have j6 := HK2.out.cell 6 rfl))
      exact bodyPost_ret (v := .tuple #[.slice none 0 0, .int .i64 0, .int .i64 1]) (by simp [results, Try.results15, go_sem]) rfl ⟨rfl, HB2.out⟩
    | true =>
      have hbw := Lib.hid hb
      by_cases hu : u = 0
      · subst hu
        obtain ⟨f, hf⟩ : ∃ f, Hid (findW l (x, y, z) = f) := ⟨_, Lib.hid rfl⟩
        have hno : ¬ (vW ((x, y, z), (m, v), p, 0) = false ∨ ((0 : Int)) ≠ 0) := by simp [hb]
        by_cases hf0 : 0 ≤ f
        · have hcd : Hid (code = 11) := Lib.hid (by rw [← hc.out, inC, if_neg (by simpa using hVL), if_neg hno, if_pos (by rw [hf.out]; exact hf0)])
          have hcd' := hcd.out
          subst hcd'
          clear hb hVL hc h0 hno
          go_enter Try.func15, Try.ntmps15
          go_wp2_with (first
            | (go_at_call 13; refine (vl_is _ n c l _ (HR.out.below HB0.out) hn hm hvl).mono ?_; rintro e W1 ⟨rfl, hb1⟩; have HB1 := Lib.hid (nx HB0.out hb1); have HK1 := Lib.hid (HK0.out.up hb1 HK0.out.lt); clear hb1; have i0 := HK1.out.cell 0 rfl; have i1 := HK1.out.cell 1 rfl; have i2 := HK1.out.cell 2 rfl; have i3 := HK1.out.cell 3 rfl; have i4 := HK1.out.cell 4 rfl; have i5 := HK1.out.cell 5 rfl; have i6 := HK1.out.cell 6 rfl)
            | (go_at_call 11; refine (vw_is x y z m v p 0 _ hbw).mono ?_; rintro e W2 ⟨rfl, hb2⟩; have HB2 := Lib.hid (nx HB1.out hb2); have HK2 := Lib.hid (HK1.out.up hb2 HK1.out.lt); clear hb2 i0 i1 i2 i3 i4 i5 i6; have j0 := HK2.out.cell 0 rfl; have j1 := HK2.out.cell 1 rfl; have j2 := HK2.out.cell 2 rfl; have j6 := HK2.out.cell 6 rfl)
            | (go_at_call 20; refine (find_is _ n c l x y z _ (HR.out.below HB2.out) hn hm hf).mono ?_; rintro e W3 ⟨rfl, hb3⟩; have HB3 := Lib.hid (nx HB2.out hb3); have HK3 := Lib.hid (HK2.out.up hb3 HK2.out.lt); clear hb3))
          exact bodyPost_ret (v := .tuple #[.slice none 0 0, .int .i64 0, .int .i64 11]) (by simp [results, Try.results15, go_sem]) rfl ⟨rfl, HB3.out⟩
        · have hn8 : (n : Int) = 8 := by
            by_cases h8 : l.length = 8
            · have := hn.out; omega
            · exfalso
              apply h0.out
              rw [← hc.out, inC, if_neg (by simpa using hVL), if_neg hno, if_neg (by rw [hf.out]; exact hf0), if_neg h8]
          have hcd : Hid (code = 4) := Lib.hid (by rw [← hc.out, inC, if_neg (by simpa using hVL), if_neg hno, if_neg (by rw [hf.out]; exact hf0), if_pos (by have := hn.out; omega)])
          have hcd' := hcd.out
          subst hcd'
          clear hb hVL hc h0 hno
          go_enter Try.func15, Try.ntmps15
          go_wp2_with (first
            | (go_at_call 13; refine (vl_is _ n c l _ (HR.out.below HB0.out) hn hm hvl).mono ?_; rintro e W1 ⟨rfl, hb1⟩; have HB1 := Lib.hid (nx HB0.out hb1); have HK1 := Lib.hid (HK0.out.up hb1 HK0.out.lt); clear hb1; have i0 := HK1.out.cell 0 rfl; have i1 := HK1.out.cell 1 rfl; have i2 := HK1.out.cell 2 rfl; have i3 := HK1.out.cell 3 rfl; have i4 := HK1.out.cell 4 rfl; have i5 := HK1.out.cell 5 rfl; have i6 := HK1.out.cell 6 rfl)
            | (go_at_call 11; refine (vw_is x y z m v p 0 _ hbw).mono ?_; rintro e W2 ⟨rfl, hb2⟩; have HB2 := Lib.hid (nx HB1.out hb2); have HK2 := Lib.hid (HK1.out.up hb2 HK1.out.lt); clear hb2 i0 i1 i2 i3 i4 i5 i6; have j0 := HK2.out.cell 0 rfl; have j1 := HK2.out.cell 1 rfl; have j2 := HK2.out.cell 2 rfl; have j6 := HK2.out.cell 6 rfl)
            | (go_at_call 20; refine (find_is _ n c l x y z _ (HR.out.below HB2.out) hn hm hf).mono ?_; rintro e W3 ⟨rfl, hb3⟩; have HB3 := Lib.hid (nx HB2.out hb3); have HK3 := Lib.hid (HK2.out.up hb3 HK2.out.lt); clear hb3))
          exact bodyPost_ret (v := .tuple #[.slice none 0 0, .int .i64 0, .int .i64 4]) (by simp [results, Try.results15, go_sem]) rfl ⟨rfl, HB3.out⟩
      · have hcd : Hid (code = 1) := Lib.hid (by rw [← hc.out, inC, if_neg (by simpa using hVL), if_pos (.inr hu)])
        have hcd' := hcd.out
        subst hcd'
        clear hb hVL hc h0
        go_enter Try.func15, Try.ntmps15
        go_wp2_with (first
          | (go_at_call 13; refine (vl_is _ n c l _ (HR.out.below HB0.out) hn hm hvl).mono ?_; rintro e W1 ⟨rfl, hb1⟩; have HB1 := Lib.hid (nx HB0.out hb1); have HK1 := Lib.hid (HK0.out.up hb1 HK0.out.lt); clear hb1; have i0 := HK1.out.cell 0 rfl; have i1 := HK1.out.cell 1 rfl; have i2 := HK1.out.cell 2 rfl; have i3 := HK1.out.cell 3 rfl; have i4 := HK1.out.cell 4 rfl; have i5 := HK1.out.cell 5 rfl; have i6 := HK1.out.cell 6 rfl)
          | (go_at_call 11; refine (vw_is x y z m v p u _ hbw).mono ?_; rintro e W2 ⟨rfl, hb2⟩; have HB2 := Lib.hid (nx HB1.out hb2); have HK2 := Lib.hid (HK1.out.up hb2 HK1.out.lt); clear hb2 i0 i1 i2 i3 i4 i5 i6; have j0 := HK2.out.cell 0 rfl; have j1 := HK2.out.cell 1 rfl; have j2 := HK2.out.cell 2 rfl; have j6 := HK2.out.cell 6 rfl))
        exact bodyPost_ret (v := .tuple #[.slice none 0 0, .int .i64 0, .int .i64 1]) (by simp [results, Try.results15, go_sem]) rfl ⟨rfl, HB2.out⟩
  · have hvl : Hid (VL l ↔ false = true) := Lib.hid (by simp [hVL])
    have hcd : Hid (code = 2) := Lib.hid (by rw [← hc.out, inC, if_pos hVL])
    have hcd' := hcd.out
    subst hcd'
    clear hVL hc h0
    go_enter Try.func15, Try.ntmps15
    go_wp2_with (first
      | (go_at_call 13; refine (vl_is _ n c l _ (HR.out.below HB0.out) hn hm hvl).mono ?_; rintro e W1 ⟨rfl, hb1⟩; have HB1 := Lib.hid (nx HB0.out hb1); have HK1 := Lib.hid (HK0.out.up hb1 HK0.out.lt); clear hb1; have i0 := HK1.out.cell 0 rfl; have i1 := HK1.out.cell 1 rfl; have i2 := HK1.out.cell 2 rfl; have i3 := HK1.out.cell 3 rfl; have i4 := HK1.out.cell 4 rfl; have i5 := HK1.out.cell 5 rfl; have i6 := HK1.out.cell 6 rfl))
    exact bodyPost_ret (v := .tuple #[.slice none 0 0, .int .i64 0, .int .i64 2]) (by simp [results, Try.results15, go_sem]) rfl ⟨rfl, HB1.out⟩
theorem wcs_set6 : ∀ (l : List Wt) (i : Nat) (u : Int), i < l.length → (wcs l).set (i * 7 + 6) (.int .i64 u) = wcs (l.set i ((l.getD i default).1, (l.getD i default).2.1, (l.getD i default).2.2.1, u))
  | [], i, u, h => by simp at h
  | p :: l, 0, u, _ => by simp [wcs]
  | p :: l, i + 1, u, h => by
    have := wcs_set6 l i u (by simpa using h)
    rw [show (i + 1) * 7 + 6 = i * 7 + 6 + 1 + 1 + 1 + 1 + 1 + 1 + 1 by omega]
    simpa [wcs] using this
/-- A store into Passed of element i of an own row. -/
theorem OwnW.passed {w : World} {base g n cap : Nat} {l : List Wt} (h : OwnW w base (.slice (some ⟨g, 0, none⟩) n cap) l) (hn : l.length = n) {i : Nat} (hi : i < n) (u : Int) :
    OwnW (w.setCell ⟨g, i * 7 + 6, none⟩ (.int .i64 u)) base (.slice (some ⟨g, 0, none⟩) n cap) (l.set i ((l.getD i default).1, (l.getD i default).2.1, (l.getD i default).2.2.1, u)) := by
  subst hn
  have h1 := (h.stored (i * 7 + 6) (.int .i64 u)).1
  unfold OwnW
  rw [List.length_set, ← wcs_set6 l i u hi]
  exact h1
theorem take_set_ge {l : List Wt} {i k : Nat} (x : Wt) (h : k ≤ i) : (l.set i x).take k = l.take k := by
  rw [List.take_set, List.set_eq_of_length_le (by rw [List.length_take]; omega)]
theorem drop_set_at {l : List Wt} {i : Nat} (x : Wt) (h : i < l.length) : (l.set i x).drop i = x :: l.drop (i + 1) := by
  rw [List.drop_eq_getElem_cons (by rw [List.length_set]; exact h), List.getElem_set_self, List.drop_set, if_pos (by omega)]
theorem putW_fin {l xs : List Wt} {w : Wt} {k : Nat} (hx : xs.length = l.length + 1) (hk : k ≤ l.length) (h1 : xs.take k = l.take k) (h2 : xs.drop (k + 1) = (l.drop k).map bump) : xs.set k w = putW l w k := by
  have h3 : xs.set k w = (xs.set k w).take k ++ (xs.set k w).drop k := (List.take_append_drop _ _).symm
  rw [h3, take_set_ge _ (Nat.le_refl _), drop_set_at _ (by omega), h1, h2]
  rfl
theorem drop_bump {l : List Wt} {k : Nat} (h : k < l.length) : (l.drop k).map bump = bump (l.getD k default) :: (l.drop (k + 1)).map bump := by
  rw [List.drop_eq_getElem_cons h, List.map_cons, List.getD_eq_getElem?_getD, List.getElem?_eq_getElem h]
  rfl
theorem keepB {w W : World} {g : Nat} {x y z m v p : Int} (hK : Blk w g [.int .i64 x, .int .i64 y, .int .i64 z, .int .i64 m, .int .i64 v, .int .i64 p, .int .i64 0]) (hW : Below w.heap.size w W) : B7 W g x y z m v p 0 := (keep7 hK hW).2
theorem keepZ {w W : World} {g o : Nat} {r : Wt} (hZ : Z7 w g o r) (hW : Below w.heap.size w W) : Z7 W g o r := hZ.below hW
abbrev wcell (x y z m v p : Int) : List Value := [.int .i64 x, .int .i64 y, .int .i64 z, .int .i64 m, .int .i64 v, .int .i64 p, .int .i64 0]
set_option maxHeartbeats 8000000 in
set_option maxRecDepth 20000 in
theorem ins_ok (A : Option Addr) (n c : Nat) (l : List Wt) (x y z m v p : Int) (w : World) (hl : WRd w A l) (hn : Hid (l.length = n)) (hm : Hid (n ≤ 1000)) (hcap : n ≤ c) (hc : Hid (inC l ((x, y, z), (m, v), p, 0) = 0)) {at_ : Nat} (hat : Hid (posW l ((x, y, z), (m, v), p, 0) = at_)) :
    Calls Try.prog 15 #[.slice A n c, wag x y z m v p 0] w fun e w' => (∃ A' c', e = .returned (.tuple #[.slice A' (n + 1) c', .int .i64 at_, .int .i64 0]) ∧ OwnW w' w.heap.size (.slice A' (n + 1) c') (putW l ((x, y, z), (m, v), p, 0) at_)) ∧ Below w.heap.size w w' := by
  have HR := Lib.hid hl
  have HB0 := Lib.hid (newB w (.cells #[.int .i64 x, .int .i64 y, .int .i64 z, .int .i64 m, .int .i64 v, .int .i64 p, .int .i64 0] 28))
  have HK0 := Lib.hid (Blk.new w (wcell x y z m v p) 28 rfl)
  have hS0 : Hid ((w.alloc (.cells #[.int .i64 x, .int .i64 y, .int .i64 z, .int .i64 m, .int .i64 v, .int .i64 p, .int .i64 0] 28)).heap.size = w.heap.size + 1) := Lib.hid (by simp)
  clear hl
  obtain ⟨h1, h2, h3, h4, h5⟩ := inC_0 hc.out
  have hvl : Hid (VL l ↔ true = true) := Lib.hid (by simp [h1])
  have hbw := Lib.hid h2
  have hf := Lib.hid h4
  have h8 : ¬ (n : Int) = 8 := by have := hn.out; omega
  have hn8 : n < 8 := by have := hn.out; omega
  have hfb : ((n : Int) == 8) = false := by simpa using h8
  have HVL := Lib.hid h1
  have h1l : Hid (([((x, y, z), (m, v), p, 0)] : List Wt).length = 1) := Lib.hid rfl
  have hsum : Hid (n + 1 ≤ 1100) := Lib.hid (by omega)
  clear h1 h2 h4 h5 hc h8
  have mixed : Try.prog.follows .mixedOrders = true := by kernel_rfl
  obtain ⟨W0, hW0⟩ : ∃ W0, Hid (w.alloc (.cells #[.int .i64 x, .int .i64 y, .int .i64 z, .int .i64 m, .int .i64 v, .int .i64 p, .int .i64 0] 28) = W0) := ⟨_, rfl⟩
  rw [hW0.out] at HB0 HK0 hS0
  go_enter Try.func15, Try.ntmps15
  go_upto_region 1 with fail
  rw [hW0.out]
  go_upto_region 9 with (first
    | (go_at_call 13; refine (vl_is _ n c l _ (HR.out.below HB0.out) hn hm hvl).mono ?_; rintro e W1 ⟨rfl, hb1⟩; have HB1 := Lib.hid hb1; have HK1 := Lib.hid (HK0.out.up hb1 HK0.out.lt); clear hb1; have i0 := HK1.out.cell 0 rfl; have i1 := HK1.out.cell 1 rfl; have i2 := HK1.out.cell 2 rfl; have i3 := HK1.out.cell 3 rfl; have i4 := HK1.out.cell 4 rfl; have i5 := HK1.out.cell 5 rfl; have i6 := HK1.out.cell 6 rfl)
    | (go_at_call 11; refine (vw_is x y z m v p 0 _ hbw).mono ?_; rintro e W2 ⟨rfl, hb2⟩; have HB2 := Lib.hid (nx HB1.out hb2); have HK2 := Lib.hid (HK1.out.up hb2 HK1.out.lt); clear hb2 i0 i1 i2 i3 i4 i5 i6; have j0 := HK2.out.cell 0 rfl; have j1 := HK2.out.cell 1 rfl; have j2 := HK2.out.cell 2 rfl; have j6 := HK2.out.cell 6 rfl)
    | (go_at_call 20; refine (find_is _ n c l x y z _ (HR.out.below (nx HB0.out HB2.out)) hn hm hf).mono ?_; rintro e W3 ⟨rfl, hb3⟩; have HB3 := Lib.hid (nx HB2.out hb3); have HK3 := Lib.hid (HK2.out.up hb3 HK2.out.lt); clear hb3 j0 j1 j2 j6; have i0 := HK3.out.cell 0 rfl; have i1 := HK3.out.cell 1 rfl; have i2 := HK3.out.cell 2 rfl; have i3 := HK3.out.cell 3 rfl; have i4 := HK3.out.cell 4 rfl; have i5 := HK3.out.cell 5 rfl; have i6 := HK3.out.cell 6 rfl))
  go_wp2_with (go_at_call 35; refine (concatW (W3.heap.size + 1) n 1 c 1 A (some ⟨W3.heap.size, 0, none⟩) l [((x, y, z), (m, v), p, 0)] _ (by simp) (by simp) (HR.out.below (nx HB0.out (nx HB3.out (new2 _ _ _)))) (WRd.one (z7_blk ((Blk.new W3 [.int .i64 x, .int .i64 y, .int .i64 z, .int .i64 m, .int .i64 v, .int .i64 p, .int .i64 0] 28 rfl).grow _))) hn h1l hsum).mono ?_; rintro e W4 ⟨V4, rfl, ho4, hb4⟩; have HO4 := Lib.hid ho4; have HB4 := Lib.hid (nx HB3.out (nx (new2 _ _ _) hb4)); clear ho4 hb4)
  obtain ⟨A4, cc, rfl, hncc, -, hA4⟩ := HO4.out.form
  have hlen4 : (l ++ [((x, y, z), (m, v), p, 0)]).length = n + 1 := by rw [List.length_append, hn.out]; rfl
  rw [hlen4] at hncc hA4 ⊢
  obtain ⟨g, rfl, hg1, hg2⟩ := hA4 (by omega)
  have HX0 : Hid (OwnW W4 w.heap.size (.slice (some ⟨g, 0, none⟩) (n + 1) cc) (l ++ [((x, y, z), (m, v), p, 0)])) := Lib.hid (by
    have h := HO4.out
    rw [hlen4] at h
    exact h.low (Nat.le_trans (Nat.le_trans HB0.out.size HB3.out.size) (new2 W3 _ _).size))
  have HGB : Hid (W0.heap.size ≤ g) := Lib.hid (Nat.le_trans HB3.out.size (Nat.le_trans (new2 W3 _ _).size hg1))
  clear HO4 hg1 hg2
  go_loopw [8] (fun i wr => ∃ (k : Nat) (xs : List Wt), k ≤ n ∧ i = .int .i64 k ∧ Hid (back l ((x, y, z), (m, v), p, 0) k = at_) ∧ Hid (xs.length = n + 1) ∧ Hid (wr.ownsRow w.heap.size 28 7 (.slice (some ⟨g, 0, none⟩) (n + 1) cc) (n + 1) (wcs xs)) ∧ Hid (xs.take k = l.take k) ∧ Hid (xs.drop (k + 1) = (l.drop k).map bump) ∧ Hid (Below W0.heap.size W0 wr)) (fun i _ => (intOf i).toNat)
  case atStart => exact ⟨n, l ++ [((x, y, z), (m, v), p, 0)], by omega, rfl, Lib.hid (by rw [← hat.out, posW, hn.out]), Lib.hid hlen4, Lib.hid (by have h := HX0.out; unfold OwnW at h; rw [hlen4] at h; exact h), Lib.hid (by rw [List.take_append_of_le_length (by rw [hn.out]; omega)]), Lib.hid (by rw [List.drop_of_length_le (by rw [hlen4]; omega), List.drop_of_length_le (by rw [hn.out]; omega)]; rfl), HB4⟩
  case round =>
    obtain ⟨k, xs, hk, rfl, hbk, hxl, hXO, hX1, hX2, hB⟩ := hrel
    have HK := Lib.hid (HK0.out.up hB.out HK0.out.lt)
    have HOX : Hid (OwnW wr w.heap.size (.slice (some ⟨g, 0, none⟩) (n + 1) cc) xs) := Lib.hid (by unfold OwnW; rw [hxl.out]; exact hXO.out)
    have hgl : g < wr.heap.size := by
      obtain ⟨A3, c3, hv, -, -, h3⟩ := HOX.out.form
      obtain ⟨g3, hA3, -, h3⟩ := h3 (by rw [hxl.out]; omega)
      injection hv with hv
      rw [← hv] at hA3
      injection hA3 with hA3
      injection hA3 with hA3
      rw [hA3]
      exact h3
    obtain ⟨WR, hWR⟩ : ∃ W, W = wr := ⟨_, rfl⟩
    subst hWR
    have i0 := fun q : NxW WR => NxW.cell (HK.out.cell 0 rfl) q
    have i1 := fun q : NxW WR => NxW.cell (HK.out.cell 1 rfl) q
    have i2 := fun q : NxW WR => NxW.cell (HK.out.cell 2 rfl) q
    have i3 := fun q : NxW WR => NxW.cell (HK.out.cell 3 rfl) q
    have i4 := fun q : NxW WR => NxW.cell (HK.out.cell 4 rfl) q
    have i5 := fun q : NxW WR => NxW.cell (HK.out.cell 5 rfl) q
    have i6 := fun q : NxW WR => NxW.cell (HK.out.cell 6 rfl) q
    by_cases hk0 : k = 0
    · have hkp : ¬ (0 : Int) < (k : Int) := by omega
      have hkd : decide (0 < k) = false := decide_eq_false (by omega)
      have hst : Hid (back l ((x, y, z), (m, v), p, 0) k = k) := Lib.hid (back_stop l ((x, y, z), (m, v), p, 0) (fun h => by omega))
      have hfin := Lib.hid (putW_fin (w := ((x, y, z), (m, v), p, 0)) (by rw [hxl.out, hn.out]) (by rw [hn.out]; exact hk) hX1.out hX2.out)
      have hk0' := Lib.hid hk0
      have hkn2 : k < n + 1 := by omega
      have hkn1 : (k : Int) < (n : Int) + 1 := by omega
      have hk00 : (0 : Int) ≤ (k : Int) := by omega
      clear hk0
      go_wp2
      refine wp_region_below mixed (by kernel_rfl) ?_
      repeat (go_big_quiet_step (fail))
      refine wpQuiet_nil ?_
      intro _ hw'
      obtain ⟨⟨W2, hb2⟩, hw''⟩ := hw'
      subst hw''
      have HB2 := Lib.hid hb2
      have HK2 := Lib.hid (HK.out.up hb2 HK.out.lt)
      have HO2 := Lib.hid (HOX.out.below hb2)
      clear hb2 i0 i1 i2 i3 i4 i5 i6
      have i0 := HK2.out.cell 0 rfl
      have i1 := HK2.out.cell 1 rfl
      have i2 := HK2.out.cell 2 rfl
      have i3 := HK2.out.cell 3 rfl
      have i4 := HK2.out.cell 4 rfl
      have i5 := HK2.out.cell 5 rfl
      have i6 := HK2.out.cell 6 rfl
      obtain ⟨⟨v1, e1⟩, ⟨v2, e2⟩, ⟨v3, e3⟩, ⟨v4, e4⟩, ⟨v5, e5⟩, ⟨v6, e6⟩, ⟨v7, e7⟩, f0⟩ := ownW_cells HO2.out hxl.out (show k < n + 1 by omega)
      have f1 := f0 (k * 7)
      have f2 := f0 (k * 7 + 1)
      have f3 := f0 (k * 7 + 2)
      have f4 := f0 (k * 7 + 3)
      have f5 := f0 (k * 7 + 4)
      have f6 := f0 (k * 7 + 5)
      have f7 := f0 (k * 7 + 6)
      have HO3 := Lib.hid (HO2.out.store hxl.out k ((x, y, z), (m, v), p, 0))
      rw [hfin.out] at HO3
      have HB3 := Lib.hid (belowW_set (hB.out.trans (HB2.out.mono hB.out.size)) HGB.out (k * 7) (.int .i64 x) (.int .i64 y) (.int .i64 z) (.int .i64 m) (.int .i64 v) (.int .i64 p) (.int .i64 0))
      have hke : Hid (k = at_) := Lib.hid (by rw [← hbk.out, hst.out])
      clear f0
      go_wp2
      refine bodyPost_ret (v := .tuple #[.slice (some ⟨g, 0, none⟩) (n + 1) cc, .int .i64 (k : Int), .int .i64 0]) (by simp [results, Try.results15, go_sem]) rfl ?_
      have hke := hke.out
      subst hke
      exact ⟨⟨_, _, rfl, HO3.out⟩, nx HB0.out HB3.out⟩
    · obtain ⟨j, hj⟩ : ∃ j, k = j + 1 := ⟨k - 1, by omega⟩
      have hj' : IntKind.i64.wrap ((k : Int) - 1) = (j : Int) := by rw [IntKind.wrap_i64]; omega
      have hjn : j < n := by omega
      obtain ⟨A3, c3, hv3, -, hrd3, -⟩ := HOX.out.form
      obtain ⟨rfl⟩ : A3 = some ⟨g, 0, none⟩ := by injection hv3 with hv3; exact hv3.symm
      clear hv3 c3
      obtain ⟨g', o, a1, a2, a3, a4, a5, a6, a7, hA', hg', hx, c1, c2, c3, c4, c5, c6, c7⟩ := hrd3.at_ (i := j) (by rw [hxl.out]; omega)
      obtain ⟨rfl, rfl⟩ : g = g' ∧ 0 = o := by simpa using hA'
      clear hA' hrd3
      simp only [Nat.zero_add] at c1 c2 c3 c4 c5 c6 c7
      have hlx : Hid (l.getD j default = ((a1, a2, a3), (a4, a5), a6, a7)) := Lib.hid (by
        have h1 := congrArg (fun t => t.getD j default) hX1.out
        simp only [getD_takeW (show j < k by omega)] at h1
        rw [← h1]
        exact hx.out)
      have hu : 0 ≤ a7 ∧ a7 ≤ 3 := by
        have h1 := vW_num (HVL.out.2.1 _ (getD_memW (l := l) (i := j) (by have := hn.out; omega)))
        rw [hlx.out] at h1
        exact h1.2.2
      have d1 := fun q : NxW WR => NxW.cell c1 q
      have d2 := fun q : NxW WR => NxW.cell c2 q
      have d3 := fun q : NxW WR => NxW.cell c3 q
      have d4 := fun q : NxW WR => NxW.cell c4 q
      have d5 := fun q : NxW WR => NxW.cell c5 q
      have d6 := fun q : NxW WR => NxW.cell c6 q
      have d7 := fun q : NxW WR => NxW.cell c7 q
      clear c1 c2 c3 c4 c5 c6 c7
      have hkp : (0 : Int) < (k : Int) := by omega
      have hkpn : 0 < k := by omega
      have hkpd : decide (0 < k) = true := decide_eq_true hkpn
      have hjn1 : (j : Int) < (n : Int) + 1 := by omega
      have hj0 : (0 : Int) ≤ (j : Int) := by omega
      have hjn2 : j < n + 1 := by omega
      have hkn2 : k < n + 1 := by omega
      have hk00 : (0 : Int) ≤ (k : Int) := by omega
      have hkn1 : (k : Int) < (n : Int) + 1 := by omega
      obtain ⟨β, hβ⟩ : ∃ β, Hid (ovr ((a1, a2, a3), (a4, a5), a6, a7) ((x, y, z), (m, v), p, 0) = β) := ⟨_, Lib.hid rfl⟩
      cases β with
      | false =>
        have HC := Lib.hid (fun q : NxW WR => Calls.nx_of q (compare_no x y z m v p 0 a1 a2 a3 a4 a5 a6 a7 q.W hβ))
        have hst : Hid (back l ((x, y, z), (m, v), p, 0) k = k) := Lib.hid (back_stop l ((x, y, z), (m, v), p, 0) (fun _ => by rw [show k - 1 = j by omega, hlx.out]; exact hβ.out))
        have hfin := Lib.hid (putW_fin (w := ((x, y, z), (m, v), p, 0)) (by rw [hxl.out, hn.out]) (by rw [hn.out]; exact hk) hX1.out hX2.out)
        have hj2 := Lib.hid hj
        clear hj
        go_wp2
        refine wp_region_below mixed (by kernel_rfl) ?_
        repeat (go_big_quiet_step (first
          | (go_at_call 36; exact HC.out _)))
        refine wpQuiet_nil ?_
        intro _ hw'
        obtain ⟨⟨W2, hb2⟩, hw''⟩ := hw'
        subst hw''
        have HB2 := Lib.hid hb2
        have HK2 := Lib.hid (HK.out.up hb2 HK.out.lt)
        have HO2 := Lib.hid (HOX.out.below hb2)
        clear hb2 i0 i1 i2 i3 i4 i5 i6
        have i0 := HK2.out.cell 0 rfl
        have i1 := HK2.out.cell 1 rfl
        have i2 := HK2.out.cell 2 rfl
        have i3 := HK2.out.cell 3 rfl
        have i4 := HK2.out.cell 4 rfl
        have i5 := HK2.out.cell 5 rfl
        have i6 := HK2.out.cell 6 rfl
        obtain ⟨⟨v1, e1⟩, ⟨v2, e2⟩, ⟨v3, e3⟩, ⟨v4, e4⟩, ⟨v5, e5⟩, ⟨v6, e6⟩, ⟨v7, e7⟩, f0⟩ := ownW_cells HO2.out hxl.out (show k < n + 1 by omega)
        have f1 := f0 (k * 7)
        have f2 := f0 (k * 7 + 1)
        have f3 := f0 (k * 7 + 2)
        have f4 := f0 (k * 7 + 3)
        have f5 := f0 (k * 7 + 4)
        have f6 := f0 (k * 7 + 5)
        have f7 := f0 (k * 7 + 6)
        have HO3 := Lib.hid (HO2.out.store hxl.out k ((x, y, z), (m, v), p, 0))
        rw [hfin.out] at HO3
        have HB3 := Lib.hid (belowW_set (hB.out.trans (HB2.out.mono hB.out.size)) HGB.out (k * 7) (.int .i64 x) (.int .i64 y) (.int .i64 z) (.int .i64 m) (.int .i64 v) (.int .i64 p) (.int .i64 0))
        have hke : Hid (k = at_) := Lib.hid (by rw [← hbk.out, hst.out])
        clear f0
        go_wp2
        refine bodyPost_ret (v := .tuple #[.slice (some ⟨g, 0, none⟩) (n + 1) cc, .int .i64 (k : Int), .int .i64 0]) (by simp [results, Try.results15, go_sem]) rfl ?_
        have hke := hke.out
        subst hke
        exact ⟨⟨_, _, rfl, HO3.out⟩, nx HB0.out HB3.out⟩
      | true =>
        have HC := Lib.hid (fun q : NxW WR => Calls.nx_of q (compare_yes x y z m v p 0 a1 a2 a3 a4 a5 a6 a7 q.W hβ))
        have hbk2 : Hid (back l ((x, y, z), (m, v), p, 0) j = at_) := Lib.hid (by
          have h := hbk.out
          rw [hj, back_go l _ (by rw [hlx.out]; exact hβ.out)] at h
          exact h)
        have hu3 : a7 < 3 := (of_decide_eq_true hβ.out).2
        have e8 : IntKind.i64.wrap (a7 + 1) = a7 + 1 := by rw [IntKind.wrap_i64]; omega
        have hj2 := Lib.hid hj
        clear hj
        go_wp2
        refine wp_region_below mixed (by kernel_rfl) ?_
        repeat (go_big_quiet_step (first
          | (go_at_call 36; exact HC.out _)))
        refine wpQuiet_nil ?_
        intro _ hw'
        obtain ⟨⟨W2, hb2⟩, hw''⟩ := hw'
        subst hw''
        have HB2 := Lib.hid hb2
        have HO2 := Lib.hid (HOX.out.below hb2)
        have b1 := d1 ⟨_, hb2⟩
        have b2 := d2 ⟨_, hb2⟩
        have b3 := d3 ⟨_, hb2⟩
        have b4 := d4 ⟨_, hb2⟩
        have b5 := d5 ⟨_, hb2⟩
        have b6 := d6 ⟨_, hb2⟩
        have b7 := d7 ⟨_, hb2⟩
        dsimp only at b1 b2 b3 b4 b5 b6 b7
        clear hb2 i0 i1 i2 i3 i4 i5 i6 d1 d2 d3 d4 d5 d6 d7
        obtain ⟨⟨v1, e1⟩, ⟨v2, e2⟩, ⟨v3, e3⟩, ⟨v4, e4⟩, ⟨v5, e5⟩, ⟨v6, e6⟩, ⟨v7, e7⟩, f0⟩ := ownW_cells HO2.out hxl.out (show k < n + 1 by omega)
        have f1 := f0 (k * 7)
        have f2 := f0 (k * 7 + 1)
        have f3 := f0 (k * 7 + 2)
        have f4 := f0 (k * 7 + 3)
        have f5 := f0 (k * 7 + 4)
        have f6 := f0 (k * 7 + 5)
        have f7 := f0 (k * 7 + 6)
        have HO3 := Lib.hid ((HO2.out.store hxl.out k ((a1, a2, a3), (a4, a5), a6, a7)).passed (by rw [List.length_set]; exact hxl.out) (show k < n + 1 by omega) (a7 + 1))
        have HB3 := Lib.hid ((belowW_set (hB.out.trans (HB2.out.mono hB.out.size)) HGB.out (k * 7) (.int .i64 a1) (.int .i64 a2) (.int .i64 a3) (.int .i64 a4) (.int .i64 a5) (.int .i64 a6) (.int .i64 a7)).setCell (p := ⟨g, k * 7 + 6, none⟩) HGB.out (.int .i64 (a7 + 1)))
        have hgx : (xs.set k ((a1, a2, a3), (a4, a5), a6, a7)).getD k default = ((a1, a2, a3), (a4, a5), a6, a7) := by
          rw [List.getD_eq_getElem?_getD, List.getElem?_set_self (by rw [hxl.out]; omega)]
          rfl
        rw [hgx, List.set_set] at HO3
        clear f0 hgx
        have HXL : Hid ((xs.set k ((a1, a2, a3), (a4, a5), a6, a7 + 1)).length = n + 1) := Lib.hid (by rw [List.length_set]; exact hxl.out)
        have hjk : j < k := by have := hj2.out; omega
        have HXT : Hid ((xs.set k ((a1, a2, a3), (a4, a5), a6, a7 + 1)).take j = l.take j) := Lib.hid (by
          have h := congrArg (List.take j) hX1.out
          rw [List.take_take, List.take_take, Nat.min_eq_left (by omega)] at h
          rw [take_set_ge _ (by omega), h])
        have HXD : Hid ((xs.set k ((a1, a2, a3), (a4, a5), a6, a7 + 1)).drop (j + 1) = (l.drop j).map bump) := Lib.hid (by
          rw [drop_bump (by rw [hn.out]; exact hjn), hlx.out, ← hj2.out, drop_set_at _ (by rw [hxl.out]; omega), hX2.out]
          rfl)
        go_wp2
        refine ⟨⟨j, xs.set k ((a1, a2, a3), (a4, a5), a6, a7 + 1), by omega, rfl, hbk2, HXL, Lib.hid ?_, HXT, HXD, HB3⟩, by simp [intOf]; omega⟩
        have h := HO3.out
        unfold OwnW at h
        rw [HXL.out] at h
        exact h
end Go.Proofs.Ytfcekfdoafpmoaa
