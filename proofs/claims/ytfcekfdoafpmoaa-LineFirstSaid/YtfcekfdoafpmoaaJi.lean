/- Contracts of the reference: Insert of a line. -/
import Derived.Test.YtfcekfdoafpmoaaJw
import Derived.Deep.AppendLies
namespace Go.Proofs.Ytfcekfdoafpmoaa
open Go.RowKit
open Go.Sort (grow)
set_option linter.unusedVariables false
set_option linter.unusedSimpArgs false

theorem inC_0 {l : List Wt} {w : Wt} (h : inC l w = 0) : VL l ∧ vW w = true ∧ w.2.2.2 = 0 ∧ findW l w.1 = -1 ∧ l.length < 8 := by
  unfold inC at h
  split at h
  · cases h
  · rename_i hv
    have hv := Decidable.of_not_not hv
    split at h
    · cases h
    · rename_i hw
      split at h
      · cases h
      · rename_i hf
        split at h
        · cases h
        · rename_i h8
          have h1 := findW_ge l w.1
          have h2 := hv.1
          refine ⟨hv, ?_, ?_, by omega, by omega⟩
          · cases hx : vW w
            · exact absurd (Or.inl hx) hw
            · rfl
          · exact Decidable.byContradiction fun hx => hw (Or.inr hx)
set_option maxHeartbeats 4000000 in
set_option maxRecDepth 8000 in
theorem refIns_err (A : Option Addr) (n c : Nat) (l : List Wt) (x y z m v p u : Int) (w : World) (hl : WRd w A l) (hn : Hid (l.length = n)) (hm : Hid (n ≤ 1000)) {code : Int} (hc : Hid (inC l ((x, y, z), (m, v), p, u) = code)) (h0 : Hid (code ≠ 0)) :
    Calls Try.prog 16 #[.slice A n c, wag x y z m v p u] w fun e w' => e = .returned (.tuple #[.slice none 0 0, .int .i64 0, .int .i64 code]) ∧ Below w.heap.size w w' := by
  have HR := Lib.hid hl
  have HB0 := Lib.hid (newB w (.cells #[.int .i64 x, .int .i64 y, .int .i64 z, .int .i64 m, .int .i64 v, .int .i64 p, .int .i64 u] 28))
  have HK0 := Lib.hid (Blk.new w [.int .i64 x, .int .i64 y, .int .i64 z, .int .i64 m, .int .i64 v, .int .i64 p, .int .i64 u] 28 rfl)
  clear hl
  by_cases hVL : VL l
  · have hvl : Hid (VL l ↔ true = true) := Lib.hid (by simp [hVL])
    cases hb : vW ((x, y, z), (m, v), p, u) with
    | false =>
      have hbw := Lib.hid hb
      have hcd : Hid (code = 1) := Lib.hid (by rw [← hc.out, inC, if_neg (by simpa using hVL), if_pos (.inl hb)])
      have hcd' := hcd.out
      subst hcd'
      clear hb hVL hc h0
      go_enter Try.func16, Try.ntmps16
      go_wp2_with (first
        | (go_at_call 14; refine (refVL_is _ n c l _ (HR.out.below HB0.out) hn hm hvl).mono ?_; rintro e W1 ⟨rfl, hb1⟩; have HB1 := Lib.hid (nx HB0.out hb1); have HK1 := Lib.hid (HK0.out.up hb1 HK0.out.lt); clear hb1; have i0 := HK1.out.cell 0 rfl; have i1 := HK1.out.cell 1 rfl; have i2 := HK1.out.cell 2 rfl; have i3 := HK1.out.cell 3 rfl; have i4 := HK1.out.cell 4 rfl; have i5 := HK1.out.cell 5 rfl; have i6 := HK1.out.cell 6 rfl)
        | (go_at_call 12; refine (refVW_is x y z m v p u _ hbw).mono ?_; rintro e W2 ⟨rfl, hb2⟩; have HB2 := Lib.hid (nx HB1.out hb2); have HK2 := Lib.hid (HK1.out.up hb2 HK1.out.lt); clear hb2 i0 i1 i2 i3 i4 i5 i6; have j0 := HK2.out.cell 0 rfl; have j1 := HK2.out.cell 1 rfl; have j2 := HK2.out.cell 2 rfl; have j6 := HK2.out.cell 6 rfl))
      exact bodyPost_ret (v := .tuple #[.slice none 0 0, .int .i64 0, .int .i64 1]) (by simp [results, Try.results16, go_sem]) rfl ⟨rfl, HB2.out⟩
    | true =>
      have hbw := Lib.hid hb
      by_cases hu : u = 0
      · subst hu
        obtain ⟨f, hf⟩ : ∃ f, Hid (findW l (x, y, z) = f) := ⟨_, Lib.hid rfl⟩
        have hno : ¬ (vW ((x, y, z), (m, v), p, 0) = false ∨ ((0 : Int)) ≠ 0) := by simp [hb]
        by_cases hf0 : 0 ≤ f
        · have hcd : Hid (code = 11) := Lib.hid (by rw [← hc.out, inC, if_neg (by simpa using hVL), if_neg hno, if_pos (by rw [hf.out]; exact hf0)])
          have hcd' := hcd.out
          subst hcd'
          clear hb hVL hc h0 hno
          go_enter Try.func16, Try.ntmps16
          go_wp2_with (first
            | (go_at_call 14; refine (refVL_is _ n c l _ (HR.out.below HB0.out) hn hm hvl).mono ?_; rintro e W1 ⟨rfl, hb1⟩; have HB1 := Lib.hid (nx HB0.out hb1); have HK1 := Lib.hid (HK0.out.up hb1 HK0.out.lt); clear hb1; have i0 := HK1.out.cell 0 rfl; have i1 := HK1.out.cell 1 rfl; have i2 := HK1.out.cell 2 rfl; have i3 := HK1.out.cell 3 rfl; have i4 := HK1.out.cell 4 rfl; have i5 := HK1.out.cell 5 rfl; have i6 := HK1.out.cell 6 rfl)
            | (go_at_call 12; refine (refVW_is x y z m v p 0 _ hbw).mono ?_; rintro e W2 ⟨rfl, hb2⟩; have HB2 := Lib.hid (nx HB1.out hb2); have HK2 := Lib.hid (HK1.out.up hb2 HK1.out.lt); clear hb2 i0 i1 i2 i3 i4 i5 i6; have j0 := HK2.out.cell 0 rfl; have j1 := HK2.out.cell 1 rfl; have j2 := HK2.out.cell 2 rfl; have j6 := HK2.out.cell 6 rfl)
            | (go_at_call 21; refine (refFind_is _ n c l x y z _ (HR.out.below HB2.out) hn hm hf).mono ?_; rintro e W3 ⟨rfl, hb3⟩; have HB3 := Lib.hid (nx HB2.out hb3); have HK3 := Lib.hid (HK2.out.up hb3 HK2.out.lt); clear hb3))
          exact bodyPost_ret (v := .tuple #[.slice none 0 0, .int .i64 0, .int .i64 11]) (by simp [results, Try.results16, go_sem]) rfl ⟨rfl, HB3.out⟩
        · have hn8 : (n : Int) = 8 := by
            by_cases h8 : l.length = 8
            · have := hn.out; omega
            · exfalso
              apply h0.out
              rw [← hc.out, inC, if_neg (by simpa using hVL), if_neg hno, if_neg (by rw [hf.out]; exact hf0), if_neg h8]
          have hcd : Hid (code = 4) := Lib.hid (by rw [← hc.out, inC, if_neg (by simpa using hVL), if_neg hno, if_neg (by rw [hf.out]; exact hf0), if_pos (by have := hn.out; omega)])
          have hcd' := hcd.out
          subst hcd'
          clear hb hVL hc h0 hno
          go_enter Try.func16, Try.ntmps16
          go_wp2_with (first
            | (go_at_call 14; refine (refVL_is _ n c l _ (HR.out.below HB0.out) hn hm hvl).mono ?_; rintro e W1 ⟨rfl, hb1⟩; have HB1 := Lib.hid (nx HB0.out hb1); have HK1 := Lib.hid (HK0.out.up hb1 HK0.out.lt); clear hb1; have i0 := HK1.out.cell 0 rfl; have i1 := HK1.out.cell 1 rfl; have i2 := HK1.out.cell 2 rfl; have i3 := HK1.out.cell 3 rfl; have i4 := HK1.out.cell 4 rfl; have i5 := HK1.out.cell 5 rfl; have i6 := HK1.out.cell 6 rfl)
            | (go_at_call 12; refine (refVW_is x y z m v p 0 _ hbw).mono ?_; rintro e W2 ⟨rfl, hb2⟩; have HB2 := Lib.hid (nx HB1.out hb2); have HK2 := Lib.hid (HK1.out.up hb2 HK1.out.lt); clear hb2 i0 i1 i2 i3 i4 i5 i6; have j0 := HK2.out.cell 0 rfl; have j1 := HK2.out.cell 1 rfl; have j2 := HK2.out.cell 2 rfl; have j6 := HK2.out.cell 6 rfl)
            | (go_at_call 21; refine (refFind_is _ n c l x y z _ (HR.out.below HB2.out) hn hm hf).mono ?_; rintro e W3 ⟨rfl, hb3⟩; have HB3 := Lib.hid (nx HB2.out hb3); have HK3 := Lib.hid (HK2.out.up hb3 HK2.out.lt); clear hb3))
          exact bodyPost_ret (v := .tuple #[.slice none 0 0, .int .i64 0, .int .i64 4]) (by simp [results, Try.results16, go_sem]) rfl ⟨rfl, HB3.out⟩
      · have hcd : Hid (code = 1) := Lib.hid (by rw [← hc.out, inC, if_neg (by simpa using hVL), if_pos (.inr hu)])
        have hcd' := hcd.out
        subst hcd'
        clear hb hVL hc h0
        go_enter Try.func16, Try.ntmps16
        go_wp2_with (first
          | (go_at_call 14; refine (refVL_is _ n c l _ (HR.out.below HB0.out) hn hm hvl).mono ?_; rintro e W1 ⟨rfl, hb1⟩; have HB1 := Lib.hid (nx HB0.out hb1); have HK1 := Lib.hid (HK0.out.up hb1 HK0.out.lt); clear hb1; have i0 := HK1.out.cell 0 rfl; have i1 := HK1.out.cell 1 rfl; have i2 := HK1.out.cell 2 rfl; have i3 := HK1.out.cell 3 rfl; have i4 := HK1.out.cell 4 rfl; have i5 := HK1.out.cell 5 rfl; have i6 := HK1.out.cell 6 rfl)
          | (go_at_call 12; refine (refVW_is x y z m v p u _ hbw).mono ?_; rintro e W2 ⟨rfl, hb2⟩; have HB2 := Lib.hid (nx HB1.out hb2); have HK2 := Lib.hid (HK1.out.up hb2 HK1.out.lt); clear hb2 i0 i1 i2 i3 i4 i5 i6; have j0 := HK2.out.cell 0 rfl; have j1 := HK2.out.cell 1 rfl; have j2 := HK2.out.cell 2 rfl; have j6 := HK2.out.cell 6 rfl))
        exact bodyPost_ret (v := .tuple #[.slice none 0 0, .int .i64 0, .int .i64 1]) (by simp [results, Try.results16, go_sem]) rfl ⟨rfl, HB2.out⟩
  · have hvl : Hid (VL l ↔ false = true) := Lib.hid (by simp [hVL])
    have hcd : Hid (code = 2) := Lib.hid (by rw [← hc.out, inC, if_pos hVL])
    have hcd' := hcd.out
    subst hcd'
    clear hVL hc h0
    go_enter Try.func16, Try.ntmps16
    go_wp2_with (first
      | (go_at_call 14; refine (refVL_is _ n c l _ (HR.out.below HB0.out) hn hm hvl).mono ?_; rintro e W1 ⟨rfl, hb1⟩; have HB1 := Lib.hid (nx HB0.out hb1); have HK1 := Lib.hid (HK0.out.up hb1 HK0.out.lt); clear hb1; have i0 := HK1.out.cell 0 rfl; have i1 := HK1.out.cell 1 rfl; have i2 := HK1.out.cell 2 rfl; have i3 := HK1.out.cell 3 rfl; have i4 := HK1.out.cell 4 rfl; have i5 := HK1.out.cell 5 rfl; have i6 := HK1.out.cell 6 rfl))
    exact bodyPost_ret (v := .tuple #[.slice none 0 0, .int .i64 0, .int .i64 2]) (by simp [results, Try.results16, go_sem]) rfl ⟨rfl, HB1.out⟩
theorem back_stop (l : List Wt) (w : Wt) {k : Nat} (h : 0 < k → ovr (l.getD (k - 1) default) w = false) : back l w k = k := by
  cases k with
  | zero => rfl
  | succ k =>
    rw [back, if_neg]
    rw [show k = k + 1 - 1 by omega, h (by omega)]
    decide
theorem back_go (l : List Wt) (w : Wt) {k : Nat} (h : ovr (l.getD k default) w = true) : back l w (k + 1) = back l w k := by rw [back, if_pos h]
theorem putW_take (l : List Wt) (w : Wt) {k j : Nat} (hk : k ≤ j) (hj : j < l.length) : l.take k ++ w :: ((l.drop k).take (j - k + 1)).map bump = (l.take k ++ w :: ((l.drop k).take (j - k)).map bump) ++ [bump (l.getD j default)] := by
  have h1 : (l.drop k).take (j - k + 1) = (l.drop k).take (j - k) ++ [l.getD j default] := by
    rw [List.take_succ_eq_append_getElem (by rw [List.length_drop]; omega), List.getElem_drop, List.getD_eq_getElem?_getD, List.getElem?_eq_getElem hj]
    simp only [show k + (j - k) = j by omega]
    rfl
  rw [h1, List.map_append, ← List.cons_append, ← List.append_assoc]
  rfl
theorem elemW : Try.prog.elem 22 = 28 := by kernel_rfl
theorem sizeW (W : World) : (sizeOf 28).run Try.prog W = .ok 7 W := by
  obtain ⟨i0, hi, hz0, hz1, hz2⟩ := info_parts wait_info
  simp [sizeOf, typeInfo, hi, hz1]
theorem cutW_front {A : Option Addr} {n c k : Nat} (hp : k ≤ c) (W : World) :
    (Instr.slice 22 (.slice A n c) none (some (.int .i64 (k : Int))) none).run Try.prog W = .ok (.slice A k c) W := by
  have hu : Try.prog.underlying 22 = some (.slice (Try.prog.elem 22)) := by rw [elemW]; exact Try.underlying22
  rw [run_slice_h W 22 A n c hu .i64 (k : Int) (by omega) (by omega), elemW, sizeW]
  cases A <;> simp [sliced, Result.andThen, Addr.add]
theorem step_app_wait {w : World} {ops : Array Oper} {o : Oper} {a : Act} {K : Act → World → Prop} {Q : Exit → Act → World → Prop} {E : Prop} (hgd : o.guard = none) (s y : Operand)
    (ho : o.op = .call { callee := .builtin .append, args := #[s, y], argTypes := #[22, 22] })
    (base : Nat) (V : Value) (xs : List Wt) (A : Option Addr) (ys : List Wt) (n c : Nat) (hn : Hid (ys.length = n)) (hv : a.eval s = V) (hx : a.eval y = .slice A n c)
    (hd : OwnW w base V xs) (hs : WRd w A ys) (hlen : Hid (xs.length + n ≤ 1000000)) (hbase : base ≤ w.heap.size)
    (h : ∀ V' w', OwnW w' base V' (xs ++ ys) → Below base w w' → w.grownBy w' V.ownBlock → K (a.put o.dst V') w') :
    if Region.wanted o (yielded ops a.tmps) = true then Oper.wp Try.prog o a w K Q else E := by
  have hw : Region.wanted o (yielded ops a.tmps) = true := by simp [Region.wanted, hgd]
  rw [if_pos hw]
  have hn' := hn.out
  subst hn'
  obtain ⟨i0, hi, hz0, hz1, hz2⟩ := info_parts wait_info
  have hl := hlen.out
  obtain ⟨v', w', hr, h2, h3, h4, _⟩ := run_app (P := Try.prog) w base 22 22 o.type 28 i0 _ 7 56 Try.underlying22 hi hz0 hz1 hz2 rfl V xs.length (wcs xs) _ ys.length (wcs ys) (.inl hd)
    (Src.waits Try.underlying22 c hs) (by simp only [maxLen]; omega) (fits_half (by omega)) hbase
  unfold Oper.wp execOp
  simp only [ho, resolve, invoke, builtin, Sem.run_bind, Sem.run_pure, Result.andThen_ok, List.map_toArray, List.map_cons, List.map_nil, hv, hx, hr]
  refine h v' w' ?_ h3 (h4 hd)
  unfold OwnW
  rw [List.length_append, wcs_append]
  exact h2
theorem Blk.far {w w' : World} {row : Option Nat} (hg : w.grownBy w' row) {g : Nat} {cs : List Value} (h : Blk w g cs) (hne : some g ≠ row) : Blk w' g cs := h.of (hg.block g h.lt hne)
abbrev B7 (W : World) (g : Nat) (x y z m v p u : Int) : Prop := W.cell? ⟨g, 0, none⟩ = some (.int .i64 x) ∧ W.cell? ⟨g, 1, none⟩ = some (.int .i64 y) ∧ W.cell? ⟨g, 2, none⟩ = some (.int .i64 z) ∧ W.cell? ⟨g, 3, none⟩ = some (.int .i64 m) ∧ W.cell? ⟨g, 4, none⟩ = some (.int .i64 v) ∧ W.cell? ⟨g, 5, none⟩ = some (.int .i64 p) ∧ W.cell? ⟨g, 6, none⟩ = some (.int .i64 u)
theorem keep7 {w W : World} {g : Nat} {x y z m v p : Int} (hK : Blk w g [.int .i64 x, .int .i64 y, .int .i64 z, .int .i64 m, .int .i64 v, .int .i64 p, .int .i64 0]) (hW : Below w.heap.size w W) : Below w.heap.size w W ∧ B7 W g x y z m v p 0 := by
  have h := hK.up hW hK.lt
  exact ⟨hW, h.cell 0 rfl, h.cell 1 rfl, h.cell 2 rfl, h.cell 3 rfl, h.cell 4 rfl, h.cell 5 rfl, h.cell 6 rfl⟩
abbrev oW0 : Obj := .cells #[] 28
abbrev oW7 (x y z m v p : Int) : Obj := .cells #[.int .i64 x, .int .i64 y, .int .i64 z, .int .i64 m, .int .i64 v, .int .i64 p, .int .i64 0] 28
theorem ownW_a (W : World) (G : Nat) (hG : W.heap.size = G) : OwnW (W.alloc oW0).drew W.heap.size (.slice (some ⟨G, 0, none⟩) 0 0) [] := by
  subst hG
  exact (OwnW.empty W W.heap.size (Nat.le_refl _)).below (bdD (Below.refl _ _))
theorem ownW_b (W : World) (o : Obj) (G : Nat) (hG : W.heap.size = G) : OwnW ((W.alloc oW0).alloc o).drew W.heap.size (.slice (some ⟨G, 0, none⟩) 0 0) [] := by
  subst hG
  exact (OwnW.empty W W.heap.size (Nat.le_refl _)).below (bdD (newB _ _))
theorem ownW_c (W : World) (o : Obj) (G : Nat) (hG : W.heap.size + 1 = G) : OwnW ((W.alloc o).alloc oW0).drew W.heap.size (.slice (some ⟨G, 0, none⟩) 0 0) [] := by
  have e : (W.alloc o).heap.size = G := by simpa using hG
  subst e
  exact (OwnW.empty (W.alloc o) W.heap.size (by simp)).below (bdD (Below.refl _ _))
set_option maxHeartbeats 8000000 in
set_option maxRecDepth 20000 in
theorem refIns_ok (A : Option Addr) (n c : Nat) (l : List Wt) (x y z m v p : Int) (w : World) (hl : WRd w A l) (hn : Hid (l.length = n)) (hm : Hid (n ≤ 1000)) (hcap : n ≤ c) (hc : Hid (inC l ((x, y, z), (m, v), p, 0) = 0)) {at_ : Nat} (hat : Hid (posW l ((x, y, z), (m, v), p, 0) = at_)) :
    Calls Try.prog 16 #[.slice A n c, wag x y z m v p 0] w fun e w' => (∃ A' c', e = .returned (.tuple #[.slice A' (n + 1) c', .int .i64 at_, .int .i64 0]) ∧ OwnW w' w.heap.size (.slice A' (n + 1) c') (putW l ((x, y, z), (m, v), p, 0) at_)) ∧ Below w.heap.size w w' := by
  have HR := Lib.hid hl
  have HB0 := Lib.hid (newB w (.cells #[.int .i64 x, .int .i64 y, .int .i64 z, .int .i64 m, .int .i64 v, .int .i64 p, .int .i64 0] 28))
  have HK0 := Lib.hid (Blk.new w [.int .i64 x, .int .i64 y, .int .i64 z, .int .i64 m, .int .i64 v, .int .i64 p, .int .i64 0] 28 rfl)
  clear hl
  obtain ⟨h1, h2, h3, h4, h5⟩ := inC_0 hc.out
  have hvl : Hid (VL l ↔ true = true) := Lib.hid (by simp [h1])
  have hbw := Lib.hid h2
  have hf := Lib.hid h4
  have h8 : ¬ (n : Int) = 8 := by have := hn.out; omega
  have hn8 : n < 8 := by have := hn.out; omega
  have hfb : ((n : Int) == 8) = false := by simpa using h8
  have HVL := Lib.hid h1
  clear h1 h2 h4 h5 hc h8
  go_enter Try.func16, Try.ntmps16
  go_wp2_with (first
    | (go_at_call 14; refine (refVL_is _ n c l _ (HR.out.below HB0.out) hn hm hvl).mono ?_; rintro e W1 ⟨rfl, hb1⟩; have HB1 := Lib.hid (nx HB0.out hb1); have HK1 := Lib.hid (HK0.out.up hb1 HK0.out.lt); clear hb1; have i0 := HK1.out.cell 0 rfl; have i1 := HK1.out.cell 1 rfl; have i2 := HK1.out.cell 2 rfl; have i3 := HK1.out.cell 3 rfl; have i4 := HK1.out.cell 4 rfl; have i5 := HK1.out.cell 5 rfl; have i6 := HK1.out.cell 6 rfl)
    | (go_at_call 12; refine (refVW_is x y z m v p 0 _ hbw).mono ?_; rintro e W2 ⟨rfl, hb2⟩; have HB2 := Lib.hid (nx HB1.out hb2); have HK2 := Lib.hid (HK1.out.up hb2 HK1.out.lt); clear hb2 i0 i1 i2 i3 i4 i5 i6; have j0 := HK2.out.cell 0 rfl; have j1 := HK2.out.cell 1 rfl; have j2 := HK2.out.cell 2 rfl; have j6 := HK2.out.cell 6 rfl)
    | (go_at_call 21; refine (refFind_is _ n c l x y z _ (HR.out.below HB2.out) hn hm hf).mono ?_; rintro e W3 ⟨rfl, hb3⟩; have HB3 := Lib.hid (nx HB2.out hb3); have HK3 := Lib.hid (HK2.out.up hb3 HK2.out.lt); clear hb3))
  go_loopw [7] (fun i wr => ∃ (k : Nat), k ≤ n ∧ i = .int .i64 k ∧ Hid (back l ((x, y, z), (m, v), p, 0) k = at_) ∧ Hid (Blk wr w.heap.size [.int .i64 x, .int .i64 y, .int .i64 z, .int .i64 m, .int .i64 v, .int .i64 p, .int .i64 0]) ∧ Hid (Below w.heap.size w wr)) (fun i _ => (intOf i).toNat)
  case atStart => exact ⟨n, by omega, rfl, Lib.hid (by rw [← hat.out, posW, hn.out]), HK3, HB3⟩
  case round =>
    obtain ⟨k, hk, rfl, hbk, hK, hB⟩ := hrel
    have i0 := hK.out.cell 0 rfl
    have i1 := hK.out.cell 1 rfl
    have i2 := hK.out.cell 2 rfl
    have i3 := hK.out.cell 3 rfl
    have i4 := hK.out.cell 4 rfl
    have i5 := hK.out.cell 5 rfl
    have i6 := hK.out.cell 6 rfl
    by_cases hk0 : k = 0
    · subst hk0
      go_wp2
      go_quiet (fail)
      have hst := Lib.hid (back_stop l ((x, y, z), (m, v), p, 0) (k := 0) (fun h => by omega))
      obtain ⟨ko, hko⟩ : ∃ ko : Nat, ko = 0 := ⟨_, rfl⟩
      have hkat : at_ = ko := by rw [hko, ← hbk.out, hst.out]
      have hkn : ko ≤ n := by rw [hko]; exact hk
      have hki : (0 : Int) = (ko : Int) := by omega
      generalize hWE : wr.drewN nq = WE
      have HBE : Hid (Below w.heap.size w WE) := Lib.hid (by rw [← hWE]; exact bdN hB.out _)
      have HKE : Hid (Blk WE w.heap.size [.int .i64 x, .int .i64 y, .int .i64 z, .int .i64 m, .int .i64 v, .int .i64 p, .int .i64 0]) := Lib.hid (by rw [← hWE]; exact hK.out.up (bdN (Below.refl _ _) _) hK.out.lt)
      clear hWE i0 i1 i2 i3 i4 i5 i6
      have HKQ := Lib.hid hki
      have hcut : ∀ W : World, (Instr.slice 22 (.slice (A) n c) none (some (.int .i64 (0))) none).run Try.prog W = .ok (.slice (A) ko c) W := fun W => by rw [hki]; exact cutW_front (by omega) W
      have HKO := Lib.hid hko
      have HAT := Lib.hid hkat
      clear hki hko hkat hst
      have HL : Hid (∀ W, Below WE.heap.size WE W → WRd W (A) (l.take ko)) := Lib.hid (fun W hW => (HR.out.below (nx HBE.out hW)).take ko)
      have HLn : Hid ((l.take ko).length = ko) := Lib.hid (by rw [List.length_take, hn.out]; omega)
      have HL0 : Hid (([] : List Wt).length + ko ≤ 1000000) := Lib.hid (by simp; omega)
      have HL1 : Hid (([] ++ l.take ko).length + 1 ≤ 1000000) := Lib.hid (by rw [List.nil_append, HLn.out]; omega)
      have HL2 : Hid (([] ++ l.take ko ++ [((x, y, z), (m, v), p, 0)]).length = ko + 1) := Lib.hid (by rw [List.nil_append, List.length_append, HLn.out]; rfl)
      have HOa := Lib.hid (ownW_a WE _ rfl)
      have HOb := Lib.hid (ownW_b WE (oW7 x y z m v p) _ rfl)
      have HOc := Lib.hid (ownW_c WE (oW7 x y z m v p) _ rfl)
      have HBa := Lib.hid (bdD (newB WE oW0))
      have HBb := Lib.hid (bdD (new2 WE oW0 (oW7 x y z m v p)))
      have HBc := Lib.hid (bdD (new2 WE (oW7 x y z m v p) oW0))
      have HEb : Hid (Blk ((WE.alloc oW0).alloc (oW7 x y z m v p)).drew (WE.heap.size + 1) [.int .i64 x, .int .i64 y, .int .i64 z, .int .i64 m, .int .i64 v, .int .i64 p, .int .i64 0]) := Lib.hid ((Blk.new (WE.alloc oW0) [.int .i64 x, .int .i64 y, .int .i64 z, .int .i64 m, .int .i64 v, .int .i64 p, .int .i64 0] 28 (g := WE.heap.size + 1) (by simp)).of rfl)
      have HEc : Hid (Blk ((WE.alloc (oW7 x y z m v p)).alloc oW0).drew WE.heap.size [.int .i64 x, .int .i64 y, .int .i64 z, .int .i64 m, .int .i64 v, .int .i64 p, .int .i64 0]) := Lib.hid (((Blk.new WE [.int .i64 x, .int .i64 y, .int .i64 z, .int .i64 m, .int .i64 v, .int .i64 p, .int .i64 0] 28 rfl).grow oW0).of rfl)
      have hne : some (WE.heap.size + 1) ≠ some WE.heap.size := by simp
      have HNb := Lib.hid hne
      have HNc := Lib.hid hne.symm
      clear hne
      have hkc : ko ≤ c := by omega
      go_wp2
      go_region_held3 (fun W => Below WE.heap.size WE W ∧ B7 W w.heap.size x y z m v p 0)
        (first
          | exact keep7 HKE.out (Below.refl _ _)
          | exact keep7 HKE.out (bdD (Below.refl _ _))
          | exact keep7 HKE.out HB1.out
          | exact keep7 HKE.out HB2.out
          | (go_split_ands; exact keep7 HKE.out (nxA (by assumption) _)))
        (first
          | (have _t := HB1; clear _t; refine step_app_wait rfl (.tmp 60) (.tmp 62) rfl WE.heap.size _ ([] ++ l.take ko) (some ⟨W1.heap.size, 0, none⟩) [((x, y, z), (m, v), p, 0)] 1 1 rfl rfl rfl (HO1.out.below (newB _ _)) (WRd.one (z7_blk (Blk.new _ _ _ rfl))) HL1 (nxA HB1.out _).size ?_; intro V2 W2 ho2 hb2 _; obtain ⟨A3, c3, hv3, -, -, -⟩ := ho2.form; rw [HL2.out] at hv3; subst hv3; have HO2 := Lib.hid ho2; have HB2 := Lib.hid ((nxA HB1.out _).trans hb2); clear hb2 ho2)
          | (have _t := HE1; clear _t; refine step_app_wait rfl (.tmp 60) (.tmp 62) rfl WE.heap.size _ ([] ++ l.take ko) (some ⟨_, 0, none⟩) [((x, y, z), (m, v), p, 0)] 1 1 rfl rfl rfl HO1.out (WRd.one (z7_blk HE1.out)) HL1 HB1.out.size ?_; intro V2 W2 ho2 hb2 _; obtain ⟨A3, c3, hv3, -, -, -⟩ := ho2.form; rw [HL2.out] at hv3; subst hv3; have HO2 := Lib.hid ho2; have HB2 := Lib.hid (HB1.out.trans hb2); clear hb2 ho2)
          | (refine step_app_wait rfl (.tmp 56) (.tmp 59) rfl WE.heap.size _ [] (A) (l.take ko) ko c HLn rfl rfl HOa.out (HL.out _ HBa.out) HL0 HBa.out.size ?_; intro V1 W1 ho1 hb1 _; have HO1 := Lib.hid ho1; have HB1 := Lib.hid (HBa.out.trans hb1); clear ho1 hb1)
          | (refine step_app_wait rfl (.tmp 56) (.tmp 59) rfl WE.heap.size _ [] (A) (l.take ko) ko c HLn rfl rfl HOb.out (HL.out _ HBb.out) HL0 HBb.out.size ?_; intro V1 W1 ho1 hb1 hg1; have HO1 := Lib.hid ho1; have HB1 := Lib.hid (HBb.out.trans hb1); have HE1 := Lib.hid (HEb.out.far hg1 HNb.out); clear ho1 hb1 hg1)
          | (refine step_app_wait rfl (.tmp 56) (.tmp 59) rfl WE.heap.size _ [] (A) (l.take ko) ko c HLn rfl rfl HOc.out (HL.out _ HBc.out) HL0 HBc.out.size ?_; intro V1 W1 ho1 hb1 hg1; have HO1 := Lib.hid ho1; have HB1 := Lib.hid (HBc.out.trans hb1); have HE1 := Lib.hid (HEc.out.far hg1 HNc.out); clear ho1 hb1 hg1))
      all_goals (
        go_wp2
        go_loopw [8, 9] (fun V i wr2 => ∃ (q : Nat) (A4 : Option Addr) (c4 : Nat), ko ≤ q ∧ q ≤ n ∧ i = .int .i64 q ∧ V = .slice A4 (q + 1) c4 ∧ Hid (OwnW wr2 WE.heap.size (.slice A4 (q + 1) c4) (l.take ko ++ ((x, y, z), (m, v), p, 0) :: ((l.drop ko).take (q - ko)).map bump)) ∧ Hid (Below WE.heap.size WE wr2)) (fun _ i _ => n - (intOf i).toNat)
        case atStart => exact ⟨ko, A3, c3, by omega, hkn, by rw [HKQ.out], rfl, Lib.hid (by rw [Nat.sub_self, List.take_zero]; exact HO2.out), HB2⟩
        case round =>
          obtain ⟨q, A4, c4, hq1, hq2, rfl, rfl, hO, hB4⟩ := hrel
          clear HL HOa HOb HOc HBa HBb HBc HEb HEc HNb HNc
          by_cases hq3 : (q : Int) < (n : Int)
          · obtain ⟨g2, o2, x2, y2, z2, m2, v2, p2, u2, hA2, hg2, hx2, c1, c2, c3', c4', c5, c6, c7⟩ := (HR.out.below (nx HBE.out hB4.out)).at_ (i := q) (by have := hn.out; omega)
            cases hA2
            have hu2 : 0 ≤ u2 ∧ u2 ≤ 3 := by
              have h1 := vW_num (HVL.out.2.1 _ (getD_memW (l := l) (i := q) (by have := hn.out; omega)))
              rw [hx2.out] at h1
              exact h1.2.2
            have e8 : IntKind.i64.wrap (u2 + 1) = u2 + 1 := by rw [IntKind.wrap_i64]; omega
            have e9 : IntKind.i64.wrap ((q : Int) + 1) = (q : Int) + 1 := by rw [IntKind.wrap_i64]; omega
            have h1 : Hid (([((x2, y2, z2), (m2, v2), p2, u2 + 1)] : List Wt).length = 1) := Lib.hid rfl
            have hXl : Hid ((l.take ko ++ ((x, y, z), (m, v), p, 0) :: ((l.drop ko).take (q - ko)).map bump).length = q + 1) := Lib.hid (by
              obtain ⟨A5, c5, hv5, -, -, -⟩ := hO.out.form
              injection hv5 with _ hv5 _
              exact hv5.symm)
            have hlen : Hid ((l.take ko ++ ((x, y, z), (m, v), p, 0) :: ((l.drop ko).take (q - ko)).map bump).length + 1 ≤ 1000000) := Lib.hid (by rw [hXl.out]; omega)
            have hXs : Hid ((l.take ko ++ ((x, y, z), (m, v), p, 0) :: ((l.drop ko).take (q - ko)).map bump) ++ [((x2, y2, z2), (m2, v2), p2, u2 + 1)] = l.take ko ++ ((x, y, z), (m, v), p, 0) :: ((l.drop ko).take (q + 1 - ko)).map bump) := Lib.hid (by
              have h2 := putW_take l ((x, y, z), (m, v), p, 0) (k := ko) (j := q) hq1 (by have := hn.out; omega)
              rw [hx2.out] at h2
              rw [show q + 1 - ko = q - ko + 1 by omega, h2]
              rfl)
            have hXm : Hid ((l.take ko ++ ((x, y, z), (m, v), p, 0) :: ((l.drop ko).take (q + 1 - ko)).map bump).length = q + 1 + 1) := Lib.hid (by rw [← hXs.out, List.length_append, hXl.out]; rfl)
            go_wp2_with (at_builtin; (refine app_wait rfl (.tmp 79) (.tmp 81) rfl WE.heap.size _ _ (some ⟨_, 0, none⟩) [((x2, y2, z2), (m2, v2), p2, u2 + 1)] 1 1 h1 rfl rfl (hO.out.below (new2 _ _ _)) (WRd.one (z7_blk (Blk.new _ _ _ (by simp)))) hlen (nx hB4.out (new2 _ _ _)).size ?_); intro V5 W5 ho5 hb5; rw [hXs.out] at ho5; obtain ⟨A5, c5, hv5, -, -, -⟩ := ho5.form; rw [hXm.out] at hv5; subst hv5; have HO5 := Lib.hid ho5; have HB5 := Lib.hid ((nx hB4.out (new2 _ _ _)).trans hb5); clear ho5 hb5)
            go_roundw
            case rel => exact ⟨q + 1, A5, c5, by omega, by omega, by go_num, rfl, HO5, HB5⟩
            case measure => (simp [intOf] <;> omega)
          · have hqn : q = n := by omega
            subst hqn
            have hXe : Hid (l.take ko ++ ((x, y, z), (m, v), p, 0) :: ((l.drop ko).take (q - ko)).map bump = putW l ((x, y, z), (m, v), p, 0) at_) := Lib.hid (by
              rw [HAT.out, putW, show (l.drop ko).take (q - ko) = l.drop ko from List.take_of_length_le (by have := hn.out; rw [List.length_drop]; omega)])
            have hEO : Hid (OwnW _ w.heap.size (.slice A4 (q + 1) c4) (putW l ((x, y, z), (m, v), p, 0) at_)) := Lib.hid (by rw [← hXe.out]; exact hO.out.low HBE.out.size)
            have hak : Hid ((0 : Int) = (at_ : Int)) := Lib.hid (by rw [HKQ.out, HAT.out])
            go_wp2
            refine bodyPost_ret (v := .tuple #[.slice A4 (q + 1) c4, .int .i64 (0), .int .i64 0]) (by simp [results, Try.results16, go_sem]) rfl ?_
            exact ⟨⟨A4, c4, by rw [hak.out], hEO.out⟩, nx HBE.out hB4.out⟩)
    · obtain ⟨j, rfl⟩ : ∃ j, k = j + 1 := ⟨k - 1, by omega⟩
      obtain ⟨g, o, x', y', z', m', v', p', u', rfl, hg, hx, c1, c2, c3, c4, c5, c6, c7⟩ := (HR.out.below hB.out).at_ (i := j) (by have := hn.out; omega)
      have e5 : IntKind.i64.wrap (((j + 1 : Nat) : Int) - 1) = (j : Int) := by rw [IntKind.wrap_i64]; omega
      have e5a : IntKind.i64.wrap (j : Int) = (j : Int) := by rw [IntKind.wrap_i64]; omega
      have e6 : (0 : Int) < ((j + 1 : Nat) : Int) := by omega
      have e7 : (j : Int) < (n : Int) := by omega
      by_cases hp : p' < p
      · by_cases hu : u' < 3
        · have hov : Hid (ovr (l.getD j default) ((x, y, z), (m, v), p, 0) = true) := Lib.hid (by rw [hx.out]; exact decide_eq_true ⟨hp, hu⟩)
          go_wp2
          go_quiet (fail)
          go_wp2
          go_roundw
          case rel => exact ⟨j, by omega, by go_num, by rw [← back_go _ _ hov.out]; exact hbk, hK.out.up (bdN (Below.refl _ _) _) hK.out.lt, bdN hB.out _⟩
          case measure => (simp [intOf] <;> omega)
        · have hov : Hid (ovr (l.getD j default) ((x, y, z), (m, v), p, 0) = false) := Lib.hid (by rw [hx.out]; exact decide_eq_false (fun h => hu h.2))
          go_wp2
          go_quiet (fail)
          have hst := Lib.hid (back_stop l ((x, y, z), (m, v), p, 0) (k := j + 1) (fun _ => hov.out))
          obtain ⟨ko, hko⟩ : ∃ ko : Nat, ko = j + 1 := ⟨_, rfl⟩
          have hkat : at_ = ko := by rw [hko, ← hbk.out, hst.out]
          have hkn : ko ≤ n := by rw [hko]; exact hk
          have hki : ((j : Int) + 1 : Int) = (ko : Int) := by omega
          generalize hWE : wr.drewN nq = WE
          have HBE : Hid (Below w.heap.size w WE) := Lib.hid (by rw [← hWE]; exact bdN hB.out _)
          have HKE : Hid (Blk WE w.heap.size [.int .i64 x, .int .i64 y, .int .i64 z, .int .i64 m, .int .i64 v, .int .i64 p, .int .i64 0]) := Lib.hid (by rw [← hWE]; exact hK.out.up (bdN (Below.refl _ _) _) hK.out.lt)
          clear hWE i0 i1 i2 i3 i4 i5 i6
          have HKQ := Lib.hid hki
          have hcut : ∀ W : World, (Instr.slice 22 (.slice (some ⟨g, o, none⟩) n c) none (some (.int .i64 ((j : Int) + 1))) none).run Try.prog W = .ok (.slice (some ⟨g, o, none⟩) ko c) W := fun W => by rw [hki]; exact cutW_front (by omega) W
          have HKO := Lib.hid hko
          have HAT := Lib.hid hkat
          clear hki hko hkat hst
          have HL : Hid (∀ W, Below WE.heap.size WE W → WRd W (some ⟨g, o, none⟩) (l.take ko)) := Lib.hid (fun W hW => (HR.out.below (nx HBE.out hW)).take ko)
          have HLn : Hid ((l.take ko).length = ko) := Lib.hid (by rw [List.length_take, hn.out]; omega)
          have HL0 : Hid (([] : List Wt).length + ko ≤ 1000000) := Lib.hid (by simp; omega)
          have HL1 : Hid (([] ++ l.take ko).length + 1 ≤ 1000000) := Lib.hid (by rw [List.nil_append, HLn.out]; omega)
          have HL2 : Hid (([] ++ l.take ko ++ [((x, y, z), (m, v), p, 0)]).length = ko + 1) := Lib.hid (by rw [List.nil_append, List.length_append, HLn.out]; rfl)
          have HOa := Lib.hid (ownW_a WE _ rfl)
          have HOb := Lib.hid (ownW_b WE (oW7 x y z m v p) _ rfl)
          have HOc := Lib.hid (ownW_c WE (oW7 x y z m v p) _ rfl)
          have HBa := Lib.hid (bdD (newB WE oW0))
          have HBb := Lib.hid (bdD (new2 WE oW0 (oW7 x y z m v p)))
          have HBc := Lib.hid (bdD (new2 WE (oW7 x y z m v p) oW0))
          have HEb : Hid (Blk ((WE.alloc oW0).alloc (oW7 x y z m v p)).drew (WE.heap.size + 1) [.int .i64 x, .int .i64 y, .int .i64 z, .int .i64 m, .int .i64 v, .int .i64 p, .int .i64 0]) := Lib.hid ((Blk.new (WE.alloc oW0) [.int .i64 x, .int .i64 y, .int .i64 z, .int .i64 m, .int .i64 v, .int .i64 p, .int .i64 0] 28 (g := WE.heap.size + 1) (by simp)).of rfl)
          have HEc : Hid (Blk ((WE.alloc (oW7 x y z m v p)).alloc oW0).drew WE.heap.size [.int .i64 x, .int .i64 y, .int .i64 z, .int .i64 m, .int .i64 v, .int .i64 p, .int .i64 0]) := Lib.hid (((Blk.new WE [.int .i64 x, .int .i64 y, .int .i64 z, .int .i64 m, .int .i64 v, .int .i64 p, .int .i64 0] 28 rfl).grow oW0).of rfl)
          have hne : some (WE.heap.size + 1) ≠ some WE.heap.size := by simp
          have HNb := Lib.hid hne
          have HNc := Lib.hid hne.symm
          clear hne
          have hkc : ko ≤ c := by omega
          go_wp2
          go_region_held3 (fun W => Below WE.heap.size WE W ∧ B7 W w.heap.size x y z m v p 0)
            (first
              | exact keep7 HKE.out (Below.refl _ _)
              | exact keep7 HKE.out (bdD (Below.refl _ _))
              | exact keep7 HKE.out HB1.out
              | exact keep7 HKE.out HB2.out
              | (go_split_ands; exact keep7 HKE.out (nxA (by assumption) _)))
            (first
              | (have _t := HB1; clear _t; refine step_app_wait rfl (.tmp 60) (.tmp 62) rfl WE.heap.size _ ([] ++ l.take ko) (some ⟨W1.heap.size, 0, none⟩) [((x, y, z), (m, v), p, 0)] 1 1 rfl rfl rfl (HO1.out.below (newB _ _)) (WRd.one (z7_blk (Blk.new _ _ _ rfl))) HL1 (nxA HB1.out _).size ?_; intro V2 W2 ho2 hb2 _; obtain ⟨A3, c3, hv3, -, -, -⟩ := ho2.form; rw [HL2.out] at hv3; subst hv3; have HO2 := Lib.hid ho2; have HB2 := Lib.hid ((nxA HB1.out _).trans hb2); clear hb2 ho2)
              | (have _t := HE1; clear _t; refine step_app_wait rfl (.tmp 60) (.tmp 62) rfl WE.heap.size _ ([] ++ l.take ko) (some ⟨_, 0, none⟩) [((x, y, z), (m, v), p, 0)] 1 1 rfl rfl rfl HO1.out (WRd.one (z7_blk HE1.out)) HL1 HB1.out.size ?_; intro V2 W2 ho2 hb2 _; obtain ⟨A3, c3, hv3, -, -, -⟩ := ho2.form; rw [HL2.out] at hv3; subst hv3; have HO2 := Lib.hid ho2; have HB2 := Lib.hid (HB1.out.trans hb2); clear hb2 ho2)
              | (refine step_app_wait rfl (.tmp 56) (.tmp 59) rfl WE.heap.size _ [] (some ⟨g, o, none⟩) (l.take ko) ko c HLn rfl rfl HOa.out (HL.out _ HBa.out) HL0 HBa.out.size ?_; intro V1 W1 ho1 hb1 _; have HO1 := Lib.hid ho1; have HB1 := Lib.hid (HBa.out.trans hb1); clear ho1 hb1)
              | (refine step_app_wait rfl (.tmp 56) (.tmp 59) rfl WE.heap.size _ [] (some ⟨g, o, none⟩) (l.take ko) ko c HLn rfl rfl HOb.out (HL.out _ HBb.out) HL0 HBb.out.size ?_; intro V1 W1 ho1 hb1 hg1; have HO1 := Lib.hid ho1; have HB1 := Lib.hid (HBb.out.trans hb1); have HE1 := Lib.hid (HEb.out.far hg1 HNb.out); clear ho1 hb1 hg1)
              | (refine step_app_wait rfl (.tmp 56) (.tmp 59) rfl WE.heap.size _ [] (some ⟨g, o, none⟩) (l.take ko) ko c HLn rfl rfl HOc.out (HL.out _ HBc.out) HL0 HBc.out.size ?_; intro V1 W1 ho1 hb1 hg1; have HO1 := Lib.hid ho1; have HB1 := Lib.hid (HBc.out.trans hb1); have HE1 := Lib.hid (HEc.out.far hg1 HNc.out); clear ho1 hb1 hg1))
          all_goals (
            go_wp2
            go_loopw [8, 9] (fun V i wr2 => ∃ (q : Nat) (A4 : Option Addr) (c4 : Nat), ko ≤ q ∧ q ≤ n ∧ i = .int .i64 q ∧ V = .slice A4 (q + 1) c4 ∧ Hid (OwnW wr2 WE.heap.size (.slice A4 (q + 1) c4) (l.take ko ++ ((x, y, z), (m, v), p, 0) :: ((l.drop ko).take (q - ko)).map bump)) ∧ Hid (Below WE.heap.size WE wr2)) (fun _ i _ => n - (intOf i).toNat)
            case atStart => exact ⟨ko, A3, c3, by omega, hkn, by rw [HKQ.out], rfl, Lib.hid (by rw [Nat.sub_self, List.take_zero]; exact HO2.out), HB2⟩
            case round =>
              obtain ⟨q, A4, c4, hq1, hq2, rfl, rfl, hO, hB4⟩ := hrel
              clear HL HOa HOb HOc HBa HBb HBc HEb HEc HNb HNc
              by_cases hq3 : (q : Int) < (n : Int)
              · obtain ⟨g2, o2, x2, y2, z2, m2, v2, p2, u2, hA2, hg2, hx2, c1, c2, c3', c4', c5, c6, c7⟩ := (HR.out.below (nx HBE.out hB4.out)).at_ (i := q) (by have := hn.out; omega)
                cases hA2
                have hu2 : 0 ≤ u2 ∧ u2 ≤ 3 := by
                  have h1 := vW_num (HVL.out.2.1 _ (getD_memW (l := l) (i := q) (by have := hn.out; omega)))
                  rw [hx2.out] at h1
                  exact h1.2.2
                have e8 : IntKind.i64.wrap (u2 + 1) = u2 + 1 := by rw [IntKind.wrap_i64]; omega
                have e9 : IntKind.i64.wrap ((q : Int) + 1) = (q : Int) + 1 := by rw [IntKind.wrap_i64]; omega
                have h1 : Hid (([((x2, y2, z2), (m2, v2), p2, u2 + 1)] : List Wt).length = 1) := Lib.hid rfl
                have hXl : Hid ((l.take ko ++ ((x, y, z), (m, v), p, 0) :: ((l.drop ko).take (q - ko)).map bump).length = q + 1) := Lib.hid (by
                  obtain ⟨A5, c5, hv5, -, -, -⟩ := hO.out.form
                  injection hv5 with _ hv5 _
                  exact hv5.symm)
                have hlen : Hid ((l.take ko ++ ((x, y, z), (m, v), p, 0) :: ((l.drop ko).take (q - ko)).map bump).length + 1 ≤ 1000000) := Lib.hid (by rw [hXl.out]; omega)
                have hXs : Hid ((l.take ko ++ ((x, y, z), (m, v), p, 0) :: ((l.drop ko).take (q - ko)).map bump) ++ [((x2, y2, z2), (m2, v2), p2, u2 + 1)] = l.take ko ++ ((x, y, z), (m, v), p, 0) :: ((l.drop ko).take (q + 1 - ko)).map bump) := Lib.hid (by
                  have h2 := putW_take l ((x, y, z), (m, v), p, 0) (k := ko) (j := q) hq1 (by have := hn.out; omega)
                  rw [hx2.out] at h2
                  rw [show q + 1 - ko = q - ko + 1 by omega, h2]
                  rfl)
                have hXm : Hid ((l.take ko ++ ((x, y, z), (m, v), p, 0) :: ((l.drop ko).take (q + 1 - ko)).map bump).length = q + 1 + 1) := Lib.hid (by rw [← hXs.out, List.length_append, hXl.out]; rfl)
                go_wp2_with (at_builtin; (refine app_wait rfl (.tmp 79) (.tmp 81) rfl WE.heap.size _ _ (some ⟨_, 0, none⟩) [((x2, y2, z2), (m2, v2), p2, u2 + 1)] 1 1 h1 rfl rfl (hO.out.below (new2 _ _ _)) (WRd.one (z7_blk (Blk.new _ _ _ (by simp)))) hlen (nx hB4.out (new2 _ _ _)).size ?_); intro V5 W5 ho5 hb5; rw [hXs.out] at ho5; obtain ⟨A5, c5, hv5, -, -, -⟩ := ho5.form; rw [hXm.out] at hv5; subst hv5; have HO5 := Lib.hid ho5; have HB5 := Lib.hid ((nx hB4.out (new2 _ _ _)).trans hb5); clear ho5 hb5)
                go_roundw
                case rel => exact ⟨q + 1, A5, c5, by omega, by omega, by go_num, rfl, HO5, HB5⟩
                case measure => (simp [intOf] <;> omega)
              · have hqn : q = n := by omega
                subst hqn
                have hXe : Hid (l.take ko ++ ((x, y, z), (m, v), p, 0) :: ((l.drop ko).take (q - ko)).map bump = putW l ((x, y, z), (m, v), p, 0) at_) := Lib.hid (by
                  rw [HAT.out, putW, show (l.drop ko).take (q - ko) = l.drop ko from List.take_of_length_le (by have := hn.out; rw [List.length_drop]; omega)])
                have hEO : Hid (OwnW _ w.heap.size (.slice A4 (q + 1) c4) (putW l ((x, y, z), (m, v), p, 0) at_)) := Lib.hid (by rw [← hXe.out]; exact hO.out.low HBE.out.size)
                have hak : Hid (((j : Int) + 1 : Int) = (at_ : Int)) := Lib.hid (by rw [HKQ.out, HAT.out])
                go_wp2
                refine bodyPost_ret (v := .tuple #[.slice A4 (q + 1) c4, .int .i64 ((j : Int) + 1), .int .i64 0]) (by simp [results, Try.results16, go_sem]) rfl ?_
                exact ⟨⟨A4, c4, by rw [hak.out], hEO.out⟩, nx HBE.out hB4.out⟩)
      · have hov : Hid (ovr (l.getD j default) ((x, y, z), (m, v), p, 0) = false) := Lib.hid (by rw [hx.out]; exact decide_eq_false (fun h => hp h.1))
        have hpd : decide (p' < p) = false := decide_eq_false hp
        go_wp2
        go_quiet (fail)
        have hst := Lib.hid (back_stop l ((x, y, z), (m, v), p, 0) (k := j + 1) (fun _ => hov.out))
        obtain ⟨ko, hko⟩ : ∃ ko : Nat, ko = j + 1 := ⟨_, rfl⟩
        have hkat : at_ = ko := by rw [hko, ← hbk.out, hst.out]
        have hkn : ko ≤ n := by rw [hko]; exact hk
        have hki : ((j : Int) + 1 : Int) = (ko : Int) := by omega
        generalize hWE : wr.drewN nq = WE
        have HBE : Hid (Below w.heap.size w WE) := Lib.hid (by rw [← hWE]; exact bdN hB.out _)
        have HKE : Hid (Blk WE w.heap.size [.int .i64 x, .int .i64 y, .int .i64 z, .int .i64 m, .int .i64 v, .int .i64 p, .int .i64 0]) := Lib.hid (by rw [← hWE]; exact hK.out.up (bdN (Below.refl _ _) _) hK.out.lt)
        clear hWE i0 i1 i2 i3 i4 i5 i6
        have HKQ := Lib.hid hki
        have hcut : ∀ W : World, (Instr.slice 22 (.slice (some ⟨g, o, none⟩) n c) none (some (.int .i64 ((j : Int) + 1))) none).run Try.prog W = .ok (.slice (some ⟨g, o, none⟩) ko c) W := fun W => by rw [hki]; exact cutW_front (by omega) W
        have HKO := Lib.hid hko
        have HAT := Lib.hid hkat
        clear hki hko hkat hst
        have HL : Hid (∀ W, Below WE.heap.size WE W → WRd W (some ⟨g, o, none⟩) (l.take ko)) := Lib.hid (fun W hW => (HR.out.below (nx HBE.out hW)).take ko)
        have HLn : Hid ((l.take ko).length = ko) := Lib.hid (by rw [List.length_take, hn.out]; omega)
        have HL0 : Hid (([] : List Wt).length + ko ≤ 1000000) := Lib.hid (by simp; omega)
        have HL1 : Hid (([] ++ l.take ko).length + 1 ≤ 1000000) := Lib.hid (by rw [List.nil_append, HLn.out]; omega)
        have HL2 : Hid (([] ++ l.take ko ++ [((x, y, z), (m, v), p, 0)]).length = ko + 1) := Lib.hid (by rw [List.nil_append, List.length_append, HLn.out]; rfl)
        have HOa := Lib.hid (ownW_a WE _ rfl)
        have HOb := Lib.hid (ownW_b WE (oW7 x y z m v p) _ rfl)
        have HOc := Lib.hid (ownW_c WE (oW7 x y z m v p) _ rfl)
        have HBa := Lib.hid (bdD (newB WE oW0))
        have HBb := Lib.hid (bdD (new2 WE oW0 (oW7 x y z m v p)))
        have HBc := Lib.hid (bdD (new2 WE (oW7 x y z m v p) oW0))
        have HEb : Hid (Blk ((WE.alloc oW0).alloc (oW7 x y z m v p)).drew (WE.heap.size + 1) [.int .i64 x, .int .i64 y, .int .i64 z, .int .i64 m, .int .i64 v, .int .i64 p, .int .i64 0]) := Lib.hid ((Blk.new (WE.alloc oW0) [.int .i64 x, .int .i64 y, .int .i64 z, .int .i64 m, .int .i64 v, .int .i64 p, .int .i64 0] 28 (g := WE.heap.size + 1) (by simp)).of rfl)
        have HEc : Hid (Blk ((WE.alloc (oW7 x y z m v p)).alloc oW0).drew WE.heap.size [.int .i64 x, .int .i64 y, .int .i64 z, .int .i64 m, .int .i64 v, .int .i64 p, .int .i64 0]) := Lib.hid (((Blk.new WE [.int .i64 x, .int .i64 y, .int .i64 z, .int .i64 m, .int .i64 v, .int .i64 p, .int .i64 0] 28 rfl).grow oW0).of rfl)
        have hne : some (WE.heap.size + 1) ≠ some WE.heap.size := by simp
        have HNb := Lib.hid hne
        have HNc := Lib.hid hne.symm
        clear hne
        have hkc : ko ≤ c := by omega
        go_wp2
        go_region_held3 (fun W => Below WE.heap.size WE W ∧ B7 W w.heap.size x y z m v p 0)
          (first
            | exact keep7 HKE.out (Below.refl _ _)
            | exact keep7 HKE.out (bdD (Below.refl _ _))
            | exact keep7 HKE.out HB1.out
            | exact keep7 HKE.out HB2.out
            | (go_split_ands; exact keep7 HKE.out (nxA (by assumption) _)))
          (first
            | (have _t := HB1; clear _t; refine step_app_wait rfl (.tmp 60) (.tmp 62) rfl WE.heap.size _ ([] ++ l.take ko) (some ⟨W1.heap.size, 0, none⟩) [((x, y, z), (m, v), p, 0)] 1 1 rfl rfl rfl (HO1.out.below (newB _ _)) (WRd.one (z7_blk (Blk.new _ _ _ rfl))) HL1 (nxA HB1.out _).size ?_; intro V2 W2 ho2 hb2 _; obtain ⟨A3, c3, hv3, -, -, -⟩ := ho2.form; rw [HL2.out] at hv3; subst hv3; have HO2 := Lib.hid ho2; have HB2 := Lib.hid ((nxA HB1.out _).trans hb2); clear hb2 ho2)
            | (have _t := HE1; clear _t; refine step_app_wait rfl (.tmp 60) (.tmp 62) rfl WE.heap.size _ ([] ++ l.take ko) (some ⟨_, 0, none⟩) [((x, y, z), (m, v), p, 0)] 1 1 rfl rfl rfl HO1.out (WRd.one (z7_blk HE1.out)) HL1 HB1.out.size ?_; intro V2 W2 ho2 hb2 _; obtain ⟨A3, c3, hv3, -, -, -⟩ := ho2.form; rw [HL2.out] at hv3; subst hv3; have HO2 := Lib.hid ho2; have HB2 := Lib.hid (HB1.out.trans hb2); clear hb2 ho2)
            | (refine step_app_wait rfl (.tmp 56) (.tmp 59) rfl WE.heap.size _ [] (some ⟨g, o, none⟩) (l.take ko) ko c HLn rfl rfl HOa.out (HL.out _ HBa.out) HL0 HBa.out.size ?_; intro V1 W1 ho1 hb1 _; have HO1 := Lib.hid ho1; have HB1 := Lib.hid (HBa.out.trans hb1); clear ho1 hb1)
            | (refine step_app_wait rfl (.tmp 56) (.tmp 59) rfl WE.heap.size _ [] (some ⟨g, o, none⟩) (l.take ko) ko c HLn rfl rfl HOb.out (HL.out _ HBb.out) HL0 HBb.out.size ?_; intro V1 W1 ho1 hb1 hg1; have HO1 := Lib.hid ho1; have HB1 := Lib.hid (HBb.out.trans hb1); have HE1 := Lib.hid (HEb.out.far hg1 HNb.out); clear ho1 hb1 hg1)
            | (refine step_app_wait rfl (.tmp 56) (.tmp 59) rfl WE.heap.size _ [] (some ⟨g, o, none⟩) (l.take ko) ko c HLn rfl rfl HOc.out (HL.out _ HBc.out) HL0 HBc.out.size ?_; intro V1 W1 ho1 hb1 hg1; have HO1 := Lib.hid ho1; have HB1 := Lib.hid (HBc.out.trans hb1); have HE1 := Lib.hid (HEc.out.far hg1 HNc.out); clear ho1 hb1 hg1))
        all_goals (
          go_wp2
          go_loopw [8, 9] (fun V i wr2 => ∃ (q : Nat) (A4 : Option Addr) (c4 : Nat), ko ≤ q ∧ q ≤ n ∧ i = .int .i64 q ∧ V = .slice A4 (q + 1) c4 ∧ Hid (OwnW wr2 WE.heap.size (.slice A4 (q + 1) c4) (l.take ko ++ ((x, y, z), (m, v), p, 0) :: ((l.drop ko).take (q - ko)).map bump)) ∧ Hid (Below WE.heap.size WE wr2)) (fun _ i _ => n - (intOf i).toNat)
          case atStart => exact ⟨ko, A3, c3, by omega, hkn, by rw [HKQ.out], rfl, Lib.hid (by rw [Nat.sub_self, List.take_zero]; exact HO2.out), HB2⟩
          case round =>
            obtain ⟨q, A4, c4, hq1, hq2, rfl, rfl, hO, hB4⟩ := hrel
            clear HL HOa HOb HOc HBa HBb HBc HEb HEc HNb HNc
            by_cases hq3 : (q : Int) < (n : Int)
            · obtain ⟨g2, o2, x2, y2, z2, m2, v2, p2, u2, hA2, hg2, hx2, c1, c2, c3', c4', c5, c6, c7⟩ := (HR.out.below (nx HBE.out hB4.out)).at_ (i := q) (by have := hn.out; omega)
              cases hA2
              have hu2 : 0 ≤ u2 ∧ u2 ≤ 3 := by
                have h1 := vW_num (HVL.out.2.1 _ (getD_memW (l := l) (i := q) (by have := hn.out; omega)))
                rw [hx2.out] at h1
                exact h1.2.2
              have e8 : IntKind.i64.wrap (u2 + 1) = u2 + 1 := by rw [IntKind.wrap_i64]; omega
              have e9 : IntKind.i64.wrap ((q : Int) + 1) = (q : Int) + 1 := by rw [IntKind.wrap_i64]; omega
              have h1 : Hid (([((x2, y2, z2), (m2, v2), p2, u2 + 1)] : List Wt).length = 1) := Lib.hid rfl
              have hXl : Hid ((l.take ko ++ ((x, y, z), (m, v), p, 0) :: ((l.drop ko).take (q - ko)).map bump).length = q + 1) := Lib.hid (by
                obtain ⟨A5, c5, hv5, -, -, -⟩ := hO.out.form
                injection hv5 with _ hv5 _
                exact hv5.symm)
              have hlen : Hid ((l.take ko ++ ((x, y, z), (m, v), p, 0) :: ((l.drop ko).take (q - ko)).map bump).length + 1 ≤ 1000000) := Lib.hid (by rw [hXl.out]; omega)
              have hXs : Hid ((l.take ko ++ ((x, y, z), (m, v), p, 0) :: ((l.drop ko).take (q - ko)).map bump) ++ [((x2, y2, z2), (m2, v2), p2, u2 + 1)] = l.take ko ++ ((x, y, z), (m, v), p, 0) :: ((l.drop ko).take (q + 1 - ko)).map bump) := Lib.hid (by
                have h2 := putW_take l ((x, y, z), (m, v), p, 0) (k := ko) (j := q) hq1 (by have := hn.out; omega)
                rw [hx2.out] at h2
                rw [show q + 1 - ko = q - ko + 1 by omega, h2]
                rfl)
              have hXm : Hid ((l.take ko ++ ((x, y, z), (m, v), p, 0) :: ((l.drop ko).take (q + 1 - ko)).map bump).length = q + 1 + 1) := Lib.hid (by rw [← hXs.out, List.length_append, hXl.out]; rfl)
              go_wp2_with (at_builtin; (refine app_wait rfl (.tmp 79) (.tmp 81) rfl WE.heap.size _ _ (some ⟨_, 0, none⟩) [((x2, y2, z2), (m2, v2), p2, u2 + 1)] 1 1 h1 rfl rfl (hO.out.below (new2 _ _ _)) (WRd.one (z7_blk (Blk.new _ _ _ (by simp)))) hlen (nx hB4.out (new2 _ _ _)).size ?_); intro V5 W5 ho5 hb5; rw [hXs.out] at ho5; obtain ⟨A5, c5, hv5, -, -, -⟩ := ho5.form; rw [hXm.out] at hv5; subst hv5; have HO5 := Lib.hid ho5; have HB5 := Lib.hid ((nx hB4.out (new2 _ _ _)).trans hb5); clear ho5 hb5)
              go_roundw
              case rel => exact ⟨q + 1, A5, c5, by omega, by omega, by go_num, rfl, HO5, HB5⟩
              case measure => (simp [intOf] <;> omega)
            · have hqn : q = n := by omega
              subst hqn
              have hXe : Hid (l.take ko ++ ((x, y, z), (m, v), p, 0) :: ((l.drop ko).take (q - ko)).map bump = putW l ((x, y, z), (m, v), p, 0) at_) := Lib.hid (by
                rw [HAT.out, putW, show (l.drop ko).take (q - ko) = l.drop ko from List.take_of_length_le (by have := hn.out; rw [List.length_drop]; omega)])
              have hEO : Hid (OwnW _ w.heap.size (.slice A4 (q + 1) c4) (putW l ((x, y, z), (m, v), p, 0) at_)) := Lib.hid (by rw [← hXe.out]; exact hO.out.low HBE.out.size)
              have hak : Hid (((j : Int) + 1 : Int) = (at_ : Int)) := Lib.hid (by rw [HKQ.out, HAT.out])
              go_wp2
              refine bodyPost_ret (v := .tuple #[.slice A4 (q + 1) c4, .int .i64 ((j : Int) + 1), .int .i64 0]) (by simp [results, Try.results16, go_sem]) rfl ?_
              exact ⟨⟨A4, c4, by rw [hak.out], hEO.out⟩, nx HBE.out hB4.out⟩)
end Go.Proofs.Ytfcekfdoafpmoaa
