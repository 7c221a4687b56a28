/- Contracts of the program: Valid, Remove, Ahead of lines. -/
import Derived.Test.YtfcekfdoafpmoaaJpa
import Derived.Test.YtfcekfdoafpmoaaJmk
namespace Go.Proofs.Ytfcekfdoafpmoaa
open Go.RowKit
set_option linter.unusedVariables false
set_option linter.unusedSimpArgs false

theorem findW_le {l : List Wt} {j : Nat} (hj : j < l.length) : findW l (l.getD j default).1 ≤ (j : Int) := by
  have hm : ∃ x ∈ l, x.1 = (l.getD j default).1 := ⟨_, getD_memW hj, rfl⟩
  rw [findW_some hm]
  have := (ndxW_spec (l := l) (p := (l.getD j default).1)).2
  rcases Nat.lt_or_ge j (ndxW l (l.getD j default).1) with h | h
  · exact absurd rfl (this j h)
  · omega
set_option maxHeartbeats 8000000 in
set_option maxRecDepth 20000 in
theorem vl_is (A : Option Addr) (n c : Nat) (l : List Wt) (w : World) (hl : WRd w A l) (hn : Hid (l.length = n)) (hm : Hid (n ≤ 1000)) {r : Bool} (hr : Hid (VL l ↔ r = true)) :
    Calls Try.prog 13 #[.slice A n c] w fun e w' => e = .returned (.bool r) ∧ Below w.heap.size w w' := by
  have HR := Lib.hid hl
  clear hl
  by_cases h8 : 8 < (n : Int)
  · have hend : Hid (r = false) := iffNoJ hr.out (fun h => by have := h.1; have := hn.out; omega)
    go_enter Try.func13, Try.ntmps13
    go_wp2
    go_ret
    exact ⟨ret_bool hend.out.symm, Below.refl _ _⟩
  · go_enter Try.func13, Try.ntmps13
    go_wp2
    go_loopw [10] (fun i wr => ∃ (j : Nat), j ≤ n ∧ i = .int .i64 j ∧ Hid (Below w.heap.size w wr) ∧ Hid (∀ i, i < j → okW l i)) (fun i _ => n - (intOf i).toNat)
    case atStart => exact ⟨0, by omega, rfl, Lib.hid (Below.refl _ _), fun i hi => by omega⟩
    case round =>
      obtain ⟨j, hj, rfl, hB, hall⟩ := hrel
      by_cases hlt : (j : Int) < (n : Int)
      · obtain ⟨g, o, x, y, z, m, v, p, q, rfl, hg, hx, c1, c2, c3, c4, c5, c6, c7⟩ := (HR.out.below hB.out).at_ (i := j) (by have := hn.out; omega)
        have e5 : IntKind.i64.wrap ((j : Int) + 1) = (j : Int) + 1 := by have := hm.out; rw [IntKind.wrap_i64]; omega
        obtain ⟨b1, hb1⟩ : ∃ b1, Hid (vW ((x, y, z), (m, v), p, q) = b1) := ⟨_, Lib.hid rfl⟩
        obtain ⟨f, hf⟩ : ∃ f, Hid (findW l (x, y, z) = f) := ⟨_, Lib.hid rfl⟩
        have hok : Hid (okW l j ↔ b1 = true ∧ f = (j : Int)) := Lib.hid (by
          unfold okW
          rw [hx.out, ← hb1.out, ← hf.out])
        have hfle : f ≤ (j : Int) := by
          have h1 := findW_le (l := l) (j := j) (by have := hn.out; omega)
          rw [hx.out, hf.out] at h1
          exact h1
        have HBN := Lib.hid (nxA hB.out (.cells #[.int .i64 x, .int .i64 y, .int .i64 z, .int .i64 m, .int .i64 v, .int .i64 p, .int .i64 q] 28))
        have HKN := Lib.hid (Blk.new wr [.int .i64 x, .int .i64 y, .int .i64 z, .int .i64 m, .int .i64 v, .int .i64 p, .int .i64 q] 28 rfl)
        cases b1 with
        | false =>
          have hend : Hid (r = false) := iffNoJ hr.out (fun h => by have := hok.out.1 ((VL_iff.1 h).2 j (by have := hn.out; omega)); cases this.1)
          clear hr
          go_wp2_with (go_at_call 11; refine (vw_is x y z m v p q _ hb1).mono ?_; rintro e W1 ⟨rfl, hb1'⟩; have HB1 := Lib.hid (nx HBN.out hb1'); clear hb1')
          go_ret
          exact ⟨ret_bool hend.out.symm, HB1.out⟩
        | true =>
          by_cases hfj : f < (j : Int)
          · have hend : Hid (r = false) := iffNoJ hr.out (fun h => by have := hok.out.1 ((VL_iff.1 h).2 j (by have := hn.out; omega)); have := this.2; omega)
            clear hr hall
            go_wp2_with (first
              | (go_at_call 11; refine (vw_is x y z m v p q _ hb1).mono ?_; rintro e W1 ⟨rfl, hb1'⟩; have HB1 := Lib.hid (nx HBN.out hb1'); have HK1 := Lib.hid (HKN.out.up hb1' HKN.out.lt); clear hb1'; have i0 := HK1.out.cell 0 rfl; have i1 := HK1.out.cell 1 rfl; have i2 := HK1.out.cell 2 rfl)
              | (go_at_call 20; refine (find_is _ n c l x y z _ (HR.out.below HB1.out) hn hm hf).mono ?_; rintro e W2 ⟨rfl, hb2'⟩; have HB2 := Lib.hid (nx HB1.out hb2'); clear hb2'))
            go_ret
            exact ⟨ret_bool hend.out.symm, HB2.out⟩
          · have hfe : f = (j : Int) := by omega
            subst hfe
            have hall2 : Hid (∀ i, i < j + 1 → okW l i) := Lib.hid (fun i hi => by
              by_cases hij : i = j
              · subst hij; exact hok.out.2 ⟨rfl, rfl⟩
              · exact hall.out i (by omega))
            clear hr hall
            go_wp2_with (first
              | (go_at_call 11; refine (vw_is x y z m v p q _ hb1).mono ?_; rintro e W1 ⟨rfl, hb1'⟩; have HB1 := Lib.hid (nx HBN.out hb1'); have HK1 := Lib.hid (HKN.out.up hb1' HKN.out.lt); clear hb1'; have i0 := HK1.out.cell 0 rfl; have i1 := HK1.out.cell 1 rfl; have i2 := HK1.out.cell 2 rfl)
              | (go_at_call 20; refine (find_is _ n c l x y z _ (HR.out.below HB1.out) hn hm hf).mono ?_; rintro e W2 ⟨rfl, hb2'⟩; have HB2 := Lib.hid (nx HB1.out hb2'); clear hb2'))
            go_roundw
            case rel => exact ⟨j + 1, by omega, by go_num, HB2, hall2⟩
            case measure => simp [intOf]; omega
      · have hend : Hid (r = true) := iffYesJ hr.out (VL_iff.2 ⟨by have := hn.out; omega, fun i hi => hall.out i (by have := hn.out; omega)⟩)
        clear hr
        go_wp2
        go_ret
        exact ⟨ret_bool hend.out.symm, hB.out⟩
set_option maxHeartbeats 1000000 in
theorem remPred_is (g : Nat) (a b d x y z m v p q : Int) (w : World) (h : Blk w g [.int .i64 a, .int .i64 b, .int .i64 d]) :
    Calls Try.prog 39 #[wag x y z m v p q, .pointer (some ⟨g, 0, none⟩)] w fun e w' => e = .returned (.bool (decide ((x, y, z) = (a, b, d)))) ∧ Below w.heap.size w w' := by
  have i0 := h.cell 0 rfl
  have i1 := h.cell 1 rfl
  have i2 := h.cell 2 rfl
  have hl0 := h.lt
  obtain ⟨β, hβ⟩ : ∃ β, Hid (decide (x = a ∧ y = b ∧ z = d) = β) := ⟨_, rfl⟩
  have he : ∀ W : World, (binOp .eql 24 (.agg #[.int .i64 x, .int .i64 y, .int .i64 z]) (.agg #[.int .i64 a, .int .i64 b, .int .i64 d])).run Try.prog W = .ok (.bool β) W := fun W => by rw [← hβ.out]; exact eqPr x y z a b d W
  go_enter Try.func39, Try.ntmps39
  go_wp2
  go_ret
  refine ⟨ret_bool ?_, newB _ _⟩
  rw [← hβ.out]
  simp
set_option maxHeartbeats 4000000 in
set_option maxRecDepth 20000 in
theorem rem_is (A : Option Addr) (n c : Nat) (l : List Wt) (a b d : Int) (w : World) (hl : WRd w A l) (hn : Hid (l.length = n)) (hm : Hid (n ≤ 1000)) {D : List Wt} (hD : Hid (delW l (a, b, d) = D)) {q : Nat} (hq : Hid (D.length = q)) :
    Calls Try.prog 18 #[.slice A n c, .agg #[.int .i64 a, .int .i64 b, .int .i64 d]] w fun e w' => (∃ A' c', e = .returned (.tuple #[.slice A' q c', .bool (decide ((q : Int) < (n : Int)))]) ∧ OwnW w' w.heap.size (.slice A' q c') D) ∧ Below w.heap.size w w' := by
  have HR := Lib.hid hl
  obtain ⟨W0, hW0⟩ : ∃ W0, Hid (w.alloc (.cells #[.int .i64 a, .int .i64 b, .int .i64 d] 24) = W0) := ⟨_, rfl⟩
  have HK0 := Lib.hid (Blk.new w [.int .i64 a, .int .i64 b, .int .i64 d] 24 rfl)
  have HB0 := Lib.hid (newB w (.cells #[.int .i64 a, .int .i64 b, .int .i64 d] 24))
  have eK : ∀ args w, (callFunc 39 args).run Try.prog w = .ok (.enter 39 args) w := enters_of Try.func39 (by kernel_rfl) rfl
  rw [hW0.out] at HK0 HB0
  have HPR : Hid (∀ W1, Below W0.heap.size W0 W1 → PredW Try.prog 39 #[.pointer (some ⟨w.heap.size, 0, none⟩)] (fun x => decide (x.1 = (a, b, d))) W0.heap.size W1) := Lib.hid (fun W1 h1 x y z m v p q W hW => remPred_is w.heap.size a b d x y z m v p q W (HK0.out.up (h1.trans hW) HK0.out.lt))
  have hdl : Hid (l.filter (fun x => !decide (x.1 = (a, b, d))) = D) := Lib.hid hD.out
  have hml : Hid (l.length ≤ 1000) := Lib.hid (by rw [hn.out]; exact hm.out)
  have hS0 : Hid (w.heap.size ≤ W0.heap.size) := Lib.hid HB0.out.size
  clear hl hD
  go_enter Try.func18, Try.ntmps18
  go_upto_region 1 with fail
  rw [hW0.out]
  go_wp2_with (first
    | (go_at_call 38; refine (cloneW A n c l _ (HR.out.below HB0.out) hn hm).mono ?_; rintro e W1 ⟨⟨V1, rfl, ho1⟩, hb1⟩; have HO1 := Lib.hid ho1; have HB1 := Lib.hid hb1; clear ho1 hb1)
    | (go_at_call 37; refine (deleteW 39 #[.pointer (some ⟨w.heap.size, 0, none⟩)] (fun x => decide (x.1 = (a, b, d))) eK W0.heap.size V1 l _ HB1.out.size (HPR.out _ HB1.out) HO1.out hml).mono ?_; rintro e W2 ⟨⟨V2, rfl, ho2⟩, hb2⟩; rw [hdl.out] at ho2; obtain ⟨A2, c2, hv2, -, -, -⟩ := ho2.form; rw [hq.out] at hv2; subst hv2; have HO2 := Lib.hid (ho2.low hS0.out); have HB2 := Lib.hid (nx HB0.out (HB1.out.trans hb2)); clear ho2 hb2))
  exact bodyPost_ret (v := .tuple #[.slice A2 q c2, .bool (decide ((q : Int) < (n : Int)))]) (by simp [results, Try.results18, go_sem]) rfl ⟨⟨A2, c2, rfl, HO2.out⟩, HB2.out⟩
/-! ### Ahead -/
set_option maxHeartbeats 4000000 in
set_option maxRecDepth 20000 in
theorem ahd_is (A : Option Addr) (n c : Nat) (l : List Wt) (a b d : Int) (w : World) (hl : WRd w A l) (hn : Hid (l.length = n)) (hm : Hid (n ≤ 1000)) (hcap : n ≤ c) {am : List P3} (ham : Hid (ahdW l (a, b, d) = am)) {q : Nat} (hq : Hid (am.length = q)) :
    Calls Try.prog 23 #[.slice A n c, .agg #[.int .i64 a, .int .i64 b, .int .i64 d]] w fun e w' => (∃ A' c', e = .returned (.slice A' q c') ∧ PRd w' A' am) ∧ Below w.heap.size w w' := by
  have HR := Lib.hid hl
  obtain ⟨f, hf⟩ : ∃ f, Hid (findW l (a, b, d) = f) := ⟨_, Lib.hid rfl⟩
  have hf1 : -1 ≤ f ∧ f < n := by have := findW_ge l (a, b, d); rw [hf.out, hn.out] at this; exact this
  have ham2 : Hid (am = (l.take f.toNat).map fun x => x.1) := Lib.hid (by rw [← ham.out, ahdW, hf.out])
  have hqf : Hid (q = f.toNat) := Lib.hid (by rw [← hq.out, ham2.out, List.length_map, List.length_take, hn.out]; omega)
  have hat : Hid (∀ j, j < q → am.getD j default = (l.getD j default).1) := Lib.hid (fun j hj => by
    have hjl : j < l.length := by rw [hn.out]; have := hqf.out; omega
    have hjf : j < f.toNat := by have := hqf.out; omega
    rw [ham2.out]
    simp [List.getD_eq_getElem?_getD, List.getElem?_map, List.getElem?_take, hjf, List.getElem?_eq_getElem hjl])
  have HB0 := Lib.hid (newB w (.cells #[.int .i64 a, .int .i64 b, .int .i64 d] 24))
  have HK0 := Lib.hid (Blk.new w [.int .i64 a, .int .i64 b, .int .i64 d] 24 rfl)
  clear hl ham
  by_cases hneg : f < 0
  · have hq0 : Hid (q = 0) := Lib.hid (by rw [hqf.out]; omega)
    have HE : Hid (∀ W, PRd W none am) := Lib.hid (fun W => by
      have : am = [] := List.eq_nil_of_length_eq_zero (by rw [hq.out, hq0.out])
      rw [this]
      exact PRd.nil _ _)
    go_enter Try.func23, Try.ntmps23
    go_wp2_with (go_at_call 20; refine (find_is _ n c l a b d _ (HR.out.below HB0.out) hn hm hf).mono ?_; rintro e W1 ⟨rfl, hb1⟩; have HB1 := Lib.hid (nx HB0.out hb1); clear hb1)
    go_ret
    exact ⟨⟨none, 0, by rw [hq0.out]; rfl, HE.out _⟩, HB1.out⟩
  · have hfq : f = (q : Int) := by have := hqf.out; omega
    subst hfq
    have hqn : q < n := by omega
    have hmk := make_pr q (by have := hm.out; omega)
    have hcut := cutW_front (A := A) (n := n) (c := c) (k := q) (by omega)
    clear hneg hf1
    go_enter Try.func23, Try.ntmps23
    go_wp2_with (go_at_call 20; refine (find_is _ n c l a b d _ (HR.out.below HB0.out) hn hm hf).mono ?_; rintro e W1 ⟨rfl, hb1⟩; have HB1 := Lib.hid (nx HB0.out hb1); clear hb1)
    have HS1 := Lib.hid HB1.out.size
    go_loopw [20] (fun i wr => ∃ (j : Nat), j ≤ q ∧ i = .int .i64 j ∧ Hid (OwnPr wr w.heap.size (.slice (some ⟨W1.heap.size, 0, none⟩) q q) (am.take j ++ zPr (q - j))) ∧ Hid (Below w.heap.size w wr)) (fun i _ => q - (intOf i).toNat)
    case atStart => exact ⟨0, by omega, rfl, Lib.hid (by rw [List.take_zero, List.nil_append, Nat.sub_zero]; exact own_low (own_pr_new W1 q (by have := hm.out; omega)) HS1.out rfl), nxA HB1.out _⟩
    case round =>
      obtain ⟨j, hj, rfl, hO, hB⟩ := hrel
      by_cases hlt : (j : Int) < (q : Int)
      · obtain ⟨g, o, x, y, z, m, v, p, u, rfl, hg, hx, c1, c2, c3, c4, c5, c6, c7⟩ := (HR.out.below hB.out).at_ (i := j) (by have := hn.out; omega)
        have e5 : IntKind.i64.wrap ((j : Int) + 1) = (j : Int) + 1 := by have := hm.out; rw [IntKind.wrap_i64]; omega
        have hjn : (j : Int) < (n : Int) := by omega
        have hlen : Hid ((am.take j ++ zPr (q - j)).length = q) := Lib.hid (by have := hq.out; simp; omega)
        have hO2 : OwnPr wr w.heap.size (.slice (some ⟨W1.heap.size, 0, none⟩) q q) (am.take j ++ zPr (q - j)) := hO.out
        unfold OwnPr at hO2
        rw [hlen.out] at hO2
        have d1 := own_cells hO2 (j := j * 3) (by omega)
        have d2 := own_cells hO2 (j := j * 3 + 1) (by omega)
        have d3 := own_cells hO2 (j := j * 3 + 2) (by omega)
        have f1 := hO2.frozenAt (j * 3)
        have f2 := hO2.frozenAt (j * 3 + 1)
        have f3 := hO2.frozenAt (j * 3 + 2)
        have hl0 : W1.heap.size < wr.heap.size := World.block_lt_of_cell? wr _ (Option.isSome_iff_exists.1 d1).choose_spec
        obtain ⟨u1, d1⟩ := Option.isSome_iff_exists.1 d1
        obtain ⟨u2, d2⟩ := Option.isSome_iff_exists.1 d2
        obtain ⟨u3, d3⟩ := Option.isSome_iff_exists.1 d3
        have hst : Hid ((am.take j ++ zPr (q - j)).set j (x, y, z) = am.take (j + 1) ++ zPr (q - (j + 1))) := Lib.hid (by
          have h1 := fill_step am ((0, 0, 0) : P3) hq.out (k := j) (by omega)
          rw [hat.out j (by omega), hx.out] at h1
          exact h1)
        have HO3 := Lib.hid ((hO.out.store hlen.out j (x, y, z)).below (newB _ (.cells #[.int .i64 x, .int .i64 y, .int .i64 z, .int .i64 m, .int .i64 v, .int .i64 p, .int .i64 u] 28)))
        rw [hst.out] at HO3
        have HB3 := Lib.hid (nxA (((hB.out.setCell (p := ⟨W1.heap.size, j * 3, none⟩) HS1.out (.int .i64 x)).setCell (p := ⟨W1.heap.size, j * 3 + 1, none⟩) HS1.out (.int .i64 y)).setCell (p := ⟨W1.heap.size, j * 3 + 2, none⟩) HS1.out (.int .i64 z)) (.cells #[.int .i64 x, .int .i64 y, .int .i64 z, .int .i64 m, .int .i64 v, .int .i64 p, .int .i64 u] 28))
        clear hO2
        go_wp2
        go_roundw
        case rel => exact ⟨j + 1, by omega, by go_num, HO3, HB3⟩
        case measure => simp [intOf]; omega
      · have hjq : j = q := by omega
        subst hjq
        have HE : Hid (PRd wr (some ⟨W1.heap.size, 0, none⟩) am) := Lib.hid (by
          have h1 := hO.out
          rw [List.take_of_length_le (by rw [hq.out]; omega), Nat.sub_self, show zPr 0 = [] from rfl, List.append_nil] at h1
          obtain ⟨A3, c3, hv, -, hr, -⟩ := h1.form
          injection hv with hv
          rw [hv]
          exact hr)
        go_wp2
        go_ret
        exact ⟨⟨_, ⟨_, rfl⟩, HE.out⟩, hB.out⟩
end Go.Proofs.Ytfcekfdoafpmoaa
