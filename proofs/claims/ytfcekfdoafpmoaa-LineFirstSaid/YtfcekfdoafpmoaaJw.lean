/- Contracts of the reference: Valid, Remove, Ahead of lines. -/
import Derived.Test.YtfcekfdoafpmoaaJv
namespace Go.Proofs.Ytfcekfdoafpmoaa
open Go.RowKit
set_option linter.unusedVariables false
set_option linter.unusedSimpArgs false

theorem iffNoJ {P : Prop} {r : Bool} (h : P ↔ r = true) (hn : ¬ P) : Hid (r = false) := Lib.hid (by
  cases r
  · rfl
  · exact absurd (h.2 rfl) hn)
theorem iffYesJ {P : Prop} {r : Bool} (h : P ↔ r = true) (hp : P) : Hid (r = true) := Lib.hid (h.1 hp)
set_option maxHeartbeats 8000000 in
set_option maxRecDepth 20000 in
theorem refVL_is (A : Option Addr) (n c : Nat) (l : List Wt) (w : World) (hl : WRd w A l) (hn : Hid (l.length = n)) (hm : Hid (n ≤ 1000)) {r : Bool} (hr : Hid (VL l ↔ r = true)) :
    Calls Try.prog 14 #[.slice A n c] w fun e w' => e = .returned (.bool r) ∧ Below w.heap.size w w' := by
  have HR := Lib.hid hl
  clear hl
  by_cases h8 : 8 < (n : Int)
  · have hend : Hid (r = false) := iffNoJ hr.out (fun h => by have := h.1; have := hn.out; omega)
    go_enter Try.func14, Try.ntmps14
    go_wp2
    go_ret
    exact ⟨ret_bool hend.out.symm, Below.refl _ _⟩
  · go_enter Try.func14, Try.ntmps14
    go_wp2
    go_loopw [3] (fun i wr => ∃ (j : Nat), j ≤ n ∧ i = .int .i64 j ∧ Hid (Below w.heap.size w wr) ∧ Hid (∀ i, i < j → okW l i)) (fun i _ => n - (intOf i).toNat)
    case atStart => exact ⟨0, by omega, rfl, Lib.hid (Below.refl _ _), fun i hi => by omega⟩
    case round =>
      obtain ⟨j, hj, rfl, hB, hall⟩ := hrel
      by_cases hlt : (j : Int) < (n : Int)
      · obtain ⟨g, o, x, y, z, m, v, p, q, rfl, hg, hx, c1, c2, c3, c4, c5, c6, c7⟩ := (HR.out.below hB.out).at_ (i := j) (by have := hn.out; omega)
        have e5 : IntKind.i64.wrap ((j : Int) + 1) = (j : Int) + 1 := by have := hm.out; rw [IntKind.wrap_i64]; omega
        obtain ⟨b1, hb1⟩ : ∃ b1, Hid (vW ((x, y, z), (m, v), p, q) = b1) := ⟨_, Lib.hid rfl⟩
        obtain ⟨f, hf⟩ : ∃ f, Hid (findW l (x, y, z) = f) := ⟨_, Lib.hid rfl⟩
        have hok : Hid (okW l j ↔ b1 = true ∧ f = (j : Int)) := Lib.hid (by
          unfold okW
          rw [hx.out, ← hb1.out, ← hf.out])
        have HZ : Hid (Z7 wr g (o + j * 7) ((x, y, z), (m, v), p, q)) := Lib.hid ⟨c1, c2, c3, c4, c5, c6, c7⟩
        cases b1 with
        | false =>
          have hend : Hid (r = false) := iffNoJ hr.out (fun h => by have := hok.out.1 ((VL_iff.1 h).2 j (by have := hn.out; omega)); cases this.1)
          clear hr
          go_wp2_with (go_at_call 12; refine (refVW_is x y z m v p q _ hb1).mono ?_; rintro e W1 ⟨rfl, hb1'⟩; have HB1 := Lib.hid (nx hB.out hb1'); clear hb1')
          go_ret
          exact ⟨ret_bool hend.out.symm, HB1.out⟩
        | true =>
          by_cases hfj : f = (j : Int)
          · subst hfj
            have hall2 : Hid (∀ i, i < j + 1 → okW l i) := Lib.hid (fun i hi => by
              by_cases hij : i = j
              · subst hij; exact hok.out.2 ⟨rfl, rfl⟩
              · exact hall.out i (by omega))
            clear hr hall
            go_wp2_with (first
              | (go_at_call 12; refine (refVW_is x y z m v p q _ hb1).mono ?_; rintro e W1 ⟨rfl, hb1'⟩; have HB1 := Lib.hid (nx hB.out hb1'); obtain ⟨d1, d2, d3, -, -, -, -⟩ := HZ.out.below hb1'; clear hb1')
              | (go_at_call 21; refine (refFind_is _ n c l x y z _ (HR.out.below HB1.out) hn hm hf).mono ?_; rintro e W2 ⟨rfl, hb2'⟩; have HB2 := Lib.hid (nx HB1.out hb2'); clear hb2'))
            go_roundw
            case rel => exact ⟨j + 1, by omega, by go_num, HB2, hall2⟩
            case measure => simp [intOf]; omega
          · have hend : Hid (r = false) := iffNoJ hr.out (fun h => by have := hok.out.1 ((VL_iff.1 h).2 j (by have := hn.out; omega)); exact hfj this.2)
            clear hr hall
            go_wp2_with (first
              | (go_at_call 12; refine (refVW_is x y z m v p q _ hb1).mono ?_; rintro e W1 ⟨rfl, hb1'⟩; have HB1 := Lib.hid (nx hB.out hb1'); obtain ⟨d1, d2, d3, -, -, -, -⟩ := HZ.out.below hb1'; clear hb1')
              | (go_at_call 21; refine (refFind_is _ n c l x y z _ (HR.out.below HB1.out) hn hm hf).mono ?_; rintro e W2 ⟨rfl, hb2'⟩; have HB2 := Lib.hid (nx HB1.out hb2'); clear hb2'))
            go_ret
            exact ⟨ret_bool hend.out.symm, HB2.out⟩
      · have hend : Hid (r = true) := iffYesJ hr.out (VL_iff.2 ⟨by have := hn.out; omega, fun i hi => hall.out i (by have := hn.out; omega)⟩)
        clear hr
        go_wp2
        go_ret
        exact ⟨ret_bool hend.out.symm, hB.out⟩
theorem z7_blk {w : World} {g : Nat} {x y z m n p q : Int} (h : Blk w g [.int .i64 x, .int .i64 y, .int .i64 z, .int .i64 m, .int .i64 n, .int .i64 p, .int .i64 q]) : Z7 w g 0 ((x, y, z), (m, n), p, q) :=
  ⟨h.cell 0 rfl, h.cell 1 rfl, h.cell 2 rfl, h.cell 3 rfl, h.cell 4 rfl, h.cell 5 rfl, h.cell 6 rfl⟩
theorem OwnW.low {w : World} {base base' : Nat} {v : Value} {l : List Wt} (h : OwnW w base v l) (hb : base' ≤ base) : OwnW w base' v l := own_low h hb rfl
set_option maxHeartbeats 4000000 in
set_option maxRecDepth 8000 in
theorem refRemove_is (A : Option Addr) (n c : Nat) (l : List Wt) (a b d : Int) (w : World) (hl : WRd w A l) (hn : Hid (l.length = n)) (hm : Hid (n ≤ 1000)) {D : List Wt} (hD : Hid (delW l (a, b, d) = D)) {q : Nat} (hq : Hid (D.length = q)) :
    Calls Try.prog 19 #[.slice A n c, .agg #[.int .i64 a, .int .i64 b, .int .i64 d]] w fun e w' => (∃ A' c', e = .returned (.tuple #[.slice A' q c', .bool (decide ((q : Int) < (n : Int)))]) ∧ OwnW w' w.heap.size (.slice A' q c') D) ∧ Below w.heap.size w w' := by
  have HR := Lib.hid hl
  have HK0 := Lib.hid (Blk.new w [.int .i64 a, .int .i64 b, .int .i64 d] 24 rfl)
  have hS0 : Hid ((w.alloc (.cells #[.int .i64 a, .int .i64 b, .int .i64 d] 24)).heap.size = w.heap.size + 1) := Lib.hid (by simp)
  clear hl
  go_enter Try.func19, Try.ntmps19
  go_wp2
  go_loopw [6, 7] (fun V i wr => ∃ (j k : Nat) (A2 : Option Addr) (c2 : Nat), j ≤ n ∧ k ≤ j ∧ i = .int .i64 j ∧ V = .slice A2 k c2 ∧ Hid ((delW (l.take j) (a, b, d)).length = k) ∧ Hid (OwnW wr (w.heap.size + 1) (.slice A2 k c2) (delW (l.take j) (a, b, d))) ∧ Hid (Blk wr w.heap.size [.int .i64 a, .int .i64 b, .int .i64 d]) ∧ Hid (Below w.heap.size w wr)) (fun _ i _ => n - (intOf i).toNat)
  case atStart => exact ⟨0, 0, none, 0, by omega, by omega, rfl, rfl, Lib.hid (by simp [delW]), Lib.hid (by rw [List.take_zero]; exact OwnW.nil _ _), HK0, Lib.hid (newB _ _)⟩
  case round =>
    obtain ⟨j, k, A2, c2, hj, hkj, rfl, rfl, hk, hO, hb0, hB⟩ := hrel
    have i0 := hb0.out.cell 0 rfl
    have i1 := hb0.out.cell 1 rfl
    have i2 := hb0.out.cell 2 rfl
    by_cases hlt : (j : Int) < (n : Int)
    · obtain ⟨g, o, x, y, z, m, v, p, u, rfl, hg, hx, c1, c2', c3, c4, c5, c6, c7⟩ := (HR.out.below hB.out).at_ (i := j) (by have := hn.out; omega)
      have HZ : Hid (Z7 wr g (o + j * 7) ((x, y, z), (m, v), p, u)) := Lib.hid ⟨c1, c2', c3, c4, c5, c6, c7⟩
      have hsn := Lib.hid (delW_snoc l (a, b, d) (k := j) (by have := hn.out; omega))
      have e5 : IntKind.i64.wrap ((j : Int) + 1) = (j : Int) + 1 := by have := hm.out; rw [IntKind.wrap_i64]; omega
      by_cases he : x = a ∧ y = b ∧ z = d
      · obtain ⟨rfl, rfl, rfl⟩ := he
        have hsn2 : Hid (delW (l.take (j + 1)) (x, y, z) = delW (l.take j) (x, y, z)) := Lib.hid (by rw [hsn.out, hx.out, if_pos rfl, List.append_nil])
        have hne : ∀ W : World, (binOp .neq 24 (.agg #[.int .i64 x, .int .i64 y, .int .i64 z]) (.agg #[.int .i64 x, .int .i64 y, .int .i64 z])).run Try.prog W = .ok (.bool false) W := fun W => by rw [neqPr]; simp
        go_wp2
        go_quiet (fail)
        go_wp2
        go_roundw
        case rel => exact ⟨j + 1, k, A2, c2, by omega, by omega, by go_num, rfl, by rw [hsn2.out]; exact hk, Lib.hid (by rw [hsn2.out]; exact hO.out.below (bdN (Below.refl _ _) _)), hb0.out.up (bdN (Below.refl _ _) _) hb0.out.lt, bdN hB.out _⟩
        case measure => simp [intOf]; omega
      · have hsn2 : Hid (delW (l.take (j + 1)) (a, b, d) = delW (l.take j) (a, b, d) ++ [((x, y, z), (m, v), p, u)]) := Lib.hid (by rw [hsn.out, hx.out, if_neg (by simpa using he)])
        have hne : ∀ W : World, (binOp .neq 24 (.agg #[.int .i64 x, .int .i64 y, .int .i64 z]) (.agg #[.int .i64 a, .int .i64 b, .int .i64 d])).run Try.prog W = .ok (.bool true) W := fun W => by rw [neqPr]; simp [he]
        have h1 : Hid (([((x, y, z), (m, v), p, u)] : List Wt).length = 1) := Lib.hid rfl
        have h2 : Hid ((delW (l.take j) (a, b, d)).length + 1 ≤ 1000000) := Lib.hid (by have := hm.out; have := hk.out; omega)
        have hk1 : Hid ((delW (l.take j) (a, b, d) ++ [((x, y, z), (m, v), p, u)]).length = k + 1) := Lib.hid (by rw [List.length_append, hk.out]; rfl)
        clear he
        go_wp2
        go_quiet (fail)
        go_wp2_with (at_builtin; (refine app_wait rfl (.tmp 21) (.tmp 26) rfl (w.heap.size + 1) _ (delW (l.take j) (a, b, d)) (some ⟨_, 0, none⟩) [((x, y, z), (m, v), p, u)] 1 1 h1 rfl rfl (hO.out.below (nxA (bdN (Below.refl _ _) _) _)) (WRd.one (z7_blk (Blk.new _ _ _ rfl))) h2 (by have := hb0.out.lt; simp; omega) ?_); intro V2 W2 ho2 hb2; obtain ⟨A3, c3', hv3, -, -, -⟩ := ho2.form; rw [hk1.out] at hv3; subst hv3; rw [← hsn2.out] at ho2; have HO2 := Lib.hid ho2; have HB2 := Lib.hid ((nxA (bdN hB.out _) _).trans (hb2.mono (by omega))); have HK2 := Lib.hid ((hb0.out.up (nxA (bdN (Below.refl _ _) _) _) hb0.out.lt).up hb2 (by omega)); clear ho2 hb2)
        go_roundw
        case rel => exact ⟨j + 1, k + 1, A3, c3', by omega, by omega, by go_num, rfl, by rw [hsn2.out]; exact hk1, HO2, HK2, HB2⟩
        case measure => simp [intOf]; omega
    · have hjn : n = j := by omega
      subst hjn
      have hDE : Hid (delW (l.take n) (a, b, d) = D) := Lib.hid (by rw [← hD.out, List.take_of_length_le (by rw [hn.out]; omega)])
      have hkq : Hid (k = q) := Lib.hid (by rw [← hk.out, hDE.out, hq.out])
      have hkq' := hkq.out
      subst hkq'
      go_wp2
      refine bodyPost_ret (v := .tuple #[.slice A2 k c2, .bool (decide ((k : Int) < (n : Int)))]) (by simp [results, Try.results19, go_sem]) rfl ?_
      exact ⟨⟨A2, c2, by simp, (by rw [← hDE.out]; exact hO.out.low (by omega))⟩, hB.out⟩
set_option maxHeartbeats 4000000 in
set_option maxRecDepth 8000 in
theorem refAhead_is (A : Option Addr) (n c : Nat) (l : List Wt) (a b d : Int) (w : World) (hl : WRd w A l) (hn : Hid (l.length = n)) (hm : Hid (n ≤ 1000)) {am : List P3} (ham : Hid (ahdW l (a, b, d) = am)) {q : Nat} (hq : Hid (am.length = q)) :
    Calls Try.prog 24 #[.slice A n c, .agg #[.int .i64 a, .int .i64 b, .int .i64 d]] w fun e w' => (∃ A' c', e = .returned (.slice A' q c') ∧ PRd w' A' am) ∧ Below w.heap.size w w' := by
  have HR := Lib.hid hl
  obtain ⟨f, hf⟩ : ∃ f, Hid (findW l (a, b, d) = f) := ⟨_, Lib.hid rfl⟩
  have hf1 : -1 ≤ f ∧ f < n := by have := findW_ge l (a, b, d); rw [hf.out, hn.out] at this; exact this
  have ham2 : Hid (am = (l.take f.toNat).map fun x => x.1) := Lib.hid (by rw [← ham.out, ahdW, hf.out])
  have hqf : Hid (q = f.toNat) := Lib.hid (by rw [← hq.out, ham2.out, List.length_map, List.length_take, hn.out]; omega)
  have hat : Hid (∀ j, j < f.toNat → am.take (j + 1) = am.take j ++ [(l.getD j default).1]) := Lib.hid (fun j hj => by
    have hjl : j < l.length := by rw [hn.out]; omega
    have hja : j < am.length := by rw [hq.out, hqf.out]; exact hj
    rw [List.take_succ_eq_append_getElem hja]
    congr 2
    simp only [ham2.out, List.getElem_map, List.getElem_take]
    rw [List.getD_eq_getElem?_getD, List.getElem?_eq_getElem hjl]
    rfl)
  have HB0 := Lib.hid (newB w (.cells #[.int .i64 a, .int .i64 b, .int .i64 d] 24))
  clear hl ham
  go_enter Try.func24, Try.ntmps24
  go_wp2_with (go_at_call 21; refine (refFind_is _ n c l a b d _ (HR.out.below HB0.out) hn hm hf).mono ?_; rintro e W1 ⟨rfl, hb1⟩; have HB1 := Lib.hid (nx HB0.out hb1); clear hb1)
  go_loopw [5, 7] (fun V i wr => ∃ (j : Nat) (A2 : Option Addr) (c2 : Nat), j ≤ f.toNat ∧ i = .int .i64 j ∧ V = .slice A2 j c2 ∧ Hid (OwnPr wr w.heap.size (.slice A2 j c2) (am.take j)) ∧ Hid (Below w.heap.size w wr)) (fun _ i _ => n - (intOf i).toNat)
  case atStart => exact ⟨0, none, 0, by omega, rfl, rfl, Lib.hid (by rw [List.take_zero]; exact OwnPr.nil _ _), HB1⟩
  case round =>
    obtain ⟨j, A2, c2, hj, rfl, rfl, hO, hB⟩ := hrel
    by_cases hlt : (j : Int) < f
    · obtain ⟨g, o, x, y, z, m, v, p, u, rfl, hg, hx, c1, c2', c3, c4, c5, c6, c7⟩ := (HR.out.below hB.out).at_ (i := j) (by have := hn.out; omega)
      have e5 : IntKind.i64.wrap ((j : Int) + 1) = (j : Int) + 1 := by have := hm.out; rw [IntKind.wrap_i64]; omega
      have hjn : (j : Int) < (n : Int) := by omega
      have h1 : Hid (([(x, y, z)] : List P3).length = 1) := Lib.hid rfl
      have h2 : Hid ((am.take j).length + 1 ≤ 1000000) := Lib.hid (by have := hm.out; rw [List.length_take]; omega)
      have hst : Hid (am.take j ++ [(x, y, z)] = am.take (j + 1)) := Lib.hid (by rw [hat.out j (by omega), hx.out])
      have hln : Hid ((am.take (j + 1)).length = j + 1) := Lib.hid (by rw [List.length_take, hq.out, hqf.out]; omega)
      go_wp2_with (at_builtin; (refine app_pr rfl (.tmp 16) (.tmp 22) rfl w.heap.size _ (am.take j) (some ⟨wr.heap.size, 0, none⟩) [(x, y, z)] 1 1 h1 rfl rfl (hO.out.below (newB _ _)) (prd_one (by refine ⟨?_, ?_, ?_⟩ <;> simp)) h2 (nxA hB.out _).size ?_); intro V2 W2 ho2 hb2; rw [hst.out] at ho2; obtain ⟨A3, c3', hv3, -, -, -⟩ := ho2.form; rw [hln.out] at hv3; subst hv3; have HO2 := Lib.hid ho2; have HB2 := Lib.hid ((nxA hB.out _).trans hb2); clear ho2 hb2)
      go_roundw
      case rel => exact ⟨j + 1, A3, c3', by omega, by go_num, rfl, HO2, HB2⟩
      case measure => simp [intOf]; omega
    · have hjq : j = q := by rw [hqf.out]; omega
      subst hjq
      have HE : Hid (PRd wr A2 am) := Lib.hid (by
        have h1 := hO.out
        rw [List.take_of_length_le (by rw [hq.out]; omega)] at h1
        obtain ⟨A3, c3, hv, -, hr, -⟩ := h1.form
        injection hv with hv
        rw [hv]
        exact hr)
      go_wp2
      go_ret
      exact ⟨⟨A2, ⟨c2, rfl⟩, HE.out⟩, hB.out⟩
theorem own_rdW {w : World} {base n : Nat} {A : Option Addr} {c : Nat} {l : List Wt} (h : OwnW w base (.slice A n c) l) (hn : Hid (l.length = n)) : WRd w A l := by
  obtain ⟨A2, c2, hv, -, hr, -⟩ := h.form
  injection hv with h1 h2 h3
  subst h1
  exact hr
end Go.Proofs.Ytfcekfdoafpmoaa
