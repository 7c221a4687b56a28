/- Contracts: slices.DeleteFunc at a row of grants of the call's own; firstAbove and Set of the program. -/
import Derived.Test.YthclgccgkdijbaaDoorHdel
import Derived.Deep.RegionHeld3
namespace Go.Proofs.YthclgccgkdijbaaDoor
open Go.RowKit
set_option linter.unusedVariables false
set_option linter.unusedSimpArgs false

theorem idx_ex (d : Hd → Bool) : ∀ l : List Hd, ∃ r, IdxH d l r
  | [] => ⟨-1, .inl ⟨rfl, fun j hj => by simp at hj⟩⟩
  | h :: l => by
    cases hd : d h with
    | true => exact ⟨0, .inr ⟨0, rfl, by simp, by simpa using hd, fun j hj => by omega⟩⟩
    | false =>
      obtain ⟨r, h1 | ⟨k, rfl, hk, hdk, hn⟩⟩ := idx_ex d l
      · refine ⟨-1, .inl ⟨rfl, fun j hj => ?_⟩⟩
        cases j with
        | zero => simpa using hd
        | succ j => have := h1.2 j (by simpa using hj); simpa using this
      · refine ⟨((k + 1 : Nat) : Int), .inr ⟨k + 1, rfl, by simpa using hk, by simpa using hdk, fun j hj => ?_⟩⟩
        cases j with
        | zero => simpa using hd
        | succ j => have := hn j (by omega); simpa using this
theorem filter_all {d : Hd → Bool} {l : List Hd} (h : ∀ j, j < l.length → d (l.getD j default) = false) : l.filter (fun x => !d x) = l := by
  rw [List.filter_eq_self]
  intro x hx
  obtain ⟨i, hi, rfl⟩ := mem_getDH hx
  have := h i hi
  simpa using this
theorem filter_snoc (d : Hd → Bool) {l : List Hd} {k : Nat} (hk : k < l.length) : (l.take (k + 1)).filter (fun x => !d x) = (l.take k).filter (fun x => !d x) ++ (if d (l.getD k default) = true then [] else [l.getD k default]) := by
  rw [take_snocH hk, List.filter_append]
  by_cases h : d (l.getD k default) = true
  · rw [if_pos h]; simpa using h
  · rw [if_neg h]; simpa using h
set_option maxHeartbeats 8000000 in
set_option maxRecDepth 20000 in
theorem delete_hold (K : Nat) (lb : Array Value) (d : Hd → Bool) (eK : ∀ args w, (callFunc K args).run Tryd.prog w = .ok (.enter K args) w) (base : Nat) (V : Value) (l : List Hd) (w : World) (hb : base ≤ w.heap.size) (HK : Hid (PredH Tryd.prog K lb d base w)) (hO : OwnH w base V l) (hm : Hid (l.length ≤ 1000)) :
    Calls Tryd.prog 43 #[V, .func (.func K) #[] lb] w fun e w' => (∃ V', e = .returned V' ∧ OwnH w' base V' (l.filter fun x => !d x)) ∧ Below base w w' := by
  obtain ⟨A, c, rfl, hnc, hrd, hA⟩ := hO.form
  obtain ⟨n, hn⟩ : ∃ n, Hid (l.length = n) := ⟨_, Lib.hid rfl⟩
  rw [hn.out] at hO hnc hA hm ⊢
  have HO := Lib.hid hO
  have HRd := Lib.hid hrd
  clear hrd hO
  obtain ⟨r, hr0⟩ := idx_ex d l
  have hr := Lib.hid hr0
  rcases hr0 with ⟨rfl, hall⟩ | ⟨k0, rfl, hk0, hd0, hlow⟩
  · have HE := Lib.hid (filter_all hall)
    clear hall
    go_enter Tryd.func43, Tryd.ntmps43
    go_wp2_with (go_at_call 67; refine (index_hold K lb d eK base A n c l _ hb HK HRd.out hn hm hr).mono ?_; rintro e W1 ⟨rfl, hb1⟩; have HB1 := Lib.hid hb1; clear hb1)
    go_ret
    exact ⟨⟨_, rfl, by rw [HE.out]; exact HO.out.below HB1.out⟩, HB1.out.mono hb⟩
  · have hk0n : k0 < n := by rw [← hn.out]; exact hk0
    obtain ⟨g, rfl, hgb, hgl⟩ := hA (by omega)
    have HK0 := Lib.hid (show k0 < l.length from hk0)
    have HD0 := Lib.hid hd0
    have HLOW := Lib.hid hlow
    have hneg : ((k0 : Int) == -1) = false := beq_eq_false_iff_ne.2 (by omega)
    have e50 : IntKind.i64.wrap ((k0 : Int) + 1) = (k0 : Int) + 1 := by have := hm.out; rw [IntKind.wrap_i64]; omega
    clear hd0 hlow hA hgl hk0
    go_enter Tryd.func43, Tryd.ntmps43
    go_wp2_with (go_at_call 67; refine (index_hold K lb d eK base (some ⟨g, 0, none⟩) n c l _ hb HK HRd.out hn hm hr).mono ?_; rintro e W1 ⟨rfl, hb1⟩; have HB1 := Lib.hid (hb1.mono hb); have HO1 := Lib.hid (HO.out.below hb1); clear hb1)
    have HT0 : Hid (l.take k0 = (l.take (k0 + 1)).filter (fun x => !d x)) := Lib.hid (by
      rw [filter_snoc d HK0.out, if_pos HD0.out, List.append_nil]
      refine (filter_all (fun j hj => ?_)).symm
      rw [List.length_take] at hj
      rw [getD_takeH (by omega)]
      exact HLOW.out j (by omega))
    go_loopw [5, 6] (fun i j wr => ∃ (p q : Nat) (xs : List Hd), p < q ∧ q ≤ n ∧ i = .int .i64 p ∧ j = .int .i64 q ∧ Hid (xs.length = n) ∧ Hid (wr.ownsRow base 53 5 (.slice (some ⟨g, 0, none⟩) n c) n (hcs xs)) ∧ Hid (xs.take p = (l.take q).filter (fun x => !d x)) ∧ Hid (xs.drop q = l.drop q) ∧ Hid (Below base w wr)) (fun _ j _ => n - (intOf j).toNat)
    case atStart => exact ⟨k0, k0 + 1, l, by omega, by omega, rfl, by go_num, hn, Lib.hid (by have := HO1.out; unfold OwnH at this; rw [hn.out] at this; exact this), HT0, Lib.hid rfl, HB1⟩
    case round =>
      obtain ⟨p, q, xs, hpq, hqn, rfl, rfl, hxn, hXO, hX1, hX2, hB⟩ := hrel
      obtain ⟨WR, hWR⟩ : ∃ W, W = wr := ⟨_, rfl⟩
      subst hWR
      have HOX : Hid (OwnH WR base (.slice (some ⟨g, 0, none⟩) n c) xs) := Lib.hid (by unfold OwnH; rw [hxn.out]; exact hXO.out)
      have hgl : g < WR.heap.size := by
        obtain ⟨A3, c3, hv, -, -, h3⟩ := HOX.out.form
        obtain ⟨g3, hA3, -, h3⟩ := h3 (by rw [hxn.out]; omega)
        injection hv with hv
        rw [← hv] at hA3
        injection hA3 with hA3
        injection hA3 with hA3
        rw [hA3]
        exact h3
      by_cases hlt : (q : Int) < (n : Int)
      · have hqn2 : q < n := by omega
        obtain ⟨A3, c3, hv3, -, hrd3, -⟩ := HOX.out.form
        obtain ⟨rfl⟩ : A3 = some ⟨g, 0, none⟩ := by injection hv3 with hv3; exact hv3.symm
        clear hv3
        obtain ⟨g', o, x, y, z, m, v, hA', hg, hx, c1, c2, c3', c4, c5⟩ := hrd3.at_ (i := q) (by rw [hxn.out]; omega)
        obtain ⟨rfl, rfl⟩ : g = g' ∧ 0 = o := by simpa using hA'
        clear hA' hrd3
        simp only [Nat.zero_add] at c1 c2 c3' c4 c5
        have hlx : Hid (l.getD q default = ((x, y, z), (m, v))) := Lib.hid (by
          have h1 := congrArg (fun t => t.getD 0 default) hX2.out
          simp only [getD_dropH, Nat.add_zero] at h1
          rw [← h1]
          exact hx.out)
        have e5 : IntKind.i64.wrap ((q : Int) + 1) = (q : Int) + 1 := by have := hm.out; rw [IntKind.wrap_i64]; omega
        have e6 : IntKind.i64.wrap ((p : Int) + 1) = (p : Int) + 1 := by have := hm.out; rw [IntKind.wrap_i64]; omega
        have hpn : (p : Int) < (n : Int) := by omega
        obtain ⟨β, hβ⟩ : ∃ β, Hid (d ((x, y, z), (m, v)) = β) := ⟨_, Lib.hid rfl⟩
        have hfs := filter_snoc d (l := l) (k := q) (by rw [hn.out]; omega)
        rw [hlx.out, hβ.out] at hfs
        have HC := Lib.hid (HK.out x y z m v (WR.alloc (.cells #[.int .i64 x, .int .i64 y, .int .i64 z, .int .i64 m, .int .i64 v] 53)) (hB.out.trans ((newB _ _).mono (Nat.le_trans hb hB.out.size))))
        have HKB := Lib.hid (Blk.new WR [.int .i64 x, .int .i64 y, .int .i64 z, .int .i64 m, .int .i64 v] 53 rfl)
        rw [hβ.out] at HC
        have HDR : Hid (xs.drop (q + 1) = l.drop (q + 1)) := Lib.hid (by
          have h1 := congrArg (List.drop 1) hX2.out
          simpa [List.drop_drop] using h1)
        have HBN : Hid (Below base w (WR.alloc (.cells #[.int .i64 x, .int .i64 y, .int .i64 z, .int .i64 m, .int .i64 v] 53))) := Lib.hid (hB.out.trans ((newB _ _).mono (Nat.le_trans hb hB.out.size)))
        have HON : Hid (OwnH (WR.alloc (.cells #[.int .i64 x, .int .i64 y, .int .i64 z, .int .i64 m, .int .i64 v] 53)) base (.slice (some ⟨g, 0, none⟩) n c) xs) := Lib.hid (HOX.out.below (newB _ _))
        have HGB : Hid (base ≤ g) := Lib.hid hgb
        have HBS : Hid (base ≤ (WR.alloc (.cells #[.int .i64 x, .int .i64 y, .int .i64 z, .int .i64 m, .int .i64 v] 53)).heap.size) := Lib.hid (Nat.le_trans hb HBN.out.size)
        cases β with
        | true =>
          rw [if_pos rfl, List.append_nil] at hfs
          have HX3 : Hid (xs.take p = (l.take (q + 1)).filter (fun x => !d x)) := Lib.hid (by rw [hfs]; exact hX1.out)
          clear hfs
          go_wp2_with (go_at_fn K; refine HC.out.mono ?_; rintro e W2 ⟨rfl, hb2⟩; have HB2 := Lib.hid (HBN.out.trans (hb2.mono HBS.out)); have HO2 := Lib.hid (HON.out.below hb2); clear hb2)
          go_roundw
          case rel => exact ⟨p, q + 1, xs, by omega, by omega, rfl, by go_num, hxn, Lib.hid (by have := HO2.out; unfold OwnH at this; rw [hxn.out] at this; exact this), HX3, HDR, HB2⟩
          case measure => simp [intOf]; omega
        | false =>
          rw [if_neg (by decide)] at hfs
          have HX3 : Hid ((xs.set p ((x, y, z), (m, v))).take (p + 1) = (l.take (q + 1)).filter (fun x => !d x)) := Lib.hid (by
            rw [hfs, ← hX1.out, List.take_set, List.take_succ_eq_append_getElem (by rw [hxn.out]; omega), List.set_append, if_neg (by simp; omega), List.length_take, show min p xs.length = p by rw [hxn.out]; omega, Nat.sub_self]
            rfl)
          have HX4 : Hid ((xs.set p ((x, y, z), (m, v))).drop (q + 1) = l.drop (q + 1)) := Lib.hid (by
            rw [List.drop_set, if_pos (by omega)]
            exact HDR.out)
          have HXL : Hid ((xs.set p ((x, y, z), (m, v))).length = n) := Lib.hid (by rw [List.length_set]; exact hxn.out)
          clear hfs
          go_wp2_with (go_at_fn K; refine HC.out.mono ?_; rintro e W2 ⟨rfl, hb2⟩; have HB2 := Lib.hid (HBN.out.trans (hb2.mono HBS.out)); have HO2 := Lib.hid (HON.out.below hb2); have hkb := HKB.out.up hb2 HKB.out.lt; have k1 := hkb.cell 0 rfl; have k2 := hkb.cell 1 rfl; have k3 := hkb.cell 2 rfl; have k4 := hkb.cell 3 rfl; have k5 := hkb.cell 4 rfl; obtain ⟨⟨v1, d1⟩, ⟨v2, d2⟩, ⟨v3, d3⟩, ⟨v4, d4⟩, ⟨v5, d5⟩, f0⟩ := own_five HO2.out hxn.out (show p < n by omega); have f1 := f0 (p * 5); have f2 := f0 (p * 5 + 1); have f3 := f0 (p * 5 + 2); have f4 := f0 (p * 5 + 3); have f5 := f0 (p * 5 + 4); have HO3 := Lib.hid (HO2.out.store hxn.out p ((x, y, z), (m, v))); have HB3 := Lib.hid (below_five HB2.out HGB.out (p * 5) (.int .i64 x) (.int .i64 y) (.int .i64 z) (.int .i64 m) (.int .i64 v)); clear hb2 hkb f0)
          go_roundw
          case rel => exact ⟨p + 1, q + 1, xs.set p ((x, y, z), (m, v)), by omega, by omega, by go_num, by go_num, HXL, Lib.hid (by have := HO3.out; unfold OwnH at this; rw [HXL.out] at this; exact this), HX3, HX4, HB3⟩
          case measure => simp [intOf]; omega
      · have hqn3 : q = n := by omega
        have HX3 : Hid (xs.take p = l.filter (fun x => !d x)) := Lib.hid (by
          have h1 := hX1.out
          rw [List.take_of_length_le (l := l) (i := q) (by rw [hn.out]; omega)] at h1
          exact h1)
        obtain ⟨q1, hq1⟩ : ∃ q1, Hid (n - p = q1) := ⟨_, Lib.hid rfl⟩
        have hpc : ¬ c = p := by omega
        have hs1 := cutH_back (A := some ⟨g, 0, none⟩) (n := n) (c := c) (p := p) (by omega) hnc
        rw [if_neg hpc, hq1.out] at hs1
        simp only [Option.map_some, add_at, Nat.zero_add] at hs1
        have hs2 := cutH_front (A := some ⟨g, 0, none⟩) (n := n) (c := c) (p := p) (by omega)
        have hpq1 : p + q1 = n := by have := hq1.out; omega
        have hq10 : 0 < q1 := by have := hq1.out; omega
        have HGB : Hid (base ≤ g) := Lib.hid hgb
        obtain ⟨W2, ys, hrun, ho2, ht2, hg2⟩ := run_clearH (c - p) HOX.out hxn.out hpq1 hq10
        have HO2 := Lib.hid ho2
        have HT2 := Lib.hid ht2
        have HB2 := Lib.hid (hB.out.grown hg2 (Nat.le_trans hb hB.out.size) (fun k hk => by injection hk with hk; have := HGB.out; omega))
        clear ho2 ht2 hg2
        go_wp2
        go_ret
        exact ⟨⟨_, rfl, own_cut HO2.out HT2.out HX3.out (by have h := hxn.out; have : (xs.take p).length = p := by rw [List.length_take]; omega
                                                            omega) (by omega)⟩, HB2.out⟩
end Go.Proofs.YthclgccgkdijbaaDoor
