/- Contracts: package slices at api.Wait: Clone, IndexFunc, DeleteFunc, Grow, Concat; clear in an own row. (Written by gensl.py.) -/
import Derived.Test.YtfcekfdoafpmoaaJo
import Derived.Test.YtfcekfdoafpmoaaJi
import Derived.Deep.RegionHeld3
import Derived.Lib.AppendZeros
namespace Go.Proofs.Ytfcekfdoafpmoaa
open Go.RowKit
set_option linter.unusedVariables false
set_option linter.unusedSimpArgs false

theorem cutW_back {A : Option Addr} {n c p : Nat} (hp : p ≤ n) (hc : n ≤ c) (W : World) :
    (Instr.slice 22 (.slice A n c) (some (.int .i64 (p : Int))) none none).run Try.prog W = .ok (.slice (if c = p then A else A.map (·.add (p * 7))) (n - p) (c - p)) W := by
  have hu : Try.prog.underlying 22 = some (.slice (Try.prog.elem 22)) := by rw [elemW]; exact Try.underlying22
  rw [run_slice_l (P := Try.prog) W 22 A n c hu .i64 (p : Int) (by omega) (by omega), elemW, sizeW]
  simp [Result.andThen, sliced]
set_option maxHeartbeats 1000000 in
set_option maxRecDepth 8000 in
theorem cloneW (A : Option Addr) (n c : Nat) (l : List Wt) (w : World) (h : WRd w A l) (hn : Hid (l.length = n)) (hm : Hid (n ≤ 1000)) :
    Calls Try.prog 38 #[.slice A n c] w fun e w' => (∃ V, e = .returned V ∧ OwnW w' w.heap.size V l) ∧ Below w.heap.size w w' := by
  have HR := Lib.hid h
  clear h
  cases A with
  | none =>
    have h0 : Hid (l = []) := by
      rcases List.eq_nil_or_concat l with h0 | ⟨ys, y, h0⟩
      · exact h0
      · obtain ⟨b, o, hb, _⟩ := HR.out (by rw [h0]; simp)
        cases hb
    have hn0 : n = 0 := by rw [← hn.out, h0.out]; rfl
    subst hn0
    have hnil : ∀ w : World, (binOp .eql 22 (.slice none 0 c) (.slice none 0 0)).run Try.prog w = .ok (.bool true) w := fun _ => by kernel_rfl
    have HE : Hid (OwnW w w.heap.size (.slice none 0 0) l) := Lib.hid (by rw [h0.out]; exact OwnW.nil _ _)
    go_enter Try.func38, Try.ntmps38
    go_wp2
    go_ret
    exact ⟨⟨_, rfl, HE.out⟩, Below.refl _ _⟩
  | some a =>
    have hnil : ∀ w : World, (binOp .eql 22 (.slice (some a) n c) (.slice none 0 0)).run Try.prog w = .ok (.bool false) w := fun _ => by kernel_rfl
    have hl0 : Hid (([] : List Wt).length + n ≤ 1000000) := Lib.hid (by have := hm.out; simp; omega)
    go_enter Try.func38, Try.ntmps38
    go_wp2_with (at_builtin; (refine app_wait rfl (.tmp 5) (.tmp 6) rfl w.heap.size _ [] (some a) l n c hn rfl rfl (OwnW.empty w w.heap.size (Nat.le_refl _)) (HR.out.below (newB w _)) hl0 (newB w (.cells #[] 28)).size ?_); intro V1 W1 ho1 hb1; have HO1 := Lib.hid ho1; have HB1 := Lib.hid ((newB w (.cells #[] 28)).trans hb1); clear ho1 hb1)
    go_ret
    exact ⟨⟨V1, rfl, HO1.out⟩, HB1.out⟩
/-- The first place where d holds, -1 if there is none. -/
def IdxW (d : Wt → Bool) (l : List Wt) (r : Int) : Prop := (r = -1 ∧ ∀ j, j < l.length → d (l.getD j default) = false) ∨ ∃ k : Nat, r = k ∧ k < l.length ∧ d (l.getD k default) = true ∧ ∀ j, j < k → d (l.getD j default) = false
/-- What a predicate handed in answers. -/
def PredW (P : Program) (K : Nat) (lb : Array Value) (d : Wt → Bool) (base : Nat) (w : World) : Prop :=
  ∀ (s0 s1 s2 s3 s4 s5 s6 : Int) (W : World), Below base w W → Calls P K (#[wag s0 s1 s2 s3 s4 s5 s6] ++ lb) W fun e w' => e = .returned (.bool (d ((s0, s1, s2), (s3, s4), s5, s6))) ∧ Below W.heap.size W w'
set_option maxHeartbeats 2000000 in
set_option maxRecDepth 8000 in
theorem indexW (K : Nat) (lb : Array Value) (d : Wt → Bool) (eK : ∀ args w, (callFunc K args).run Try.prog w = .ok (.enter K args) w) (base : Nat) (A : Option Addr) (n c : Nat) (l : List Wt) (w : World) (hb : base ≤ w.heap.size) (HK : Hid (PredW Try.prog K lb d base w)) (hl : WRd w A l) (hn : Hid (l.length = n)) (hm : Hid (n ≤ 1000)) {r : Int} (hr : Hid (IdxW d l r)) :
    Calls Try.prog 40 #[.slice A n c, .func (.func K) #[] lb] w fun e w' => e = .returned (.int .i64 r) ∧ Below w.heap.size w w' := by
  have HR := Lib.hid hl
  clear hl
  go_enter Try.func40, Try.ntmps40
  go_wp2
  go_loopw [8] (fun i wr => ∃ (j : Nat), j ≤ n ∧ i = .int .i64 j ∧ Hid (∀ i, i < j → d (l.getD i default) = false) ∧ Hid (Below w.heap.size w wr)) (fun i _ => n - (intOf i).toNat)
  case atStart => exact ⟨0, by omega, rfl, Lib.hid (fun i hi => by omega), Below.refl _ _⟩
  case round =>
    obtain ⟨j, hj, rfl, hE, hB⟩ := hrel
    obtain ⟨WR, hWR⟩ : ∃ W, W = wr := ⟨_, rfl⟩
    subst hWR
    by_cases hlt : (j : Int) < (n : Int)
    · obtain ⟨g, o, s0, s1, s2, s3, s4, s5, s6, rfl, hg, hx, c1, c2, c3, c4, c5, c6, c7⟩ := (HR.out.below hB.out).at_ (i := j) (by have := hn.out; omega)
      have e5 : IntKind.i64.wrap ((j : Int) + 1) = (j : Int) + 1 := by have := hm.out; rw [IntKind.wrap_i64]; omega
      have HC := Lib.hid (HK.out s0 s1 s2 s3 s4 s5 s6 WR (hB.out.mono hb))
      obtain ⟨β, hβ⟩ : ∃ β, Hid (d ((s0, s1, s2), (s3, s4), s5, s6) = β) := ⟨_, Lib.hid rfl⟩
      have hdx : Hid (d (l.getD j default) = β) := Lib.hid (by rw [hx.out]; exact hβ.out)
      rw [hβ.out] at HC
      cases β with
      | true =>
        have hend : Hid (r = (j : Int)) := Lib.hid (by
          rcases hr.out with ⟨_, h⟩ | ⟨k, rfl, hk, hd, h⟩
          · have := h j (by have := hn.out; omega)
            rw [hdx.out] at this
            cases this
          · rcases Nat.lt_trichotomy k j with h1 | h1 | h1
            · have := hE.out k h1
              rw [hd] at this
              cases this
            · rw [h1]
            · have := h j h1
              rw [hdx.out] at this
              cases this)
        go_wp2_with (go_at_fn K; refine HC.out.mono ?_; rintro e W1 ⟨rfl, hb1⟩; have HB1 := Lib.hid (nx hB.out hb1); clear hb1)
        go_ret
        exact ⟨by rw [hend.out]; rfl, HB1.out⟩
      | false =>
        have hE2 : Hid (∀ i, i < j + 1 → d (l.getD i default) = false) := Lib.hid (fun i hi => by
          by_cases e : i = j
          · rw [e]; exact hdx.out
          · exact hE.out i (by omega))
        go_wp2_with (go_at_fn K; refine HC.out.mono ?_; rintro e W1 ⟨rfl, hb1⟩; have HB1 := Lib.hid (nx hB.out hb1); clear hb1)
        go_roundw
        case rel => exact ⟨j + 1, by omega, by go_num, hE2, HB1⟩
        case measure => simp [intOf]; omega
    · have hjn : j = n := by omega
      have hend : Hid (r = -1) := Lib.hid (by
        rcases hr.out with ⟨h, _⟩ | ⟨k, rfl, hk, hd, h⟩
        · exact h
        · have := hE.out k (by have := hn.out; omega)
          rw [hd] at this
          cases this)
      go_wp2
      go_ret
      exact ⟨by rw [hend.out]; rfl, hB.out⟩
theorem ownW_cells {w : World} {base g n c : Nat} {xs : List Wt} (h : OwnW w base (.slice (some ⟨g, 0, none⟩) n c) xs) (hn : xs.length = n) {p : Nat} (hp : p < n) :
    (∃ v, w.cell? ⟨g, p * 7, none⟩ = some v) ∧ (∃ v, w.cell? ⟨g, p * 7 + 1, none⟩ = some v) ∧ (∃ v, w.cell? ⟨g, p * 7 + 2, none⟩ = some v) ∧ (∃ v, w.cell? ⟨g, p * 7 + 3, none⟩ = some v) ∧ (∃ v, w.cell? ⟨g, p * 7 + 4, none⟩ = some v) ∧ (∃ v, w.cell? ⟨g, p * 7 + 5, none⟩ = some v) ∧ (∃ v, w.cell? ⟨g, p * 7 + 6, none⟩ = some v) ∧ ∀ j, w.frozen? ⟨g, j, none⟩ = false := by
  subst hn
  exact ⟨Option.isSome_iff_exists.1 (own_cells h (by omega)), Option.isSome_iff_exists.1 (own_cells h (by omega)), Option.isSome_iff_exists.1 (own_cells h (by omega)), Option.isSome_iff_exists.1 (own_cells h (by omega)), Option.isSome_iff_exists.1 (own_cells h (by omega)), Option.isSome_iff_exists.1 (own_cells h (by omega)), Option.isSome_iff_exists.1 (own_cells h (by omega)), h.frozenAt⟩
theorem belowW_set {B g : Nat} {a w : World} (h : Below B a w) (hg : B ≤ g) (o : Nat) (v1 v2 v3 v4 v5 v6 v7 : Value) : Below B a (((((((w.setCell ⟨g, o, none⟩ v1).setCell ⟨g, o + 1, none⟩ v2).setCell ⟨g, o + 2, none⟩ v3).setCell ⟨g, o + 3, none⟩ v4).setCell ⟨g, o + 4, none⟩ v5).setCell ⟨g, o + 5, none⟩ v6).setCell ⟨g, o + 6, none⟩ v7) :=
  ((((((h.setCell (p := ⟨g, o, none⟩) hg v1).setCell (p := ⟨g, o + 1, none⟩) hg v2).setCell (p := ⟨g, o + 2, none⟩) hg v3).setCell (p := ⟨g, o + 3, none⟩) hg v4).setCell (p := ⟨g, o + 4, none⟩) hg v5).setCell (p := ⟨g, o + 5, none⟩) hg v6).setCell (p := ⟨g, o + 6, none⟩) hg v7
/-- The front of an own row. -/
theorem ownW_cut {w : World} {base g n c i : Nat} {ys : List Value} {zs l : List Wt} (h : w.ownsRow base 28 7 (.slice (some ⟨g, 0, none⟩) n c) n ys) (ht : ys.take (i * 7) = wcs zs) (hz : zs = l) (hi : zs.length = i) (hin : i ≤ n) : OwnW w base (.slice (some ⟨g, 0, none⟩) i c) l := by
  subst hz
  unfold OwnW
  rw [hi]
  refine ⟨by rw [wcs_length, hi], ?_⟩
  rcases h.2 with ⟨h', _⟩ | ⟨g', cap', cur, h', hb, hg, hnc, hcm, hcs', htake⟩
  · simp at h'
  · simp only [Value.slice.injEq, Option.some.injEq, Addr.mk.injEq, and_true, true_and] at h'
    obtain ⟨rfl, rfl⟩ := h'
    refine .inr ⟨g, c, cur, rfl, hb, hg, by omega, hcm, hcs', ?_⟩
    rw [← ht, ← htake, List.take_take, Nat.min_eq_left (Nat.mul_le_mul_right 7 hin)]
theorem zeroW (W : World) : (zeroValue 28).run Try.prog W = .ok (wag 0 0 0 0 0 0 0) W := by kernel_rfl
theorem zcW_one (q : Nat) : ∀ v ∈ (Builtin.zeroCells (wag 0 0 0 0 0 0 0).cells q).toList, v.oneCell' = true := by
  intro v hv
  simp only [Builtin.zeroCells, Array.mem_toList_iff, Array.mem_map] at hv
  obtain ⟨i, _, rfl⟩ := hv
  have hc : i % 7 = 0 ∨ i % 7 = 1 ∨ i % 7 = 2 ∨ i % 7 = 3 ∨ i % 7 = 4 ∨ i % 7 = 5 ∨ i % 7 = 6 := by omega
  simp only [Value.cells]
  rcases hc with e | e | e | e | e | e | e <;> simp [e] <;> rfl
theorem run_clearW {w : World} {base g n c : Nat} {xs : List Wt} {i q : Nat} (cq : Nat) (hO : OwnW w base (.slice (some ⟨g, 0, none⟩) n c) xs) (hn : xs.length = n) (hq : i + q = n) (hq0 : 0 < q) :
    ∃ w' ys, (∀ ty, (Builtin.clear_ #[22] ty #[.slice (some ⟨g, i * 7, none⟩) q cq]).run Try.prog w = .ok (.tuple #[]) w') ∧ w'.ownsRow base 28 7 (.slice (some ⟨g, 0, none⟩) n c) n ys ∧ ys.take (i * 7) = wcs (xs.take i) ∧ w.grownBy w' (some g) := by
  subst hn
  have hcl : (Builtin.zeroCells (wag 0 0 0 0 0 0 0).cells q).toList.length = q * 7 := by rw [Array.length_toList, size_zeroCells]; rfl
  obtain ⟨w', hr, ho', hg⟩ := own_put (P := Try.prog) hO (i * 7) (Builtin.zeroCells (wag 0 0 0 0 0 0 0).cells q).toList (by rw [hcl]; omega) (zcW_one q)
  obtain ⟨m, rfl⟩ : ∃ m, q = m + 1 := ⟨q - 1, by omega⟩
  refine ⟨w', _, fun ty => ?_, ho', ?_, hg⟩
  · simp [Builtin.clear_, run_underlying Try.underlying22, zeroW, hr]
  · rw [wcs_take, List.append_assoc, List.take_append_of_le_length (by rw [List.length_take, wcs_length]; omega), List.take_take, Nat.min_self]
theorem idxW_ex (d : Wt → Bool) : ∀ l : List Wt, ∃ r, IdxW d l r
  | [] => ⟨-1, .inl ⟨rfl, fun j hj => by simp at hj⟩⟩
  | h :: l => by
    cases hd : d h with
    | true => exact ⟨0, .inr ⟨0, rfl, by simp, by simpa using hd, fun j hj => by omega⟩⟩
    | false =>
      obtain ⟨r, h1 | ⟨k, rfl, hk, hdk, hn⟩⟩ := idxW_ex d l
      · refine ⟨-1, .inl ⟨rfl, fun j hj => ?_⟩⟩
        cases j with
        | zero => simpa using hd
        | succ j => have := h1.2 j (by simpa using hj); simpa using this
      · refine ⟨((k + 1 : Nat) : Int), .inr ⟨k + 1, rfl, by simpa using hk, by simpa using hdk, fun j hj => ?_⟩⟩
        cases j with
        | zero => simpa using hd
        | succ j => have := hn j (by omega); simpa using this
theorem filterW_all {d : Wt → Bool} {l : List Wt} (h : ∀ j, j < l.length → d (l.getD j default) = false) : l.filter (fun x => !d x) = l := by
  rw [List.filter_eq_self]
  intro x hx
  obtain ⟨i, hi, rfl⟩ := mem_getDW hx
  have := h i hi
  simpa using this
theorem filterW_snoc (d : Wt → Bool) {l : List Wt} {k : Nat} (hk : k < l.length) : (l.take (k + 1)).filter (fun x => !d x) = (l.take k).filter (fun x => !d x) ++ (if d (l.getD k default) = true then [] else [l.getD k default]) := by
  rw [take_snocW hk, List.filter_append]
  by_cases h : d (l.getD k default) = true
  · rw [if_pos h]; simpa using h
  · rw [if_neg h]; simpa using h
set_option maxHeartbeats 8000000 in
set_option maxRecDepth 20000 in
theorem deleteW (K : Nat) (lb : Array Value) (d : Wt → Bool) (eK : ∀ args w, (callFunc K args).run Try.prog w = .ok (.enter K args) w) (base : Nat) (V : Value) (l : List Wt) (w : World) (hb : base ≤ w.heap.size) (HK : Hid (PredW Try.prog K lb d base w)) (hO : OwnW w base V l) (hm : Hid (l.length ≤ 1000)) :
    Calls Try.prog 37 #[V, .func (.func K) #[] lb] w fun e w' => (∃ V', e = .returned V' ∧ OwnW w' base V' (l.filter fun x => !d x)) ∧ Below base w w' := by
  obtain ⟨A, c, rfl, hnc, hrd, hA⟩ := hO.form
  obtain ⟨n, hn⟩ : ∃ n, Hid (l.length = n) := ⟨_, Lib.hid rfl⟩
  rw [hn.out] at hO hnc hA hm ⊢
  have HO := Lib.hid hO
  have HRd := Lib.hid hrd
  clear hrd hO
  obtain ⟨r, hr0⟩ := idxW_ex d l
  have hr := Lib.hid hr0
  rcases hr0 with ⟨rfl, hall⟩ | ⟨k0, rfl, hk0, hd0, hlow⟩
  · have HE := Lib.hid (filterW_all hall)
    clear hall
    go_enter Try.func37, Try.ntmps37
    go_wp2_with (go_at_call 40; refine (indexW K lb d eK base A n c l _ hb HK HRd.out hn hm hr).mono ?_; rintro e W1 ⟨rfl, hb1⟩; have HB1 := Lib.hid hb1; clear hb1)
    go_ret
    exact ⟨⟨_, rfl, by rw [HE.out]; exact HO.out.below HB1.out⟩, HB1.out.mono hb⟩
  · have hk0n : k0 < n := by rw [← hn.out]; exact hk0
    obtain ⟨g, rfl, hgb, hgl⟩ := hA (by omega)
    have HK0 := Lib.hid (show k0 < l.length from hk0)
    have HD0 := Lib.hid hd0
    have HLOW := Lib.hid hlow
    have hneg : ((k0 : Int) == -1) = false := beq_eq_false_iff_ne.2 (by omega)
    have e50 : IntKind.i64.wrap ((k0 : Int) + 1) = (k0 : Int) + 1 := by have := hm.out; rw [IntKind.wrap_i64]; omega
    clear hd0 hlow hA hgl hk0
    go_enter Try.func37, Try.ntmps37
    go_wp2_with (go_at_call 40; refine (indexW K lb d eK base (some ⟨g, 0, none⟩) n c l _ hb HK HRd.out hn hm hr).mono ?_; rintro e W1 ⟨rfl, hb1⟩; have HB1 := Lib.hid (hb1.mono hb); have HO1 := Lib.hid (HO.out.below hb1); clear hb1)
    have HT0 : Hid (l.take k0 = (l.take (k0 + 1)).filter (fun x => !d x)) := Lib.hid (by
      rw [filterW_snoc d HK0.out, if_pos HD0.out, List.append_nil]
      refine (filterW_all (fun j hj => ?_)).symm
      rw [List.length_take] at hj
      rw [getD_takeW (by omega)]
      exact HLOW.out j (by omega))
    go_loopw [5, 6] (fun i j wr => ∃ (p q : Nat) (xs : List Wt), p < q ∧ q ≤ n ∧ i = .int .i64 p ∧ j = .int .i64 q ∧ Hid (xs.length = n) ∧ Hid (wr.ownsRow base 28 7 (.slice (some ⟨g, 0, none⟩) n c) n (wcs xs)) ∧ Hid (xs.take p = (l.take q).filter (fun x => !d x)) ∧ Hid (xs.drop q = l.drop q) ∧ Hid (Below base w wr)) (fun _ j _ => n - (intOf j).toNat)
    case atStart => exact ⟨k0, k0 + 1, l, by omega, by omega, rfl, by go_num, hn, Lib.hid (by have := HO1.out; unfold OwnW at this; rw [hn.out] at this; exact this), HT0, Lib.hid rfl, HB1⟩
    case round =>
      obtain ⟨pp, qq, xs, hpq, hqn, rfl, rfl, hxn, hXO, hX1, hX2, hB⟩ := hrel
      obtain ⟨WR, hWR⟩ : ∃ W, W = wr := ⟨_, rfl⟩
      subst hWR
      have HOX : Hid (OwnW WR base (.slice (some ⟨g, 0, none⟩) n c) xs) := Lib.hid (by unfold OwnW; rw [hxn.out]; exact hXO.out)
      have hgl : g < WR.heap.size := by
        obtain ⟨A3, c3, hv, -, -, h3⟩ := HOX.out.form
        obtain ⟨g3, hA3, -, h3⟩ := h3 (by rw [hxn.out]; omega)
        injection hv with hv
        rw [← hv] at hA3
        injection hA3 with hA3
        injection hA3 with hA3
        rw [hA3]
        exact h3
      by_cases hlt : (qq : Int) < (n : Int)
      · have hqn2 : qq < n := by omega
        obtain ⟨A3, c3, hv3, -, hrd3, -⟩ := HOX.out.form
        obtain ⟨rfl⟩ : A3 = some ⟨g, 0, none⟩ := by injection hv3 with hv3; exact hv3.symm
        clear hv3 c3
        obtain ⟨g', o, s0, s1, s2, s3, s4, s5, s6, hA', hg, hx, c1, c2, c3, c4, c5, c6, c7⟩ := hrd3.at_ (i := qq) (by rw [hxn.out]; omega)
        obtain ⟨rfl, rfl⟩ : g = g' ∧ 0 = o := by simpa using hA'
        clear hA' hrd3
        simp only [Nat.zero_add] at c1 c2 c3 c4 c5 c6 c7
        have hlx : Hid (l.getD qq default = ((s0, s1, s2), (s3, s4), s5, s6)) := Lib.hid (by
          have h1 := congrArg (fun t => t.getD 0 default) hX2.out
          simp only [getD_dropW, Nat.add_zero] at h1
          rw [← h1]
          exact hx.out)
        have e5 : IntKind.i64.wrap ((qq : Int) + 1) = (qq : Int) + 1 := by have := hm.out; rw [IntKind.wrap_i64]; omega
        have e6 : IntKind.i64.wrap ((pp : Int) + 1) = (pp : Int) + 1 := by have := hm.out; rw [IntKind.wrap_i64]; omega
        have hpn : (pp : Int) < (n : Int) := by omega
        obtain ⟨β, hβ⟩ : ∃ β, Hid (d ((s0, s1, s2), (s3, s4), s5, s6) = β) := ⟨_, Lib.hid rfl⟩
        have hfs := filterW_snoc d (l := l) (k := qq) (by rw [hn.out]; omega)
        rw [hlx.out, hβ.out] at hfs
        have HC := Lib.hid (HK.out s0 s1 s2 s3 s4 s5 s6 (WR.alloc (.cells #[.int .i64 s0, .int .i64 s1, .int .i64 s2, .int .i64 s3, .int .i64 s4, .int .i64 s5, .int .i64 s6] 28)) (hB.out.trans ((newB _ _).mono (Nat.le_trans hb hB.out.size))))
        have HKB := Lib.hid (Blk.new WR [.int .i64 s0, .int .i64 s1, .int .i64 s2, .int .i64 s3, .int .i64 s4, .int .i64 s5, .int .i64 s6] 28 rfl)
        rw [hβ.out] at HC
        have HDR : Hid (xs.drop (qq + 1) = l.drop (qq + 1)) := Lib.hid (by
          have h1 := congrArg (List.drop 1) hX2.out
          simpa [List.drop_drop] using h1)
        have HBN : Hid (Below base w (WR.alloc (.cells #[.int .i64 s0, .int .i64 s1, .int .i64 s2, .int .i64 s3, .int .i64 s4, .int .i64 s5, .int .i64 s6] 28))) := Lib.hid (hB.out.trans ((newB _ _).mono (Nat.le_trans hb hB.out.size)))
        have HON : Hid (OwnW (WR.alloc (.cells #[.int .i64 s0, .int .i64 s1, .int .i64 s2, .int .i64 s3, .int .i64 s4, .int .i64 s5, .int .i64 s6] 28)) base (.slice (some ⟨g, 0, none⟩) n c) xs) := Lib.hid (HOX.out.below (newB _ _))
        have HGB : Hid (base ≤ g) := Lib.hid hgb
        have HBS : Hid (base ≤ (WR.alloc (.cells #[.int .i64 s0, .int .i64 s1, .int .i64 s2, .int .i64 s3, .int .i64 s4, .int .i64 s5, .int .i64 s6] 28)).heap.size) := Lib.hid (Nat.le_trans hb HBN.out.size)
        cases β with
        | true =>
          rw [if_pos rfl, List.append_nil] at hfs
          have HX3 : Hid (xs.take pp = (l.take (qq + 1)).filter (fun x => !d x)) := Lib.hid (by rw [hfs]; exact hX1.out)
          clear hfs
          go_wp2_with (go_at_fn K; refine HC.out.mono ?_; rintro e W2 ⟨rfl, hb2⟩; have HB2 := Lib.hid (HBN.out.trans (hb2.mono HBS.out)); have HO2 := Lib.hid (HON.out.below hb2); clear hb2)
          go_roundw
          case rel => exact ⟨pp, qq + 1, xs, by omega, by omega, rfl, by go_num, hxn, Lib.hid (by have := HO2.out; unfold OwnW at this; rw [hxn.out] at this; exact this), HX3, HDR, HB2⟩
          case measure => simp [intOf]; omega
        | false =>
          rw [if_neg (by decide)] at hfs
          have HX3 : Hid ((xs.set pp ((s0, s1, s2), (s3, s4), s5, s6)).take (pp + 1) = (l.take (qq + 1)).filter (fun x => !d x)) := Lib.hid (by
            rw [hfs, ← hX1.out, List.take_set, List.take_succ_eq_append_getElem (by rw [hxn.out]; omega), List.set_append, if_neg (by simp; omega), List.length_take, show min pp xs.length = pp by rw [hxn.out]; omega, Nat.sub_self]
            rfl)
          have HX4 : Hid ((xs.set pp ((s0, s1, s2), (s3, s4), s5, s6)).drop (qq + 1) = l.drop (qq + 1)) := Lib.hid (by
            rw [List.drop_set, if_pos (by omega)]
            exact HDR.out)
          have HXL : Hid ((xs.set pp ((s0, s1, s2), (s3, s4), s5, s6)).length = n) := Lib.hid (by rw [List.length_set]; exact hxn.out)
          clear hfs
          go_wp2_with (go_at_fn K; refine HC.out.mono ?_; rintro e W2 ⟨rfl, hb2⟩; have HB2 := Lib.hid (HBN.out.trans (hb2.mono HBS.out)); have HO2 := Lib.hid (HON.out.below hb2); have hkb := HKB.out.up hb2 HKB.out.lt; have k1 := hkb.cell 0 rfl; have k2 := hkb.cell 1 rfl; have k3 := hkb.cell 2 rfl; have k4 := hkb.cell 3 rfl; have k5 := hkb.cell 4 rfl; have k6 := hkb.cell 5 rfl; have k7 := hkb.cell 6 rfl; obtain ⟨⟨v1, d1⟩, ⟨v2, d2⟩, ⟨v3, d3⟩, ⟨v4, d4⟩, ⟨v5, d5⟩, ⟨v6, d6⟩, ⟨v7, d7⟩, f0⟩ := ownW_cells HO2.out hxn.out (show pp < n by omega); have f1 := f0 (pp * 7); have f2 := f0 (pp * 7 + 1); have f3 := f0 (pp * 7 + 2); have f4 := f0 (pp * 7 + 3); have f5 := f0 (pp * 7 + 4); have f6 := f0 (pp * 7 + 5); have f7 := f0 (pp * 7 + 6); have HO3 := Lib.hid (HO2.out.store hxn.out pp ((s0, s1, s2), (s3, s4), s5, s6)); have HB3 := Lib.hid (belowW_set HB2.out HGB.out (pp * 7) (.int .i64 s0) (.int .i64 s1) (.int .i64 s2) (.int .i64 s3) (.int .i64 s4) (.int .i64 s5) (.int .i64 s6)); clear hb2 hkb f0)
          go_roundw
          case rel => exact ⟨pp + 1, qq + 1, xs.set pp ((s0, s1, s2), (s3, s4), s5, s6), by omega, by omega, by go_num, by go_num, HXL, Lib.hid (by have := HO3.out; unfold OwnW at this; rw [HXL.out] at this; exact this), HX3, HX4, HB3⟩
          case measure => simp [intOf]; omega
      · have hqn3 : qq = n := by omega
        have HX3 : Hid (xs.take pp = l.filter (fun x => !d x)) := Lib.hid (by
          have h1 := hX1.out
          rw [List.take_of_length_le (l := l) (i := qq) (by rw [hn.out]; omega)] at h1
          exact h1)
        obtain ⟨q1, hq1⟩ : ∃ q1, Hid (n - pp = q1) := ⟨_, Lib.hid rfl⟩
        have hpc : ¬ c = pp := by omega
        have hs1 := cutW_back (A := some ⟨g, 0, none⟩) (n := n) (c := c) (p := pp) (by omega) hnc
        rw [if_neg hpc, hq1.out] at hs1
        simp only [Option.map_some, add_at, Nat.zero_add] at hs1
        have hs2 := cutW_front (A := some ⟨g, 0, none⟩) (n := n) (c := c) (k := pp) (by omega)
        have hpq1 : pp + q1 = n := by have := hq1.out; omega
        have hq10 : 0 < q1 := by have := hq1.out; omega
        have HGB : Hid (base ≤ g) := Lib.hid hgb
        have HPP : Hid ((xs.take pp).length = pp) := Lib.hid (by rw [List.length_take]; have := hxn.out; omega)
        obtain ⟨W2, ys, hrun, ho2, ht2, hg2⟩ := run_clearW (c - pp) HOX.out hxn.out hpq1 hq10
        have HO2 := Lib.hid ho2
        have HT2 := Lib.hid ht2
        have HB2 := Lib.hid (hB.out.grown hg2 (Nat.le_trans hb hB.out.size) (fun k hk => by injection hk with hk; have := HGB.out; omega))
        clear ho2 ht2 hg2
        go_wp2
        go_ret
        exact ⟨⟨_, rfl, ownW_cut HO2.out HT2.out HX3.out HPP.out (by omega)⟩, HB2.out⟩
set_option maxHeartbeats 1000000 in
theorem growW (n : Nat) (hn0 : 0 < n) (hn1 : n ≤ 1000000) (w : World) :
    Calls Try.prog 45 #[.slice none 0 0, .int .i64 n] w fun e w' => ∃ V, e = .returned V ∧ OwnW w' w.heap.size V [] ∧ Below w.heap.size w w' := by
  obtain ⟨i0, hi, hz0, hz1, hz2⟩ := info_parts wait_info
  have hrz : ∀ ty, (Builtin.append_ #[22, 3] ty #[.slice none 0 0, .int .i64 (n : Int)]).run Try.prog w = _ := fun ty =>
    Lib.run_append_nil_zeros w 22 3 ty 28 i0 _ .i64 .i64 Try.underlying22 Try.underlying3 hi hz0 n hn0 (by omega) (by omega) (by rw [hz2]; omega)
  have hge : n ≤ grownCap w n 0 28 := grownCap_ge w _ _ _
  have hcm : grownCap w n 0 28 ≤ maxLen := grownCap_le_maxLen w n 0 _ (by simp only [maxLen]; omega)
  obtain ⟨G, hG⟩ : ∃ G, Hid (grownCap w n 0 28 = G) := ⟨_, rfl⟩
  rw [hG.out] at hrz hge hcm
  have hown : Hid (OwnW (w.drew.alloc (.cells (Builtin.zeroCells (Value.agg #[.int .i64 0, .int .i64 0, .int .i64 0, .int .i64 0, .int .i64 0, .int .i64 0, .int .i64 0]).cells n ++ Builtin.zeroCells (Value.agg #[.int .i64 0, .int .i64 0, .int .i64 0, .int .i64 0, .int .i64 0, .int .i64 0, .int .i64 0]).cells (G - n)) 28)) w.heap.size (.slice (some ⟨w.heap.size, 0, none⟩) 0 G) []) := by
    refine ⟨rfl, .inr ⟨w.heap.size, G, _, rfl, Nat.le_refl _, heap_alloc_new w.drew _, Nat.zero_le _, hcm, ?_, ?_⟩⟩
    · rw [Array.size_append, size_zeroCells, size_zeroCells, show (Value.agg #[.int .i64 0, .int .i64 0, .int .i64 0, .int .i64 0, .int .i64 0, .int .i64 0, .int .i64 0]).cells.size = 7 from rfl, ← Nat.add_mul]
      congr 1
      omega
    · simp [wcs]
  have hpos : ((n : Int) - 0) = n := by omega
  have h4 : (0 : Int) < (n : Int) := by omega
  have h1 : ¬ ((n : Int) < 0) := by omega
  have h2 : IntKind.i64.wrap (n : Int) = n := by rw [IntKind.wrap_i64]; omega
  have h3 : (0 : Int) ≤ (G : Int) := by omega
  clear hcm hG
  go_enter Try.func45, Try.ntmps45
  go_wp2_with (at_builtin; refine Lib.wpList_append_run _ rfl _ _ _ _ rfl _ _ rfl rfl _ _ (hrz _) ?_)
  go_ret
  exact ⟨_, rfl, hown.out, nxA (bdN (Below.refl _ _) 1) _⟩
theorem growW_0 (w : World) : Calls Try.prog 45 #[.slice none 0 0, .int .i64 (0 : Nat)] w fun e w' => ∃ V, e = .returned V ∧ OwnW w' w.heap.size V [] ∧ Below w.heap.size w w' := by
  go_enter Try.func45, Try.ntmps45
  go_wp2
  go_ret
  exact ⟨_, rfl, OwnW.nil _ _, Below.refl _ _⟩
theorem growW_any (n : Nat) (hn1 : n ≤ 1000000) (w : World) :
    Calls Try.prog 45 #[.slice none 0 0, .int .i64 n] w fun e w' => ∃ V, e = .returned V ∧ OwnW w' w.heap.size V [] ∧ Below w.heap.size w w' := by
  rcases Nat.eq_zero_or_pos n with rfl | h
  · exact growW_0 w
  · exact growW n h hn1 w
def len2W (n m k : Nat) : Nat := if k = 0 then 0 else if k = 1 then n else n + m
def catW (l r : List Wt) (k : Nat) : List Wt := if k = 0 then [] else if k = 1 then l else l ++ r
set_option maxHeartbeats 2000000 in
set_option maxRecDepth 8000 in
theorem concatW (g n m cn cm : Nat) (A B : Option Addr) (l r : List Wt) (w : World) (h0 : w.cell? ⟨g, 0, none⟩ = some (.slice A n cn)) (h1 : w.cell? ⟨g, 1, none⟩ = some (.slice B m cm))
    (hl : WRd w A l) (hr : WRd w B r) (hn : Hid (l.length = n)) (hm : Hid (r.length = m)) (hs : Hid (n + m ≤ 1100)) :
    Calls Try.prog 35 #[.slice (some ⟨g, 0, none⟩) 2 2] w fun e w' => ∃ V, e = .returned V ∧ OwnW w' w.heap.size V (l ++ r) ∧ Below w.heap.size w w' := by
  have HL := Lib.hid hl
  have HR := Lib.hid hr
  have H0 := Lib.hid h0
  have H1 := Lib.hid h1
  clear hl hr h0 h1
  go_enter Try.func35, Try.ntmps35
  go_wp2
  go_loopw [3, 5, 11] (fun t p i wr => ∃ (k : Nat), k ≤ 2 ∧ i = .int .i64 (k : Int) ∧ t = .int .i64 ((len2W n m k : Nat) : Int) ∧ Hid (w = wr)) (fun _ _ i _ => 2 - (intOf i).toNat)
  case atStart => exact ⟨0, by omega, rfl, rfl, rfl⟩
  case round =>
    obtain ⟨k, hk, rfl, rfl, hw⟩ := hrel
    have hw' := hw.out
    subst hw'
    have hc : k = 0 ∨ k = 1 ∨ k = 2 := by omega
    have c0 := H0.out
    have c1 := H1.out
    rcases hc with rfl | rfl | rfl
    · have e1 : len2W n m 0 = 0 := rfl
      have e2 : IntKind.i64.wrap (n : Int) = n := by have := hs.out; rw [IntKind.wrap_i64]; omega
      go_wp2
      go_roundw
      case rel => exact ⟨1, by omega, by go_num, by simp [len2W], trivial⟩
      case measure => simp [intOf]
    · have e1 : len2W n m 1 = n := rfl
      have e2 : IntKind.i64.wrap ((n : Int) + (m : Int)) = (n : Int) + (m : Int) := by have := hs.out; rw [IntKind.wrap_i64]; omega
      have e3 : 0 ≤ (n : Int) + (m : Int) := by omega
      go_wp2
      go_roundw
      case rel => exact ⟨2, by omega, by go_num, by simp [len2W], trivial⟩
      case measure => simp [intOf]
    · have e1 : len2W n m 2 = n + m := rfl
      clear c0 c1
      go_wp2_with (first
        | (go_at_call 45; refine (growW_any (len2W n m 2) (by rw [e1]; have := hs.out; omega) _).mono ?_; rintro e W1 ⟨V0, rfl, ho0, hb0⟩; have HO0 := Lib.hid ho0; have HB0 := Lib.hid hb0; clear ho0 hb0))
      go_loopw [6, 8, 27] (fun V p i wr => ∃ (k : Nat), k ≤ 2 ∧ i = .int .i64 (k : Int) ∧ Hid (OwnW wr w.heap.size V (catW l r k)) ∧ Hid (Below w.heap.size w wr)) (fun _ _ i _ => 2 - (intOf i).toNat)
      case atStart => exact ⟨0, by omega, rfl, HO0, HB0⟩
      case round =>
        obtain ⟨k, hk2, rfl, hO, hB⟩ := hrel
        have hc : k = 0 ∨ k = 1 ∨ k = 2 := by omega
        have hcell : g < w.heap.size := World.block_lt_of_cell? w _ H0.out
        have c0 : wr.cell? ⟨g, 0, none⟩ = some (.slice A n cn) := (hB.out.cell (p := ⟨g, 0, none⟩) hcell).trans H0.out
        have c1 : wr.cell? ⟨g, 1, none⟩ = some (.slice B m cm) := (hB.out.cell (p := ⟨g, 1, none⟩) hcell).trans H1.out
        rcases hc with rfl | rfl | rfl
        · go_wp2_with (at_builtin; (refine app_wait rfl (.tmp 31) (.tmp 32) rfl w.heap.size _ [] A l n cn hn rfl rfl hO.out (HL.out.below hB.out) (by have := hs.out; show _ ≤ _; simp; omega) hB.out.size ?_); intro V1 W2 ho1 hb1; have HO1 := Lib.hid ho1; have HB1 := Lib.hid (hB.out.trans hb1); clear ho1 hb1)
          go_roundw
          case rel => exact ⟨1, by omega, by go_num, HO1, HB1⟩
          case measure => simp [intOf]
        · go_wp2_with (at_builtin; (refine app_wait rfl (.tmp 31) (.tmp 32) rfl w.heap.size _ l B r m cm hm rfl rfl hO.out (HR.out.below hB.out) (by have := hs.out; have := hn.out; show _ ≤ _; omega) hB.out.size ?_); intro V1 W2 ho1 hb1; have HO1 := Lib.hid ho1; have HB1 := Lib.hid (hB.out.trans hb1); clear ho1 hb1)
          go_roundw
          case rel => exact ⟨2, by omega, by go_num, HO1, HB1⟩
          case measure => simp [intOf]
        · clear c0 c1
          go_wp2
          go_ret
          exact ⟨_, rfl, hO.out, hB.out⟩
end Go.Proofs.Ytfcekfdoafpmoaa
