/- Contracts: slices.Clone, IndexFunc, DeleteFunc at grants; clear and copy in an own row of grants. -/
import Derived.Test.YthclgccgkdijbaaDoorHval
namespace Go.Proofs.YthclgccgkdijbaaDoor
open Go.RowKit
set_option linter.unusedVariables false
set_option linter.unusedSimpArgs false

theorem elemH : Tryd.prog.elem 24 = 53 := by kernel_rfl
theorem sizeH (W : World) : (sizeOf 53).run Tryd.prog W = .ok 5 W := by
  obtain ⟨i0, hi, hz0, hz1, hz2⟩ := info_parts hold_info
  simp [sizeOf, typeInfo, hi, hz1]
theorem cutH_front {A : Option Addr} {n c p : Nat} (hp : p ≤ c) (W : World) :
    (Instr.slice 24 (.slice A n c) none (some (.int .i64 (p : Int))) none).run Tryd.prog W = .ok (.slice A p c) W := by
  have hu : Tryd.prog.underlying 24 = some (.slice (Tryd.prog.elem 24)) := by rw [elemH]; exact Tryd.underlying24
  rw [run_slice_h W 24 A n c hu .i64 (p : Int) (by omega) (by omega), elemH, sizeH]
  cases A <;> simp [sliced, Result.andThen, Addr.add]
theorem cutH_back {A : Option Addr} {n c p : Nat} (hp : p ≤ n) (hc : n ≤ c) (W : World) :
    (Instr.slice 24 (.slice A n c) (some (.int .i64 (p : Int))) none none).run Tryd.prog W = .ok (.slice (if c = p then A else A.map (·.add (p * 5))) (n - p) (c - p)) W := by
  have hu : Tryd.prog.underlying 24 = some (.slice (Tryd.prog.elem 24)) := by rw [elemH]; exact Tryd.underlying24
  rw [run_slice_l (P := Tryd.prog) W 24 A n c hu .i64 (p : Int) (by omega) (by omega), elemH, sizeH]
  simp [Result.andThen, sliced]
set_option maxHeartbeats 1000000 in
set_option maxRecDepth 8000 in
theorem clone_hold (A : Option Addr) (n c : Nat) (l : List Hd) (w : World) (h : HRd w A l) (hn : Hid (l.length = n)) (hm : Hid (n ≤ 1000)) :
    Calls Tryd.prog 44 #[.slice A n c] w fun e w' => (∃ V, e = .returned V ∧ OwnH w' w.heap.size V l) ∧ Below w.heap.size w w' := by
  have HR := Lib.hid h
  clear h
  cases A with
  | none =>
    have h0 : Hid (l = []) := by
      rcases List.eq_nil_or_concat l with h0 | ⟨ys, y, h0⟩
      · exact h0
      · obtain ⟨b, o, hb, _⟩ := HR.out (by rw [h0]; simp)
        cases hb
    have hn0 : n = 0 := by rw [← hn.out, h0.out]; rfl
    subst hn0
    have hnil : ∀ w : World, (binOp .eql 24 (.slice none 0 c) (.slice none 0 0)).run Tryd.prog w = .ok (.bool true) w := fun _ => by kernel_rfl
    have HE : Hid (OwnH w w.heap.size (.slice none 0 0) l) := Lib.hid (by rw [h0.out]; exact OwnH.nil _ _)
    go_enter Tryd.func44, Tryd.ntmps44
    go_wp2
    go_ret
    exact ⟨⟨_, rfl, HE.out⟩, Below.refl _ _⟩
  | some a =>
    have hnil : ∀ w : World, (binOp .eql 24 (.slice (some a) n c) (.slice none 0 0)).run Tryd.prog w = .ok (.bool false) w := fun _ => by kernel_rfl
    have hl0 : Hid (([] : List Hd).length + n ≤ 1000000) := Lib.hid (by have := hm.out; simp; omega)
    go_enter Tryd.func44, Tryd.ntmps44
    go_wp2_with (at_builtin; (refine app_hold rfl (.tmp 5) (.tmp 6) rfl w.heap.size _ [] (some a) l n c hn rfl rfl (OwnH.empty w w.heap.size (Nat.le_refl _)) (HR.out.below (newB w _)) hl0 (newB w (.cells #[] 53)).size ?_); intro V1 W1 ho1 hb1; have HO1 := Lib.hid ho1; have HB1 := Lib.hid ((newB w (.cells #[] 53)).trans hb1); clear ho1 hb1)
    go_ret
    exact ⟨⟨V1, rfl, HO1.out⟩, HB1.out⟩

/-- The first place where d holds, -1 if there is none. -/
def IdxH (d : Hd → Bool) (l : List Hd) (r : Int) : Prop := (r = -1 ∧ ∀ j, j < l.length → d (l.getD j default) = false) ∨ ∃ k : Nat, r = k ∧ k < l.length ∧ d (l.getD k default) = true ∧ ∀ j, j < k → d (l.getD j default) = false
/-- What a predicate handed in answers. -/
def PredH (P : Program) (K : Nat) (lb : Array Value) (d : Hd → Bool) (base : Nat) (w : World) : Prop :=
  ∀ (x y z m v : Int) (W : World), Below base w W → Calls P K (#[hag x y z m v] ++ lb) W fun e w' => e = .returned (.bool (d ((x, y, z), (m, v)))) ∧ Below W.heap.size W w'
set_option maxHeartbeats 2000000 in
set_option maxRecDepth 8000 in
theorem index_hold (K : Nat) (lb : Array Value) (d : Hd → Bool) (eK : ∀ args w, (callFunc K args).run Tryd.prog w = .ok (.enter K args) w) (base : Nat) (A : Option Addr) (n c : Nat) (l : List Hd) (w : World) (hb : base ≤ w.heap.size) (HK : Hid (PredH Tryd.prog K lb d base w)) (hl : HRd w A l) (hn : Hid (l.length = n)) (hm : Hid (n ≤ 1000)) {r : Int} (hr : Hid (IdxH d l r)) :
    Calls Tryd.prog 67 #[.slice A n c, .func (.func K) #[] lb] w fun e w' => e = .returned (.int .i64 r) ∧ Below w.heap.size w w' := by
  have HR := Lib.hid hl
  clear hl
  go_enter Tryd.func67, Tryd.ntmps67
  go_wp2
  go_loopw [8] (fun i wr => ∃ (j : Nat), j ≤ n ∧ i = .int .i64 j ∧ Hid (∀ i, i < j → d (l.getD i default) = false) ∧ Hid (Below w.heap.size w wr)) (fun i _ => n - (intOf i).toNat)
  case atStart => exact ⟨0, by omega, rfl, Lib.hid (fun i hi => by omega), Below.refl _ _⟩
  case round =>
    obtain ⟨j, hj, rfl, hE, hB⟩ := hrel
    obtain ⟨WR, hWR⟩ : ∃ W, W = wr := ⟨_, rfl⟩
    subst hWR
    by_cases hlt : (j : Int) < (n : Int)
    · obtain ⟨g, o, x, y, z, m, v, rfl, hg, hx, c1, c2, c3, c4, c5⟩ := (HR.out.below hB.out).at_ (i := j) (by have := hn.out; omega)
      have e5 : IntKind.i64.wrap ((j : Int) + 1) = (j : Int) + 1 := by have := hm.out; rw [IntKind.wrap_i64]; omega
      have HC := Lib.hid (HK.out x y z m v WR (hB.out.mono hb))
      obtain ⟨β, hβ⟩ : ∃ β, Hid (d ((x, y, z), (m, v)) = β) := ⟨_, Lib.hid rfl⟩
      have hdx : Hid (d (l.getD j default) = β) := Lib.hid (by rw [hx.out]; exact hβ.out)
      rw [hβ.out] at HC
      cases β with
      | true =>
        have hend : Hid (r = (j : Int)) := Lib.hid (by
          rcases hr.out with ⟨_, h⟩ | ⟨k, rfl, hk, hd, h⟩
          · have := h j (by have := hn.out; omega)
            rw [hdx.out] at this
            cases this
          · rcases Nat.lt_trichotomy k j with h1 | h1 | h1
            · have := hE.out k h1
              rw [hd] at this
              cases this
            · rw [h1]
            · have := h j h1
              rw [hdx.out] at this
              cases this)
        go_wp2_with (go_at_fn K; refine HC.out.mono ?_; rintro e W1 ⟨rfl, hb1⟩; have HB1 := Lib.hid (nx hB.out hb1); clear hb1)
        go_ret
        exact ⟨by rw [hend.out]; rfl, HB1.out⟩
      | false =>
        have hE2 : Hid (∀ i, i < j + 1 → d (l.getD i default) = false) := Lib.hid (fun i hi => by
          by_cases e : i = j
          · rw [e]; exact hdx.out
          · exact hE.out i (by omega))
        go_wp2_with (go_at_fn K; refine HC.out.mono ?_; rintro e W1 ⟨rfl, hb1⟩; have HB1 := Lib.hid (nx hB.out hb1); clear hb1)
        go_roundw
        case rel => exact ⟨j + 1, by omega, by go_num, hE2, HB1⟩
        case measure => simp [intOf]; omega
    · have hjn : j = n := by omega
      have hend : Hid (r = -1) := Lib.hid (by
        rcases hr.out with ⟨h, _⟩ | ⟨k, rfl, hk, hd, h⟩
        · exact h
        · have := hE.out k (by have := hn.out; omega)
          rw [hd] at this
          cases this)
      go_wp2
      go_ret
      exact ⟨by rw [hend.out]; rfl, hB.out⟩
theorem Below.size_le {B : Nat} {a w : World} (h : Below B a w) : a.heap.size ≤ w.heap.size := h.size
theorem own_five {w : World} {base g n c : Nat} {xs : List Hd} (h : OwnH w base (.slice (some ⟨g, 0, none⟩) n c) xs) (hn : xs.length = n) {p : Nat} (hp : p < n) :
    (∃ v, w.cell? ⟨g, p * 5, none⟩ = some v) ∧ (∃ v, w.cell? ⟨g, p * 5 + 1, none⟩ = some v) ∧ (∃ v, w.cell? ⟨g, p * 5 + 2, none⟩ = some v) ∧ (∃ v, w.cell? ⟨g, p * 5 + 3, none⟩ = some v) ∧ (∃ v, w.cell? ⟨g, p * 5 + 4, none⟩ = some v) ∧ ∀ j, w.frozen? ⟨g, j, none⟩ = false := by
  subst hn
  exact ⟨Option.isSome_iff_exists.1 (own_cells h (by omega)), Option.isSome_iff_exists.1 (own_cells h (by omega)), Option.isSome_iff_exists.1 (own_cells h (by omega)), Option.isSome_iff_exists.1 (own_cells h (by omega)), Option.isSome_iff_exists.1 (own_cells h (by omega)), h.frozenAt⟩
theorem below_five {B g : Nat} {a w : World} (h : Below B a w) (hg : B ≤ g) (o : Nat) (v1 v2 v3 v4 v5 : Value) : Below B a (((((w.setCell ⟨g, o, none⟩ v1).setCell ⟨g, o + 1, none⟩ v2).setCell ⟨g, o + 2, none⟩ v3).setCell ⟨g, o + 3, none⟩ v4).setCell ⟨g, o + 4, none⟩ v5) :=
  ((((h.setCell (p := ⟨g, o, none⟩) hg v1).setCell (p := ⟨g, o + 1, none⟩) hg v2).setCell (p := ⟨g, o + 2, none⟩) hg v3).setCell (p := ⟨g, o + 3, none⟩) hg v4).setCell (p := ⟨g, o + 4, none⟩) hg v5
/-- The front of an own row. -/
theorem own_cut {w : World} {base g n c i : Nat} {ys : List Value} {zs l : List Hd} (h : w.ownsRow base 53 5 (.slice (some ⟨g, 0, none⟩) n c) n ys) (ht : ys.take (i * 5) = hcs zs) (hz : zs = l) (hi : zs.length = i) (hin : i ≤ n) : OwnH w base (.slice (some ⟨g, 0, none⟩) i c) l := by
  subst hz
  unfold OwnH
  rw [hi]
  refine ⟨by rw [hcs_length, hi], ?_⟩
  rcases h.2 with ⟨h', _⟩ | ⟨g', cap', cur, h', hb, hg, hnc, hcm, hcs', htake⟩
  · simp at h'
  · simp only [Value.slice.injEq, Option.some.injEq, Addr.mk.injEq, and_true, true_and] at h'
    obtain ⟨rfl, rfl⟩ := h'
    refine .inr ⟨g, c, cur, rfl, hb, hg, by omega, hcm, hcs', ?_⟩
    rw [← ht, ← htake, List.take_take, Nat.min_eq_left (Nat.mul_le_mul_right 5 hin)]
/-! ### clear -/
theorem zeroH (W : World) : (zeroValue 53).run Tryd.prog W = .ok (hag 0 0 0 0 0) W := by kernel_rfl
theorem zcH_one (q : Nat) : ∀ v ∈ (Builtin.zeroCells (hag 0 0 0 0 0).cells q).toList, v.oneCell' = true := by
  intro v hv
  simp only [Builtin.zeroCells, Array.mem_toList_iff, Array.mem_map] at hv
  obtain ⟨i, _, rfl⟩ := hv
  have hc : i % 5 = 0 ∨ i % 5 = 1 ∨ i % 5 = 2 ∨ i % 5 = 3 ∨ i % 5 = 4 := by omega
  simp only [Value.cells]
  rcases hc with e | e | e | e | e <;> simp [e] <;> rfl
theorem run_clearH {w : World} {base g n c : Nat} {xs : List Hd} {i q : Nat} (cq : Nat) (hO : OwnH w base (.slice (some ⟨g, 0, none⟩) n c) xs) (hn : xs.length = n) (hq : i + q = n) (hq0 : 0 < q) :
    ∃ w' ys, (∀ ty, (Builtin.clear_ #[24] ty #[.slice (some ⟨g, i * 5, none⟩) q cq]).run Tryd.prog w = .ok (.tuple #[]) w') ∧ w'.ownsRow base 53 5 (.slice (some ⟨g, 0, none⟩) n c) n ys ∧ ys.take (i * 5) = hcs (xs.take i) ∧ w.grownBy w' (some g) := by
  subst hn
  have hcl : (Builtin.zeroCells (hag 0 0 0 0 0).cells q).toList.length = q * 5 := by rw [Array.length_toList, size_zeroCells]; rfl
  obtain ⟨w', hr, ho', hg⟩ := own_put (P := Tryd.prog) hO (i * 5) (Builtin.zeroCells (hag 0 0 0 0 0).cells q).toList (by rw [hcl]; omega) (zcH_one q)
  obtain ⟨m, rfl⟩ : ∃ m, q = m + 1 := ⟨q - 1, by omega⟩
  refine ⟨w', _, fun ty => ?_, ho', ?_, hg⟩
  · simp [Builtin.clear_, run_underlying Tryd.underlying24, zeroH, hr]
  · rw [hcs_take, List.append_assoc, List.take_append_of_le_length (by rw [List.length_take, hcs_length]; omega), List.take_take, Nat.min_self]
/-! ### copy -/
theorem step_copyH {w : World} {ops : Array Oper} {o : Oper} {a : Act} {K : Act → World → Prop} {Q : Exit → Act → World → Prop} {E : Prop} (hgd : o.guard = none) (d s : Operand)
    (ho : o.op = .call { callee := .builtin .copy, args := #[d, s], argTypes := #[24, 24] }) (base g n c : Nat) (xs : List Hd) (p q : Nat) (AD : Addr) (cd cs' : Nat)
    (hd : a.eval d = .slice (some AD) q cd) (hs : a.eval s = .slice (some ⟨g, p * 5, none⟩) (q + 1) cs') (hA : 0 < q → AD = ⟨g, (p + 1) * 5, none⟩)
    (hO : OwnH w base (.slice (some ⟨g, 0, none⟩) n c) xs) (hn : xs.length = n) (hq : p + 1 + q = n)
    (h : ∀ w' m, OwnH w' base (.slice (some ⟨g, 0, none⟩) n c) (xs.take (p + 1) ++ (xs.drop p).take q) → w.grownBy w' (some g) → K (a.put o.dst (goInt m)) w') :
    if Region.wanted o (yielded ops a.tmps) = true then Oper.wp Tryd.prog o a w K Q else E := by
  have hw : Region.wanted o (yielded ops a.tmps) = true := by simp [Region.wanted, hgd]
  rw [if_pos hw]
  subst hn
  obtain ⟨i0, hi, hz0, hz1, hz2⟩ := info_parts hold_info
  have hcl : (hcs ((xs.drop p).take q)).length = q * 5 := by rw [hcs_length, List.length_take, List.length_drop]; omega
  have hmin : Nat.min (q + 1) q = q := Nat.min_eq_right (by omega)
  have hload := run_firstCells_some (P := Tryd.prog) w 5 q ⟨g, p * 5, none⟩ (q + 1) cs' (hcs ((xs.drop p).take q)) hcl (fun j v hv => by
    have hj : j < q * 5 := by rw [← hcl]; exact (List.getElem?_eq_some_iff.1 hv).1
    rw [add_at, hO.cellAt (p * 5 + j) (by omega), ← hv, hcs_take, hcs_drop, List.getElem?_take, if_pos hj, List.getElem?_drop])
  rcases Nat.eq_zero_or_pos q with h0 | h0
  · subst h0
    have hload1 : (Builtin.firstCells 5 0 (.slice (some ⟨g, p * 5, none⟩) 1 cs')).run Tryd.prog w = .ok #[] w := by simpa [hcs] using hload
    have hrun : ∀ ty, (Builtin.copy_ #[24, 24] ty #[.slice (some AD) 0 cd, .slice (some ⟨g, p * 5, none⟩) (0 + 1) cs']).run Tryd.prog w = .ok (goInt (0 : Nat)) w := fun ty => by
      simp [Builtin.copy_, run_underlying Tryd.underlying24, Builtin.lenOf, sizeOf, typeInfo, hi, hz1, hload1, storeCells]
    unfold Oper.wp
    simp [execOp, ho, resolve, invoke, builtin, hd, hs, hrun, Result.andThen]
    refine h w 0 ?_ ⟨rfl, rfl, rfl, Nat.le_refl _, fun _ _ _ => rfl⟩
    rw [List.take_zero, List.append_nil, List.take_of_length_le (by omega)]
    exact hO
  · have hA' := hA h0
    subst hA'
    obtain ⟨w', hr, ho', hg⟩ := own_put (P := Tryd.prog) hO ((p + 1) * 5) (hcs ((xs.drop p).take q)) (by rw [hcl]; omega) (hcs_one _)
    have hrun : ∀ ty, (Builtin.copy_ #[24, 24] ty #[.slice (some ⟨g, (p + 1) * 5, none⟩) q cd, .slice (some ⟨g, p * 5, none⟩) (q + 1) cs']).run Tryd.prog w = .ok (goInt (q : Nat)) w' := fun ty => by
      simp [Builtin.copy_, run_underlying Tryd.underlying24, Builtin.lenOf, sizeOf, typeInfo, hi, hz1, hmin, hload, hr]
    unfold Oper.wp
    simp [execOp, ho, resolve, invoke, builtin, hd, hs, hrun, Result.andThen]
    refine h w' q ?_ hg
    have e1 : (hcs xs).take ((p + 1) * 5) ++ hcs ((xs.drop p).take q) ++ (hcs xs).drop ((p + 1) * 5 + (hcs ((xs.drop p).take q)).length) = hcs (xs.take (p + 1) ++ (xs.drop p).take q) := by
      have e0 : (hcs xs).drop ((p + 1) * 5 + (hcs ((xs.drop p).take q)).length) = [] := List.drop_of_length_le (by rw [hcl, hcs_length]; omega)
      rw [e0, List.append_nil, hcs_append, hcs_take xs (p + 1)]
    rw [e1] at ho'
    have e2 : (xs.take (p + 1) ++ (xs.drop p).take q).length = xs.length := by simp; omega
    unfold OwnH
    rw [e2]
    exact ho'
end Go.Proofs.YthclgccgkdijbaaDoor
