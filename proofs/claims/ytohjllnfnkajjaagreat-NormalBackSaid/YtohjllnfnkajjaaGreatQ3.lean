/- Contracts of the reference: Set, list, less. Rows of slices of numbers, the call's own; the reference's Minimal. Contracts of the program: sets as bits (has, includes, flags, indices), rows of such sets, ContainsFunc over them. The minimal sets found one after the other, as numbers; sorted, they are the list of minimal sets. Nothing here speaks of a program. -/
import Derived.Test.YtohjllnfnkajjaaGreatQ1
import Derived.Test.YtohjllnfnkajjaaGreatQ2
import Derived.Deep.RegionHeld3
namespace Go.Proofs.YtohjllnfnkajjaaGreat
open Go.RowKit
set_option linter.unusedVariables false
set_option linter.unusedSimpArgs false

theorem bitS_fill (n b : Nat) : fillS n n (fun i => b.testBit i) = bitS n b := fillS_all n _
theorem and_one (x : Nat) (hx : x < 1000) : bits BinOp.and IntKind.i64 (x : Int) 1 = ((x % 2 : Nat) : Int) := by
  show IntKind.i64.wrap (((BitVec.ofInt 64 (x : Int) &&& BitVec.ofInt 64 1).toNat : Nat) : Int) = _
  have h3 : (BitVec.ofInt 64 (x : Int)).toNat = x := by rw [BitVec.toNat_ofInt]; omega
  rw [BitVec.toNat_and, h3, show (BitVec.ofInt 64 1).toNat = 1 from rfl, Nat.and_one_is_mod, IntKind.wrap_i64]
  omega
/-- Bit j of b, as the walk spells it. -/
theorem bit_is (b j : Nat) (hb : b < 256) {β : Bool} (h : Hid (b.testBit j = β)) : (bits BinOp.and IntKind.i64 ((b : Int) / 2 ^ j) 1 == 1) = β := by
  have h0 : b / 2 ^ j < 1000 := Nat.lt_of_le_of_lt (Nat.div_le_self _ _) (by omega)
  have he : ((b : Int) / 2 ^ j) = ((b / 2 ^ j : Nat) : Int) := by simp
  rw [he, and_one _ h0, bit_test]
  exact h.out
theorem u64_wrap (j : Nat) (h : j < 1000) : IntKind.u64.wrap (j : Int) = (j : Int) := by rw [IntKind.wrap_u64]; omega
set_option maxHeartbeats 2000000 in
set_option maxRecDepth 8000 in
theorem rset_is (b n : Nat) (w : World) (hb : b < 256) (hn : n ≤ 8) :
    Calls Tryz.prog 14 #[.int .i64 (b : Int), .int .i64 (n : Int)] w fun x w' => x = .returned (.slice (some ⟨w.heap.size, 0, none⟩) n n) ∧ Blk w' w.heap.size (bvs (bitS n b)) ∧ Below w.heap.size w w' := by
  have hmk := make_bools n (by omega)
  go_enter Tryz.func14, Tryz.ntmps14
  go_wp2
  go_loopw [6] (fun i wr => ∃ (j : Nat), j ≤ n ∧ i = .int .i64 j ∧ Hid (Blk wr w.heap.size (bvs (fillS n j (fun i => b.testBit i)))) ∧ Hid (Below w.heap.size w wr)) (fun i _ => n - (intOf i).toNat)
  case atStart => exact ⟨0, by omega, rfl, by rw [fillS_zero]; exact Blk.new w _ _ rfl, newB _ _⟩
  case round =>
    obtain ⟨j, hj, rfl, hK, hB⟩ := hrel
    by_cases hlt : (j : Int) < (n : Int)
    · have e5 : IntKind.i64.wrap ((j : Int) + 1) = (j : Int) + 1 := by rw [IntKind.wrap_i64]; omega
      have e6 := u64_wrap j (by omega)
      obtain ⟨β, hβ⟩ : ∃ β, Hid (b.testBit j = β) := ⟨_, rfl⟩
      have hq2 := bit_is b j hb hβ
      have hc := hK.out.cell j (bvs_at (by rw [fillS_len]; omega))
      have hf := hK.out.fz j
      have hst := hK.out.bset j β
      have hfs := fillS_step (f := fun i => b.testBit i) (n := n) (j := j) (by omega)
      rw [hβ.out] at hfs
      rw [hfs] at hst
      have HST := Lib.hid hst
      have HB2 := Lib.hid (hB.out.setCell (p := ⟨w.heap.size, j, none⟩) (Nat.le_refl _) (.bool β))
      clear hst hfs
      go_wp2
      exact ⟨⟨j + 1, by omega, by go_num, HST, HB2⟩, by simp [intOf]; omega⟩
    · have hje : j = n := by omega
      subst hje
      go_wp2
      go_ret
      rw [← bitS_fill]
      exact ⟨rfl, hK.out, hB.out⟩
/-! ### list -/
def ivN (s : List Nat) : List Value := s.map fun (i : Nat) => Value.int .i64 (i : Int)
theorem ivN_len (s : List Nat) : (ivN s).length = s.length := by simp [ivN]
abbrev OwnN (w : World) (base : Nat) (v : Value) (s : List Nat) : Prop := w.ownsRow base 3 1 v s.length (ivN s)
/-- The slice at A reads as these numbers. -/
def NRd (w : World) (A : Option Addr) (s : List Nat) : Prop :=
  s ≠ [] → ∃ b o, A = some ⟨b, o, none⟩ ∧ b < w.heap.size ∧ ∀ i, i < s.length → w.cell? ⟨b, o + i, none⟩ = some (.int .i64 ((s.getD i 0 : Nat) : Int))
theorem NRd.nil (w : World) (A : Option Addr) : NRd w A [] := fun h => absurd rfl h
theorem NRd.below {w w' : World} {A : Option Addr} {s : List Nat} (h : NRd w A s) (hb : Below w.heap.size w w') : NRd w' A s := fun hx => by
  obtain ⟨b, o, hA, hlt, hc⟩ := h hx
  exact ⟨b, o, hA, Nat.lt_of_lt_of_le hlt hb.size, fun i hi => (hb.cell (p := ⟨b, o + i, none⟩) hlt).trans (hc i hi)⟩
theorem NRd.at_ {w : World} {A : Option Addr} {s : List Nat} (h : NRd w A s) {i : Nat} (hi : i < s.length) :
    ∃ b o v, A = some ⟨b, o, none⟩ ∧ b < w.heap.size ∧ Hid (s.getD i 0 = v) ∧ w.cell? ⟨b, o + i, none⟩ = some (.int .i64 ((v : Nat) : Int)) := by
  obtain ⟨b, o, hA, hb, hc⟩ := h (by rintro rfl; simp at hi)
  exact ⟨b, o, _, hA, hb, rfl, hc i hi⟩
theorem ivN_at {s : List Nat} {i : Nat} (h : i < s.length) : (ivN s)[i]? = some (.int .i64 ((s.getD i 0 : Nat) : Int)) := by
  simp [ivN, List.getElem?_eq_getElem h]
theorem OwnN.form {w : World} {base : Nat} {v : Value} {s : List Nat} (h : OwnN w base v s) :
    ∃ A c, v = .slice A s.length c ∧ s.length ≤ c ∧ NRd w A s := by
  rcases h.2 with ⟨rfl, hn⟩ | ⟨g, cap, cur, rfl, hb, hg, hnc, hcm, _, _⟩
  · exact ⟨none, 0, by rw [hn], by omega, fun hx => absurd (List.eq_nil_of_length_eq_zero hn) hx⟩
  · have hlt : g < w.heap.size := (Array.getElem?_eq_some_iff.1 hg).1
    refine ⟨_, cap, rfl, hnc, fun _ => ⟨g, 0, rfl, hlt, fun i hi => ?_⟩⟩
    have h1 := h.cellAt i (by omega)
    rw [ivN_at hi] at h1
    rw [Nat.zero_add]
    exact h1
theorem OwnN.nil (w : World) (base : Nat) : OwnN w base (.slice none 0 0) [] := World.ownsRow_nil w base _ 1
theorem ivN_one (s : List Nat) : ∀ u ∈ ivN s, u.oneCell' = true := by
  intro u hu
  obtain ⟨b, _, rfl⟩ := List.mem_map.1 hu
  rfl
theorem Src.nums {w : World} {tx e' : TypeId} (hk : Tryz.prog.underlying tx = some (.slice e')) {A : Option Addr} {s : List Nat} (c : Nat) (h : NRd w A s) : Src Tryz.prog 1 tx (.slice A s.length c) s.length (ivN s) w := by
  cases A with
  | none =>
    have hx : s = [] := by
      rcases s with _ | ⟨x, r⟩
      · rfl
      · obtain ⟨_, _, h, _⟩ := h (by simp)
        cases h
    subst hx
    exact Src.ofNil w hk c
  | some a =>
    rcases s with _ | ⟨x, r⟩
    · exact Src.ofSlice w hk a 0 c [] rfl (fun j u h => by simp at h) (fun u h => by cases h)
    · obtain ⟨b, o, hA, _, hc⟩ := h (by simp)
      injection hA with hA
      subst hA
      refine Src.ofSlice w hk _ _ c _ (by rw [ivN_len, Nat.mul_one]) (fun j u hu => ?_) (ivN_one _)
      rw [add_at]
      have hj : j < (x :: r).length := by rw [← ivN_len]; exact (List.getElem?_eq_some_iff.1 hu).1
      rw [hc j hj, ← ivN_at hj, hu]
theorem int_info : (Tryz.prog.info? 3).map (fun i => (i.zero, i.size, i.bytes)) = some (some (.int .i64 0), 1, 8) := by kernel_rfl
theorem app_num {w : World} {ops : Array Oper} {rest : List Oper} {o : Oper} {a : Act} {Q : Exit → Act → World → Prop} (hgd : Region.wanted o (yielded ops a.tmps) = true) (s y : Operand)
    (ho : o.op = .call { callee := .builtin .append, args := #[s, y], argTypes := #[34, 34] })
    (base : Nat) (V : Value) (xs : List Nat) (A : Option Addr) (ys : List Nat) (n c : Nat) (hn : Hid (ys.length = n)) (hv : a.eval s = V) (hx : a.eval y = .slice A n c)
    (hd : OwnN w base V xs) (hs : NRd w A ys) (hlen : Hid (xs.length + n ≤ 1000000)) (hbase : base ≤ w.heap.size)
    (h : ∀ V' w', OwnN w' base V' (xs ++ ys) → w.grownBy w' V.ownBlock → (V'.ownBlock = V.ownBlock ∨ V'.ownBlock = some w.heap.size) → wpList Tryz.prog ops Q rest (a.put o.dst V') w') :
    wpList Tryz.prog ops Q (o :: rest) a w := by
  have hn' := hn.out
  subst hn'
  obtain ⟨i0, hi, hz0, hz1, hz2⟩ := info_parts int_info
  have hl := hlen.out
  refine wpList_app w hgd s y 34 34 ho base 3 i0 _ 1 8 Tryz.underlying34 hi hz0 hz1 hz2 rfl V xs.length (ivN xs) _ ys.length (ivN ys) hv hx (.inl hd)
    (Src.nums Tryz.underlying34 c hs) (by simp only [maxLen]; omega) (fits_half (by omega)) hbase (fun V' w' h1 h2 h3 h4 => h V' w' ?_ (h3 hd) h4)
  show w'.ownsRow base 3 1 V' (xs ++ ys).length (ivN (xs ++ ys))
  rw [List.length_append, show ivN (xs ++ ys) = ivN xs ++ ivN ys by simp [ivN]]
  exact h1
theorem NRd.one_at (w : World) (T : TypeId) (i : Nat) {g : Nat} (hg : w.heap.size = g) : NRd (w.alloc (.cells #[.int .i64 (i : Int)] T)) (some ⟨g, 0, none⟩) [i] := by
  subst hg
  exact fun _ => ⟨_, 0, rfl, by simp, fun j hj => by
    obtain rfl : j = 0 := by simpa using hj
    simp⟩
set_option maxHeartbeats 2000000 in
set_option maxRecDepth 8000 in
theorem rlist_is (b n : Nat) (w : World) (hb : b < 256) (hn : n ≤ 8) :
    Calls Tryz.prog 46 #[.int .i64 (b : Int), .int .i64 (n : Int)] w fun x w' => (∃ v, x = .returned v ∧ OwnN w' w.heap.size v (bitL n b)) ∧ Below w.heap.size w w' := by
  go_enter Tryz.func46, Tryz.ntmps46
  go_wp2
  go_loopw [5, 6] (fun v i wr => ∃ (j : Nat) (A : Option Addr) (k c : Nat), j ≤ n ∧ i = .int .i64 j ∧ v = .slice A k c ∧ Hid (OwnN wr w.heap.size (.slice A k c) (bitL j b)) ∧ Hid (Below w.heap.size w wr)) (fun _ i _ => n - (intOf i).toNat)
  case atStart => exact ⟨0, none, 0, 0, by omega, rfl, rfl, OwnN.nil _ _, Below.refl _ _⟩
  case round =>
    obtain ⟨j, A, k, c, hj, rfl, rfl, hO, hB⟩ := hrel
    by_cases hlt : (j : Int) < (n : Int)
    · have e5 : IntKind.i64.wrap ((j : Int) + 1) = (j : Int) + 1 := by rw [IntKind.wrap_i64]; omega
      have e6 := u64_wrap j (by omega)
      obtain ⟨β, hβ⟩ : ∃ β, Hid (b.testBit j = β) := ⟨_, rfl⟩
      have hq2 := bit_is b j hb hβ
      have hst := bitL_succ j b
      have hle := bitL_len j b
      have HLE := Lib.hid hle
      rw [hβ.out] at hst
      clear hle
      cases β with
      | true =>
        rw [if_pos rfl] at hst
        have HST := Lib.hid hst
        have h1 : Hid ([j].length = 1) := rfl
        obtain ⟨k2, hk2⟩ : ∃ k2, Hid ((bitL j b ++ [j]).length = k2) := ⟨_, rfl⟩
        have hl2 : Hid ((bitL j b).length + 1 ≤ 1000000) := by have := HLE.out; show _ ≤ _; omega
        have HW := Lib.hid (show w.heap.size ≤ wr.heap.size from hB.out.size)
        have HO3 : Hid (∀ o, OwnN (wr.alloc o) w.heap.size (.slice A k c) (bitL j b)) := Lib.hid (fun o => own_kept hO.out (fun q hq => (newB _ o).block q (own_lt hO.out hq).2))
        clear hst
        go_wp2_with (at_builtin; (refine app_num rfl (.tmp 18) (.tmp 20) rfl w.heap.size (.slice A k c) (bitL j b) _ [j] 1 1 h1 rfl rfl (HO3.out _) (NRd.one_at _ _ _ rfl) hl2 (Nat.le_trans HW.out (by simp)) ?_); intro V2 w2 ho2 hg2 hn2; obtain ⟨A2, c2, hV2, -⟩ := ho2.form; rw [hk2.out] at hV2; subst hV2; have HO4 : Hid (OwnN w2 w.heap.size (.slice A2 k2 c2) (bitL (j + 1) b)) := Lib.hid (by rw [HST.out]; exact ho2); have HB4 := Lib.hid (gB_own (gB_trans (gB_below (nxA hB.out _) (Nat.le_refl _)) hg2) (fun g hg => (own_lt hO.out hg).1) (Nat.le_refl _)); clear ho2 hg2 hn2)
        go_roundw
        case rel => exact ⟨j + 1, A2, k2, c2, by omega, by go_num, rfl, HO4, HB4⟩
        case measure => simp [intOf]; omega
      | false =>
        rw [if_neg (by decide), List.append_nil] at hst
        have HO4 : Hid (OwnN wr w.heap.size (.slice A k c) (bitL (j + 1) b)) := Lib.hid (by rw [hst]; exact hO.out)
        clear hst
        go_wp2
        go_roundw
        case rel => exact ⟨j + 1, A, k, c, by omega, by go_num, rfl, HO4, hB⟩
        case measure => simp [intOf]; omega
    · have hje : j = n := by omega
      subst hje
      go_wp2
      go_ret
      exact ⟨⟨_, rfl, hO.out⟩, hB.out⟩
/-! ### less -/
theorem lexB_drop {s t : List Nat} {j : Nat} (h1 : j < s.length) (h2 : j < t.length) : lexB (s.drop j) (t.drop j) = if s.getD j 0 = t.getD j 0 then lexB (s.drop (j + 1)) (t.drop (j + 1)) else decide (s.getD j 0 < t.getD j 0) := by
  rw [List.drop_eq_getElem_cons h1, List.drop_eq_getElem_cons h2, lexB]
  simp [List.getD_eq_getElem?_getD, List.getElem?_eq_getElem h1, List.getElem?_eq_getElem h2]
set_option maxHeartbeats 2000000 in
set_option maxRecDepth 8000 in
theorem rless_is (s t : List Nat) (A : Option Addr) (n c : Nat) (B : Option Addr) (m d : Nat) (w : World) (hA : NRd w A s) (hB : NRd w B t) (hn : Hid (s.length = n)) (hm : Hid (t.length = m)) (hb : n ≤ 1000) {r : Bool} (hr : Hid (lessB s t = r)) :
    Calls Tryz.prog 47 #[.slice A n c, .slice B m d] w fun x w' => x = .returned (.bool r) ∧ Below w.heap.size w w' := by
  have HA := Lib.hid hA
  have HB := Lib.hid hB
  clear hA hB
  by_cases he : n = m
  · subst he
    have hr2 : Hid (lexB s t = r) := by have h := hr.out; unfold lessB at h; rw [if_pos (by rw [hn.out, hm.out])] at h; exact h
    have b0 : ((n : Int) != (n : Int)) = false := by simp
    go_enter Tryz.func47, Tryz.ntmps47
    go_wp2
    go_loopw [5] (fun i wr => ∃ (j : Nat), j ≤ n ∧ i = .int .i64 j ∧ Hid (lexB (s.drop j) (t.drop j) = r) ∧ Hid (Below w.heap.size w wr)) (fun i _ => n - (intOf i).toNat)
    case atStart => exact ⟨0, by omega, rfl, hr2, Below.refl _ _⟩
    case round =>
      obtain ⟨j, hj, rfl, hR, hW⟩ := hrel
      by_cases hlt : (j : Int) < (n : Int)
      · have e5 : IntKind.i64.wrap ((j : Int) + 1) = (j : Int) + 1 := by rw [IntKind.wrap_i64]; omega
        have hd := lexB_drop (s := s) (t := t) (j := j) (by have := hn.out; omega) (by have := hm.out; omega)
        obtain ⟨g, o, v, rfl, hg, hv, c1⟩ := (HA.out.below hW.out).at_ (i := j) (by have := hn.out; omega)
        obtain ⟨g', o', v', rfl, hg', hv', c2⟩ := (HB.out.below hW.out).at_ (i := j) (by have := hm.out; omega)
        rw [hR.out, hv.out, hv'.out] at hd
        by_cases hvv : v = v'
        · subst hvv
          have b1 : ((v : Int) != (v : Int)) = false := by simp
          have hR2 : Hid (lexB (s.drop (j + 1)) (t.drop (j + 1)) = r) := by show _ = _; rw [hd, if_pos rfl]
          clear hd
          go_wp2
          go_quiet (fail)
          go_wp2
          exact ⟨⟨j + 1, by omega, by go_num, hR2, bdN hW.out _⟩, by simp [intOf]; omega⟩
        · have b1 : ((v : Int) != (v' : Int)) = true := by rw [bne_iff_ne]; omega
          have hend : Hid (r = decide (v < v')) := by show _ = _; rw [hd, if_neg hvv]
          clear hd
          go_wp2
          go_quiet (fail)
          go_wp2
          go_quiet (fail)
          go_wp2
          go_ret
          exact ⟨ret_bool (by rw [hend.out]), bdN (bdN hW.out _) _⟩
      · have hend : Hid (r = false) := by
          show _ = _
          rw [← hR.out, List.drop_eq_nil_of_le (by have := hn.out; omega), List.drop_eq_nil_of_le (by have := hm.out; omega), lexB]
          simp
        go_wp2
        go_ret
        exact ⟨ret_bool hend.out.symm, hW.out⟩
  · have hr2 : Hid (decide (n < m) = r) := by have h := hr.out; unfold lessB at h; rw [if_neg (by rw [hn.out, hm.out]; exact he), hn.out, hm.out] at h; exact h
    have b0 : ((n : Int) != (m : Int)) = true := by rw [bne_iff_ne]; omega
    go_enter Tryz.func47, Tryz.ntmps47
    go_wp2
    go_ret
    exact ⟨ret_bool (by rw [← hr2.out]), Below.refl _ _⟩
end Go.Proofs.YtohjllnfnkajjaaGreat

namespace Go.Proofs.YtohjllnfnkajjaaGreat
open Go.RowKit
set_option linter.unusedVariables false
set_option linter.unusedSimpArgs false

abbrev OwnS (w : World) (base : Nat) (v : Value) (vs : List Value) : Prop := w.ownsRow base 34 1 v vs.length vs
theorem OwnS.nil (w : World) (base : Nat) : OwnS w base (.slice none 0 0) [] := World.ownsRow_nil w base _ 1
theorem OwnS.own {w : World} {base : Nat} {v : Value} {vs : List Value} (h : OwnS w base v vs) (hne : vs ≠ []) :
    ∃ g c, v = .slice (some ⟨g, 0, none⟩) vs.length c ∧ vs.length ≤ c ∧ base ≤ g ∧ g < w.heap.size ∧ (∀ i u, vs[i]? = some u → w.cell? ⟨g, i, none⟩ = some u) ∧ ∀ o, w.frozen? ⟨g, o, none⟩ = false := by
  rcases h.2 with ⟨rfl, hn⟩ | ⟨g, cap, cur, rfl, hb, hg, hnc, hcm, _, _⟩
  · exact absurd (List.eq_nil_of_length_eq_zero hn) hne
  · have hlt : g < w.heap.size := (Array.getElem?_eq_some_iff.1 hg).1
    refine ⟨g, cap, rfl, hnc, hb, hlt, fun i u hu => ?_, fun o => by simp [World.frozen?, hg]⟩
    have hi : i < vs.length := (List.getElem?_eq_some_iff.1 hu).1
    rw [h.cellAt i (by rw [Nat.mul_one]; exact hi), hu]
theorem OwnS.shape {w : World} {base : Nat} {v : Value} {vs : List Value} (h : OwnS w base v vs) : ∃ A c, v = .slice A vs.length c ∧ vs.length ≤ c := by
  rcases h.2 with ⟨rfl, hn⟩ | ⟨g, cap, cur, rfl, hb, hg, hnc, hcm, _, _⟩
  · exact ⟨none, 0, by rw [hn], by omega⟩
  · exact ⟨_, cap, rfl, hnc⟩
theorem OwnS.set {w : World} {base g n c : Nat} {vs : List Value} (h : OwnS w base (.slice (some ⟨g, 0, none⟩) n c) vs) (i : Nat) (v : Value) : OwnS (w.setCell ⟨g, i, none⟩ v) base (.slice (some ⟨g, 0, none⟩) n c) (vs.set i v) := by
  have h1 : n = vs.length := by
    obtain ⟨A, c', hV, _⟩ := h.shape
    injection hV
  subst h1
  have h2 := row_set (p := i) h v
  show World.ownsRow _ _ _ _ _ (vs.set i v).length _
  rw [List.length_set]
  exact h2
/-- The values are slices of the call's own that read as the sets. -/
structure SX (w : World) (base : Nat) (vs : List Value) (X : List (List Nat)) : Prop where
  len : vs.length = X.length
  at_ : ∀ (i : Nat) (v : Value) (s : List Nat), vs[i]? = some v → X[i]? = some s → OwnN w base v s
theorem SX.nil (w : World) (base : Nat) : SX w base [] [] := ⟨rfl, fun i v s h => by simp at h⟩
theorem own_ne {w : World} {base : Nat} {V v : Value} {vs : List Value} {s : List Nat} (h : OwnS w base V vs) (k : OwnN w base v s) {g : Nat} (hg : V.ownBlock = some g) : v.ownBlock ≠ some g := by
  intro hv
  rcases h.2 with ⟨rfl, hn⟩ | ⟨g1, cap, cur, rfl, hb, hg1, _⟩
  · simp [Value.ownBlock] at hg
  · rcases k.2 with ⟨rfl, hn⟩ | ⟨g2, cap2, cur2, rfl, hb2, hg2, _⟩
    · simp [Value.ownBlock] at hv
    · simp only [Value.ownBlock, Option.some.injEq] at hg hv
      subst hg
      subst hv
      rw [hg1] at hg2
      injection hg2 with hg2
      injection hg2 with _ hT
      revert hT
      decide
theorem OwnN.grown {w w' : World} {base : Nat} {V v : Value} {vs : List Value} {s : List Nat} (h : OwnS w base V vs) (k : OwnN w base v s) (hg : w.grownBy w' V.ownBlock) : OwnN w' base v s :=
  own_kept k (fun g hv => hg.block g (own_lt k hv).2 (fun e => own_ne h k e.symm hv))
theorem SX.grown {w w' : World} {base : Nat} {V : Value} {us vs : List Value} {X : List (List Nat)} (hS : OwnS w base V us) (h : SX w base vs X) (hg : w.grownBy w' V.ownBlock) : SX w' base vs X :=
  ⟨h.len, fun i v s h1 h2 => OwnN.grown hS (h.at_ i v s h1 h2) hg⟩
theorem OwnN.below {w w' : World} {base : Nat} {v : Value} {s : List Nat} (h : OwnN w base v s) (hb : Below w.heap.size w w') : OwnN w' base v s := own_kept h (fun g hg => hb.block g (own_lt h hg).2)
theorem OwnN.mono {w : World} {base base' : Nat} {v : Value} {s : List Nat} (h : OwnN w base v s) (hb : base' ≤ base) : OwnN w base' v s := by
  refine ⟨h.1, ?_⟩
  rcases h.2 with hn | ⟨g, cap, cur, rfl, hbg, rest⟩
  · exact .inl hn
  · exact .inr ⟨g, cap, cur, rfl, Nat.le_trans hb hbg, rest⟩
theorem OwnS.below {w w' : World} {base : Nat} {v : Value} {vs : List Value} (h : OwnS w base v vs) (hb : Below w.heap.size w w') : OwnS w' base v vs := own_kept h (fun g hg => hb.block g (own_lt h hg).2)
theorem SX.below {w w' : World} {base : Nat} {vs : List Value} {X : List (List Nat)} (h : SX w base vs X) (hb : Below w.heap.size w w') : SX w' base vs X := ⟨h.len, fun i v s h1 h2 => (h.at_ i v s h1 h2).below hb⟩
theorem gB_set (w : World) (g i : Nat) (v : Value) : w.grownBy (w.setCell ⟨g, i, none⟩ v) (some g) :=
  ⟨rfl, rfl, rfl, by simp, fun k _ hk => Below.heap_setCell _ _ _ _ (fun e => hk (by rw [e]))⟩
/-- Put at a place. -/
def insAt {α : Type} (k : Nat) (l : List α) (x : α) : List α := l.take k ++ x :: l.drop k
theorem insAt_get {α : Type} {k : Nat} {l : List α} {x : α} (hk : k ≤ l.length) (i : Nat) : (insAt k l x)[i]? = if i < k then l[i]? else if i = k then some x else l[i - 1]? := by
  unfold insAt
  rw [List.getElem?_append, List.length_take, Nat.min_eq_left hk]
  by_cases h : i < k
  · rw [if_pos h, if_pos h, List.getElem?_take, if_pos h]
  · rw [if_neg h, if_neg h]
    by_cases h2 : i = k
    · subst h2; simp
    · rw [if_neg h2, show i - k = (i - k - 1) + 1 by omega, List.getElem?_cons_succ, List.getElem?_drop]
      congr 1
      omega
theorem insAt_len {α : Type} {k : Nat} {l : List α} {x : α} : (insAt k l x).length = l.length + 1 := by
  unfold insAt; rw [List.length_append, List.length_cons, List.length_take, List.length_drop]; omega
theorem insAt_end {α : Type} {l : List α} {x : α} : insAt l.length l x = l ++ [x] := by simp [insAt]
theorem insAt_down {α : Type} {k : Nat} {l : List α} {x y : α} (hk : k + 1 ≤ l.length) (hy : l[k]? = some y) : ((insAt (k + 1) l x).set (k + 1) y).set k x = insAt k l x := by
  refine List.ext_getElem? fun i => ?_
  rw [List.getElem?_set, List.getElem?_set, insAt_get hk, insAt_get (by omega), List.length_set, insAt_len]
  by_cases h1 : k = i
  · subst h1; rw [if_pos rfl, if_pos (by omega), if_neg (by omega), if_pos rfl]
  · rw [if_neg h1]
    by_cases h2 : k + 1 = i
    · subst h2
      rw [if_pos rfl, if_pos (by omega), if_neg (by omega), if_neg (by omega), show k + 1 - 1 = k by omega, hy]
    · rw [if_neg h2]
      by_cases h3 : i < k
      · rw [if_pos (by omega), if_pos h3]
      · rw [if_neg (by omega), if_neg (by omega), if_neg h3, if_neg (by omega)]
theorem SX.ins {w : World} {base : Nat} {vs : List Value} {X : List (List Nat)} {v : Value} {s : List Nat} (h : SX w base vs X) (k : OwnN w base v s) {j : Nat} (hj : j ≤ X.length) : SX w base (insAt j vs v) (insAt j X s) := by
  refine ⟨by rw [insAt_len, insAt_len, h.len], fun i u t h1 h2 => ?_⟩
  rw [insAt_get (by rw [h.len]; exact hj)] at h1
  rw [insAt_get hj] at h2
  by_cases hi : i < j
  · rw [if_pos hi] at h1 h2; exact h.at_ i u t h1 h2
  · rw [if_neg hi] at h1 h2
    by_cases he : i = j
    · rw [if_pos he] at h1 h2
      obtain rfl := Option.some.inj h1
      obtain rfl := Option.some.inj h2
      exact k
    · rw [if_neg he] at h1 h2; exact h.at_ _ u t h1 h2
theorem slice_info : (Tryz.prog.info? 34).map (fun i => (i.zero, i.size, i.bytes)) = some (some (.slice none 0 0), 1, 24) := by kernel_rfl
theorem OwnN.oneCell {w : World} {base : Nat} {v : Value} {s : List Nat} (h : OwnN w base v s) : v.oneCell' = true := by
  obtain ⟨A, c, rfl, _⟩ := h.form
  rfl
/-- append of one slice. -/
theorem app_sl {w : World} {ops : Array Oper} {rest : List Oper} {o : Oper} {a : Act} {Q : Exit → Act → World → Prop} (hgd : Region.wanted o (yielded ops a.tmps) = true) (s y : Operand)
    (ho : o.op = .call { callee := .builtin .append, args := #[s, y], argTypes := #[31, 31] })
    (base : Nat) (V : Value) (vs : List Value) (g c : Nat) (v : Value) (hv : a.eval s = V) (hx : a.eval y = .slice (some ⟨g, 0, none⟩) 1 c)
    (hd : OwnS w base V vs) (hc : w.cell? ⟨g, 0, none⟩ = some v) (h1 : v.oneCell' = true) (hlen : Hid (vs.length + 1 ≤ 1000000)) (hbase : base ≤ w.heap.size)
    (h : ∀ V' w', OwnS w' base V' (vs ++ [v]) → w.grownBy w' V.ownBlock → (V'.ownBlock = V.ownBlock ∨ V'.ownBlock = some w.heap.size) → wpList Tryz.prog ops Q rest (a.put o.dst V') w') :
    wpList Tryz.prog ops Q (o :: rest) a w := by
  obtain ⟨i0, hi, hz0, hz1, hz2⟩ := info_parts slice_info
  have hl := hlen.out
  refine wpList_app w hgd s y 31 31 ho base 34 i0 _ 1 24 Tryz.underlying31 hi hz0 hz1 hz2 rfl V vs.length vs _ 1 [v] hv hx (.inl hd)
    (Src.ofSlice w Tryz.underlying31 _ 1 c [v] rfl (fun j u hu => ?_) (fun u hu => by rw [List.mem_singleton.1 hu]; exact h1)) (by simp only [maxLen]; omega) (fits_half (by omega)) hbase (fun V' w' k1 k2 k3 k4 => h V' w' ?_ (k3 hd) k4)
  · have hj : j = 0 := by have := (List.getElem?_eq_some_iff.1 hu).1; simpa using this
    subst hj
    rw [add_at]
    obtain rfl : v = u := by simpa using hu
    exact hc
  · show w'.ownsRow base 34 1 V' (vs ++ [v]).length (vs ++ [v])
    rw [List.length_append, List.length_singleton]
    exact k1
end Go.Proofs.YtohjllnfnkajjaaGreat

namespace Go.Proofs.YtohjllnfnkajjaaGreat
open Go.RowKit
set_option linter.unusedVariables false
set_option linter.unusedSimpArgs false

theorem and_u64 (x y : Nat) (hx : x < 1000) (hy : y < 1000) : bits BinOp.and IntKind.u64 (x : Int) (y : Int) = ((x &&& y : Nat) : Int) := by
  show IntKind.u64.wrap (((BitVec.ofInt 64 (x : Int) &&& BitVec.ofInt 64 (y : Int)).toNat : Nat) : Int) = _
  have h1 : (BitVec.ofInt 64 (x : Int)).toNat = x := by rw [BitVec.toNat_ofInt]; omega
  have h2 : (BitVec.ofInt 64 (y : Int)).toNat = y := by rw [BitVec.toNat_ofInt]; omega
  have h3 : x &&& y ≤ x := Nat.and_le_left
  rw [BitVec.toNat_and, h1, h2, IntKind.wrap_u64]
  omega
/-- Bit j of b, as the walk spells it. -/
theorem bit_u64 (b j : Nat) (hb : b < 256) {β : Bool} (h : Hid (b.testBit j = β)) : (bits BinOp.and IntKind.u64 ((b : Int) / 2 ^ j) 1 == 1) = β := by
  have h0 : b / 2 ^ j < 1000 := Nat.lt_of_le_of_lt (Nat.div_le_self _ _) (by omega)
  have he : ((b : Int) / 2 ^ j) = ((b / 2 ^ j : Nat) : Int) := by simp
  have h1 := and_u64 (b / 2 ^ j) 1 h0 (by omega)
  rw [he, show (1 : Int) = ((1 : Nat) : Int) from rfl, h1, Nat.and_one_is_mod, ← h.out]
  exact bit_test b j
set_option maxHeartbeats 2000000 in
set_option maxRecDepth 8000 in
theorem has_bit (b j : Nat) (w : World) (hb : b < 256) (hj : j < 64) {β : Bool} (h : Hid (b.testBit j = β)) :
    Calls Tryz.prog 80 #[.int .u64 (b : Int), .int .i64 (j : Int)] w fun x w' => x = .returned (.bool β) ∧ w' = w := by
  have hq2 := bit_u64 b j hb h
  go_enter Tryz.func80, Tryz.ntmps80
  go_wp2
  go_ret
  exact ⟨rfl, rfl⟩
set_option maxHeartbeats 2000000 in
set_option maxRecDepth 8000 in
theorem incl_bit (s t : Nat) (w : World) (hs : s < 256) (ht : t < 256) {β : Bool} (h : Hid (decide (s &&& t = t) = β)) :
    Calls Tryz.prog 52 #[.int .u64 (s : Int), .int .u64 (t : Int)] w fun x w' => x = .returned (.bool β) ∧ w' = w := by
  have hq2 : (bits BinOp.and IntKind.u64 (s : Int) (t : Int) == (t : Int)) = β := by
    rw [and_u64 s t (by omega) (by omega), ← h.out, Bool.eq_iff_iff, beq_iff_eq, decide_eq_true_iff]
    omega
  go_enter Tryz.func52, Tryz.ntmps52
  go_wp2
  go_ret
  exact ⟨rfl, rfl⟩
set_option maxHeartbeats 2000000 in
set_option maxRecDepth 8000 in
theorem flags_is (b n : Nat) (w : World) (hb : b < 256) (hn : n ≤ 8) :
    Calls Tryz.prog 53 #[.int .u64 (b : Int), .int .i64 (n : Int)] w fun x w' => (∃ g, x = .returned (.slice (some ⟨g, 0, none⟩) n n) ∧ Blk w' g (bvs (bitS n b))) ∧ Below w.heap.size w w' := by
  have hmk := make_bools n (by omega)
  go_enter Tryz.func53, Tryz.ntmps53
  go_wp2
  go_loopw [10] (fun i wr => ∃ (j : Nat), j ≤ n ∧ i = .int .i64 j ∧ Hid (Blk wr w.heap.size (bvs (fillS n j (fun i => b.testBit i)))) ∧ Hid (Below w.heap.size w wr)) (fun i _ => n - (intOf i).toNat)
  case atStart => exact ⟨0, by omega, rfl, by rw [fillS_zero]; exact Blk.new w _ _ rfl, newB _ _⟩
  case round =>
    obtain ⟨j, hj, rfl, hK, hB⟩ := hrel
    by_cases hlt : (j : Int) < (n : Int)
    · have e5 : IntKind.i64.wrap ((j : Int) + 1) = (j : Int) + 1 := by rw [IntKind.wrap_i64]; omega
      obtain ⟨β, hβ⟩ : ∃ β, Hid (b.testBit j = β) := ⟨_, rfl⟩
      have hc := hK.out.cell j (bvs_at (by rw [fillS_len]; omega))
      have hf := hK.out.fz j
      have hst := hK.out.bset j β
      have hfs := fillS_step (f := fun i => b.testBit i) (n := n) (j := j) (by omega)
      rw [hβ.out] at hfs
      rw [hfs] at hst
      have HST := Lib.hid hst
      have HB2 := Lib.hid (hB.out.setCell (p := ⟨w.heap.size, j, none⟩) (Nat.le_refl _) (.bool β))
      clear hst hfs
      go_wp2_with (go_at_call 80; refine (has_bit b j _ hb (by omega) hβ).mono ?_; rintro x W1 ⟨rfl, rfl⟩)
      exact ⟨⟨j + 1, by omega, by go_num, HST, HB2⟩, by simp [intOf]; omega⟩
    · have hje : j = n := by omega
      subst hje
      go_wp2
      go_ret
      rw [← bitS_fill]
      exact ⟨⟨_, rfl, hK.out⟩, hB.out⟩
set_option maxHeartbeats 2000000 in
set_option maxRecDepth 8000 in
theorem indices_is (b n : Nat) (w : World) (hb : b < 256) (hn : n ≤ 8) :
    Calls Tryz.prog 54 #[.int .u64 (b : Int), .int .i64 (n : Int)] w fun x w' => (∃ v, x = .returned v ∧ OwnN w' w.heap.size v (bitL n b)) ∧ Below w.heap.size w w' := by
  go_enter Tryz.func54, Tryz.ntmps54
  go_wp2
  go_loopw [5, 8] (fun v i wr => ∃ (j : Nat) (A : Option Addr) (k c : Nat), j ≤ n ∧ i = .int .i64 j ∧ v = .slice A k c ∧ Hid (OwnN wr w.heap.size (.slice A k c) (bitL j b)) ∧ Hid (Below w.heap.size w wr)) (fun _ i _ => n - (intOf i).toNat)
  case atStart => exact ⟨0, none, 0, 0, by omega, rfl, rfl, OwnN.nil _ _, Below.refl _ _⟩
  case round =>
    obtain ⟨j, A, k, c, hj, rfl, rfl, hO, hB⟩ := hrel
    by_cases hlt : (j : Int) < (n : Int)
    · have e5 : IntKind.i64.wrap ((j : Int) + 1) = (j : Int) + 1 := by rw [IntKind.wrap_i64]; omega
      obtain ⟨β, hβ⟩ : ∃ β, Hid (b.testBit j = β) := ⟨_, rfl⟩
      have hst := bitL_succ j b
      have HLE := Lib.hid (bitL_len j b)
      rw [hβ.out] at hst
      cases β with
      | true =>
        rw [if_pos rfl] at hst
        have HST := Lib.hid hst
        have h1 : Hid ([j].length = 1) := rfl
        obtain ⟨k2, hk2⟩ : ∃ k2, Hid ((bitL j b ++ [j]).length = k2) := ⟨_, rfl⟩
        have hl2 : Hid ((bitL j b).length + 1 ≤ 1000000) := by have := HLE.out; show _ ≤ _; omega
        have HW := Lib.hid (show w.heap.size ≤ wr.heap.size from hB.out.size)
        have HO3 : Hid (∀ o, OwnN (wr.alloc o) w.heap.size (.slice A k c) (bitL j b)) := Lib.hid (fun o => own_kept hO.out (fun q hq => (newB _ o).block q (own_lt hO.out hq).2))
        clear hst
        go_wp2_with (first
          | (go_at_call 80; refine (has_bit b j _ hb (by omega) hβ).mono ?_; rintro x W1 ⟨rfl, rfl⟩)
          | (at_builtin; (refine app_num rfl (.tmp 14) (.tmp 16) rfl w.heap.size (.slice A k c) (bitL j b) _ [j] 1 1 h1 rfl rfl (HO3.out _) (NRd.one_at _ _ _ rfl) hl2 (Nat.le_trans HW.out (by simp)) ?_); intro V2 w2 ho2 hg2 hn2; obtain ⟨A2, c2, hV2, -⟩ := ho2.form; rw [hk2.out] at hV2; subst hV2; have HO4 : Hid (OwnN w2 w.heap.size (.slice A2 k2 c2) (bitL (j + 1) b)) := Lib.hid (by rw [HST.out]; exact ho2); have HB4 := Lib.hid (gB_own (gB_trans (gB_below (nxA hB.out _) (Nat.le_refl _)) hg2) (fun g hg => (own_lt hO.out hg).1) (Nat.le_refl _)); clear ho2 hg2 hn2))
        go_roundw
        case rel => exact ⟨j + 1, A2, k2, c2, by omega, by go_num, rfl, HO4, HB4⟩
        case measure => simp [intOf]; omega
      | false =>
        rw [if_neg (by decide), List.append_nil] at hst
        have HO4 : Hid (OwnN wr w.heap.size (.slice A k c) (bitL (j + 1) b)) := Lib.hid (by rw [hst]; exact hO.out)
        clear hst
        go_wp2_with (go_at_call 80; refine (has_bit b j _ hb (by omega) hβ).mono ?_; rintro x W1 ⟨rfl, rfl⟩)
        go_roundw
        case rel => exact ⟨j + 1, A, k, c, by omega, by go_num, rfl, HO4, hB⟩
        case measure => simp [intOf]; omega
    · have hje : j = n := by omega
      subst hje
      go_wp2
      go_ret
      exact ⟨⟨_, rfl, hO.out⟩, hB.out⟩
/-! ### Rows of sets as bits -/
def uvN (s : List Nat) : List Value := s.map fun (i : Nat) => Value.int .u64 (i : Int)
theorem uvN_len (s : List Nat) : (uvN s).length = s.length := by simp [uvN]
abbrev OwnU (w : World) (base : Nat) (v : Value) (s : List Nat) : Prop := w.ownsRow base 69 1 v s.length (uvN s)
/-- The slice at A reads as these sets. -/
def URd (w : World) (A : Option Addr) (s : List Nat) : Prop :=
  s ≠ [] → ∃ b o, A = some ⟨b, o, none⟩ ∧ b < w.heap.size ∧ ∀ i, i < s.length → w.cell? ⟨b, o + i, none⟩ = some (.int .u64 ((s.getD i 0 : Nat) : Int))
theorem URd.below {w w' : World} {A : Option Addr} {s : List Nat} (h : URd w A s) (hb : Below w.heap.size w w') : URd w' A s := fun hx => by
  obtain ⟨b, o, hA, hlt, hc⟩ := h hx
  exact ⟨b, o, hA, Nat.lt_of_lt_of_le hlt hb.size, fun i hi => (hb.cell (p := ⟨b, o + i, none⟩) hlt).trans (hc i hi)⟩
theorem URd.at_ {w : World} {A : Option Addr} {s : List Nat} (h : URd w A s) {i : Nat} (hi : i < s.length) :
    ∃ b o v, A = some ⟨b, o, none⟩ ∧ b < w.heap.size ∧ Hid (s.getD i 0 = v) ∧ w.cell? ⟨b, o + i, none⟩ = some (.int .u64 ((v : Nat) : Int)) := by
  obtain ⟨b, o, hA, hb, hc⟩ := h (by rintro rfl; simp at hi)
  exact ⟨b, o, _, hA, hb, rfl, hc i hi⟩
theorem uvN_at {s : List Nat} {i : Nat} (h : i < s.length) : (uvN s)[i]? = some (.int .u64 ((s.getD i 0 : Nat) : Int)) := by
  simp [uvN, List.getElem?_eq_getElem h]
theorem OwnU.form {w : World} {base : Nat} {v : Value} {s : List Nat} (h : OwnU w base v s) :
    ∃ A c, v = .slice A s.length c ∧ s.length ≤ c ∧ URd w A s := by
  rcases h.2 with ⟨rfl, hn⟩ | ⟨g, cap, cur, rfl, hb, hg, hnc, hcm, _, _⟩
  · exact ⟨none, 0, by rw [hn], by omega, fun hx => absurd (List.eq_nil_of_length_eq_zero hn) hx⟩
  · have hlt : g < w.heap.size := (Array.getElem?_eq_some_iff.1 hg).1
    refine ⟨_, cap, rfl, hnc, fun _ => ⟨g, 0, rfl, hlt, fun i hi => ?_⟩⟩
    have h1 := h.cellAt i (by omega)
    rw [uvN_at hi] at h1
    rw [Nat.zero_add]
    exact h1
theorem OwnU.nil (w : World) (base : Nat) : OwnU w base (.slice none 0 0) [] := World.ownsRow_nil w base _ 1
theorem OwnU.below {w w' : World} {base : Nat} {v : Value} {s : List Nat} (h : OwnU w base v s) (hb : Below w.heap.size w w') : OwnU w' base v s := own_kept h (fun g hg => hb.block g (own_lt h hg).2)
theorem uvN_one (s : List Nat) : ∀ u ∈ uvN s, u.oneCell' = true := by
  intro u hu
  obtain ⟨b, _, rfl⟩ := List.mem_map.1 hu
  rfl
theorem bitset_info : (Tryz.prog.info? 69).map (fun i => (i.zero, i.size, i.bytes)) = some (some (.int .u64 0), 1, 8) := by kernel_rfl
theorem Src.sets {w : World} {tx e' : TypeId} (hk : Tryz.prog.underlying tx = some (.slice e')) {A : Option Addr} {s : List Nat} (c : Nat) (h : URd w A s) : Src Tryz.prog 1 tx (.slice A s.length c) s.length (uvN s) w := by
  cases A with
  | none =>
    have hx : s = [] := by
      rcases s with _ | ⟨x, r⟩
      · rfl
      · obtain ⟨_, _, h, _⟩ := h (by simp)
        cases h
    subst hx
    exact Src.ofNil w hk c
  | some a =>
    rcases s with _ | ⟨x, r⟩
    · exact Src.ofSlice w hk a 0 c [] rfl (fun j u h => by simp at h) (fun u h => by cases h)
    · obtain ⟨b, o, hA, _, hc⟩ := h (by simp)
      injection hA with hA
      subst hA
      refine Src.ofSlice w hk _ _ c _ (by rw [uvN_len, Nat.mul_one]) (fun j u hu => ?_) (uvN_one _)
      rw [add_at]
      have hj : j < (x :: r).length := by rw [← uvN_len]; exact (List.getElem?_eq_some_iff.1 hu).1
      rw [hc j hj, ← uvN_at hj, hu]
theorem app_bit {w : World} {ops : Array Oper} {rest : List Oper} {o : Oper} {a : Act} {Q : Exit → Act → World → Prop} (hgd : Region.wanted o (yielded ops a.tmps) = true) (s y : Operand)
    (ho : o.op = .call { callee := .builtin .append, args := #[s, y], argTypes := #[68, 68] })
    (base : Nat) (V : Value) (xs : List Nat) (A : Option Addr) (ys : List Nat) (n c : Nat) (hn : Hid (ys.length = n)) (hv : a.eval s = V) (hx : a.eval y = .slice A n c)
    (hd : OwnU w base V xs) (hs : URd w A ys) (hlen : Hid (xs.length + n ≤ 1000000)) (hbase : base ≤ w.heap.size)
    (h : ∀ V' w', OwnU w' base V' (xs ++ ys) → w.grownBy w' V.ownBlock → (V'.ownBlock = V.ownBlock ∨ V'.ownBlock = some w.heap.size) → wpList Tryz.prog ops Q rest (a.put o.dst V') w') :
    wpList Tryz.prog ops Q (o :: rest) a w := by
  have hn' := hn.out
  subst hn'
  obtain ⟨i0, hi, hz0, hz1, hz2⟩ := info_parts bitset_info
  have hl := hlen.out
  refine wpList_app w hgd s y 68 68 ho base 69 i0 _ 1 8 Tryz.underlying68 hi hz0 hz1 hz2 rfl V xs.length (uvN xs) _ ys.length (uvN ys) hv hx (.inl hd)
    (Src.sets Tryz.underlying68 c hs) (by simp only [maxLen]; omega) (fits_half (by omega)) hbase (fun V' w' h1 h2 h3 h4 => h V' w' ?_ (h3 hd) h4)
  show w'.ownsRow base 69 1 V' (xs ++ ys).length (uvN (xs ++ ys))
  rw [List.length_append, show uvN (xs ++ ys) = uvN xs ++ uvN ys by simp [uvN]]
  exact h1
theorem URd.one_at (w : World) (T : TypeId) (i : Nat) {g : Nat} (hg : w.heap.size = g) : URd (w.alloc (.cells #[.int .u64 (i : Int)] T)) (some ⟨g, 0, none⟩) [i] := by
  subst hg
  exact fun _ => ⟨_, 0, rfl, by simp, fun j hj => by
    obtain rfl : j = 0 := by simpa using hj
    simp⟩
/-! ### Is one of them within the set? -/
def hasIn (F : List Nat) (s : Nat) : Bool := F.any fun c => decide (s &&& c = c)
theorem hasIn_no {F : List Nat} {s : Nat} (h : ∀ i, i < F.length → decide (s &&& F.getD i 0 = F.getD i 0) = false) : hasIn F s = false := by
  unfold hasIn
  rw [List.any_eq_false]
  intro c hc
  obtain ⟨i, hi, rfl⟩ := List.mem_iff_getElem.1 hc
  have h1 := h i hi
  rw [List.getD_eq_getElem?_getD, List.getElem?_eq_getElem hi] at h1
  simp only [Option.getD_some] at h1
  rw [h1]
  decide
theorem hasIn_yes {F : List Nat} {s i : Nat} (hi : i < F.length) (h : decide (s &&& F.getD i 0 = F.getD i 0) = true) : hasIn F s = true := by
  unfold hasIn
  rw [List.any_eq_true]
  refine ⟨F.getD i 0, ?_, h⟩
  rw [List.getD_eq_getElem?_getD, List.getElem?_eq_getElem hi]
  exact List.getElem_mem hi
set_option maxHeartbeats 2000000 in
set_option maxRecDepth 8000 in
theorem indexU_is (F : List Nat) (s : Nat) (A : Option Addr) (n c : Nat) (w : World) (hF : URd w A F) (hn : Hid (F.length = n)) (hl : n ≤ 1000) (hs : s < 256) (hf : Hid (∀ x ∈ F, x < 256)) :
    Calls Tryz.prog 79 #[.slice A n c, .func (.func 52) #[.int .u64 (s : Int)] #[]] w fun x w' => (∃ i : Int, x = .returned (.int .i64 i) ∧ Hid (decide (0 ≤ i) = hasIn F s)) ∧ w' = w := by
  have HF := Lib.hid hF
  clear hF
  go_enter Tryz.func79, Tryz.ntmps79
  go_wp2
  go_loopw [8] (fun i wr => ∃ (j : Nat), j ≤ n ∧ i = .int .i64 j ∧ Hid (∀ i, i < j → decide (s &&& F.getD i 0 = F.getD i 0) = false) ∧ wr = w) (fun i _ => n - (intOf i).toNat)
  case atStart => exact ⟨0, by omega, rfl, Lib.hid (fun i hi => absurd hi (Nat.not_lt_zero i)), rfl⟩
  case round =>
    obtain ⟨j, hj, rfl, hE, rfl⟩ := hrel
    by_cases hlt : (j : Int) < (n : Int)
    · have e5 : IntKind.i64.wrap ((j : Int) + 1) = (j : Int) + 1 := by rw [IntKind.wrap_i64]; omega
      obtain ⟨b, o, v, rfl, hb, hv, x0⟩ := HF.out.at_ (i := j) (by have := hn.out; omega)
      have hv256 : v < 256 := by
        have h1 := hf.out v (by rw [← hv.out, List.getD_eq_getElem?_getD, List.getElem?_eq_getElem (by have := hn.out; omega)]; exact List.getElem_mem _)
        exact h1
      obtain ⟨β, hβ⟩ : ∃ β, Hid (decide (s &&& v = v) = β) := ⟨_, rfl⟩
      cases β with
      | true =>
        have hend : Hid (hasIn F s = true) := Lib.hid (hasIn_yes (i := j) (by have := hn.out; omega) (by rw [hv.out]; exact hβ.out))
        go_wp2_with (go_at_call 52; refine (incl_bit s v _ hs hv256 hβ).mono ?_; rintro x W1 ⟨rfl, rfl⟩)
        go_ret
        exact ⟨⟨_, rfl, Lib.hid (by rw [hend.out]; exact decide_eq_true (by omega))⟩, rfl⟩
      | false =>
        have hE2 : Hid (∀ i, i < j + 1 → decide (s &&& F.getD i 0 = F.getD i 0) = false) := Lib.hid (fun i hi => by
          by_cases e : i = j
          · subst e; rw [hv.out]; exact hβ.out
          · exact hE.out i (by omega))
        go_wp2_with (go_at_call 52; refine (incl_bit s v _ hs hv256 hβ).mono ?_; rintro x W1 ⟨rfl, rfl⟩)
        go_roundw
        case rel => exact ⟨j + 1, by omega, by go_num, hE2, trivial⟩
        case measure => simp [intOf]; omega
    · have hend : Hid (hasIn F s = false) := Lib.hid (hasIn_no (fun i hi => hE.out i (by have := hn.out; omega)))
      go_wp2
      go_ret
      exact ⟨⟨-1, rfl, Lib.hid (by rw [hend.out]; exact decide_eq_false (by omega))⟩, rfl⟩
set_option maxHeartbeats 2000000 in
set_option maxRecDepth 8000 in
theorem containsU_is (F : List Nat) (s : Nat) (A : Option Addr) (n c : Nat) (w : World) (hF : URd w A F) (hn : Hid (F.length = n)) (hl : n ≤ 1000) (hs : s < 256) (hf : Hid (∀ x ∈ F, x < 256)) {β : Bool} (hr : Hid (hasIn F s = β)) :
    Calls Tryz.prog 51 #[.slice A n c, .func (.func 52) #[.int .u64 (s : Int)] #[]] w fun x w' => x = .returned (.bool β) ∧ w' = w := by
  go_enter Tryz.func51, Tryz.ntmps51
  go_wp2_with (go_at_call 79; refine (indexU_is F s A n c _ hF hn hl hs hf).mono ?_; rintro x W1 ⟨⟨i, rfl, hi⟩, rfl⟩; rw [hr.out] at hi)
  go_ret
  exact ⟨ret_bool hi.out, rfl⟩
end Go.Proofs.YtohjllnfnkajjaaGreat

namespace Go.Proofs.YtohjllnfnkajjaaGreat
open Go.RowKit
set_option linter.unusedVariables false

/-- More never hurts. -/
def Mono9 (G : List Bool → Bool) (n : Nat) : Prop := ∀ S T : List Bool, S.length = n → T.length = n → (∀ i, S.getD i false = true → T.getD i false = true) → G S = true → G T = true
def fnd (G : List Bool → Bool) (n m : Nat) : List Nat := (List.range m).filter (minB G n)
theorem fnd_zero (G : List Bool → Bool) (n : Nat) : fnd G n 0 = [] := rfl
theorem fnd_succ (G : List Bool → Bool) (n m : Nat) : fnd G n (m + 1) = fnd G n m ++ (if minB G n m = true then [m] else []) := by
  unfold fnd
  rw [List.range_succ, List.filter_append]
  congr 1
  by_cases h : minB G n m = true
  · rw [if_pos h]; simp [h]
  · rw [if_neg h]; simp [h]
theorem fnd_mem {G : List Bool → Bool} {n m c : Nat} : c ∈ fnd G n m ↔ c < m ∧ minB G n c = true := by simp [fnd]
theorem fnd_len (G : List Bool → Bool) (n m : Nat) : (fnd G n m).length ≤ m := by
  have := List.length_filter_le (minB G n) (List.range m)
  rw [List.length_range] at this
  exact this
theorem fnd_nodup (G : List Bool → Bool) (n m : Nat) : (fnd G n m).Nodup := List.Pairwise.filter _ (List.nodup_range (n := m))
/-! ### Sets within sets -/
def SubN (c s : Nat) : Prop := ∀ i, c.testBit i = true → s.testBit i = true
theorem sub_iff {s c : Nat} : s &&& c = c ↔ SubN c s := by
  constructor
  · intro h i hi
    have h1 : (s &&& c).testBit i = true := by rw [h]; exact hi
    rw [Nat.testBit_and, Bool.and_eq_true] at h1
    exact h1.1
  · intro h
    refine Nat.eq_of_testBit_eq fun i => ?_
    rw [Nat.testBit_and]
    cases hc : c.testBit i with
    | false => simp
    | true => rw [h i hc]; rfl
theorem hasIn_iff {F : List Nat} {s : Nat} : hasIn F s = true ↔ ∃ c ∈ F, SubN c s := by
  unfold hasIn
  rw [List.any_eq_true]
  exact exists_congr fun c => and_congr Iff.rfl (by rw [decide_eq_true_iff, sub_iff])
theorem sub_bits {n c s : Nat} (h : SubN c s) (i : Nat) (hi : (bitS n c).getD i false = true) : (bitS n s).getD i false = true := by
  rw [bitS_at, Bool.and_eq_true] at hi ⊢
  exact ⟨hi.1, h i hi.2⟩
theorem bit_lt {n b i : Nat} (hb : b < 2 ^ n) (h : b.testBit i = true) : i < n := by
  refine Classical.byContradiction fun hn => ?_
  rw [Nat.testBit_lt_two_pow (Nat.lt_of_lt_of_le hb (Nat.pow_le_pow_right (by omega) (by omega)))] at h
  cases h
theorem two_pow8 {n : Nat} (hn : n ≤ 8) : 2 ^ n ≤ 256 := by have := Nat.pow_le_pow_right (n := 2) (by omega) hn; omega
theorem clr_less {n b i : Nat} (hn : n ≤ 8) (hb : b < 2 ^ n) (h : b.testBit i = true) : clrN b i < b ∧ SubN (clrN b i) b := by
  have hi := bit_lt hb h
  have h256 := two_pow8 hn
  have h1 : clrN b i = b - 2 ^ i := by unfold clrN; rw [if_pos h]
  have h2 : 2 ^ i ≤ b := Nat.ge_two_pow_of_testBit h
  have h3 : 0 < 2 ^ i := Nat.two_pow_pos i
  have hlt : clrN b i < b := by omega
  refine ⟨hlt, fun j hj => ?_⟩
  have hj8 : j < n := bit_lt (by omega) hj
  have h4 := clr_bit ⟨b, by omega⟩ ⟨i, by omega⟩ ⟨j, by omega⟩
  simp only at h4
  rw [h4, Bool.and_eq_true] at hj
  exact hj.1
/-- Each accepted set holds a minimal one. -/
theorem min_in {G : List Bool → Bool} {n : Nat} (hn : n ≤ 8) : ∀ b, b < 2 ^ n → G (bitS n b) = true → ∃ c, c ≤ b ∧ minB G n c = true ∧ SubN c b := by
  intro b
  induction b using Nat.strongRecOn with
  | ind b ih =>
    intro hb hg
    by_cases hm : minB G n b = true
    · exact ⟨b, Nat.le_refl _, hm, fun _ h => h⟩
    · have h1 : ¬ ∀ i, i < n → b.testBit i = true → G ((bitS n b).set i false) = false := fun h => hm (minB_iff.2 ⟨hg, h⟩)
      have h2 : ∃ i, i < n ∧ b.testBit i = true ∧ G ((bitS n b).set i false) = true := by
        refine Classical.byContradiction fun hno => h1 fun i hi hbi => ?_
        cases hx : G ((bitS n b).set i false) with
        | false => rfl
        | true => exact absurd ⟨i, hi, hbi, hx⟩ hno
      obtain ⟨i, hi, hbi, hgi⟩ := h2
      have h256 := two_pow8 hn
      obtain ⟨hlt, hsub⟩ := clr_less hn hb hbi
      obtain ⟨c, hc, hmin, hs⟩ := ih _ hlt (by omega) (by rw [bitS_clr hn (by omega) hi]; exact hgi)
      exact ⟨c, by omega, hmin, fun j hj => hsub j (hs j hj)⟩
theorem fnd_skip {G : List Bool → Bool} {n m : Nat} (hM : Mono9 G n) (hm : m < 2 ^ n) (h : hasIn (fnd G n m) m = true) : minB G n m = false := by
  obtain ⟨c, hc, hs⟩ := hasIn_iff.1 h
  obtain ⟨hcm, hmin⟩ := fnd_mem.1 hc
  have hne : ∃ i, m.testBit i = true ∧ ¬ c.testBit i = true := by
    refine Classical.byContradiction fun hno => ?_
    have : c = m := Nat.eq_of_testBit_eq fun i => by
      rw [Bool.eq_iff_iff]
      exact ⟨hs i, fun hi => Classical.byContradiction fun hc => hno ⟨i, hi, hc⟩⟩
    omega
  obtain ⟨i, hi, hci⟩ := hne
  have hin := bit_lt hm hi
  rw [← Bool.not_eq_true, minB_iff]
  rintro ⟨_, h2⟩
  have h3 := hM (bitS n c) ((bitS n m).set i false) (bitS_len _ _) (by rw [List.length_set, bitS_len]) (fun j hj => by
    rw [set_in, Bool.and_eq_true]
    refine ⟨sub_bits hs j hj, ?_⟩
    rw [bitS_at, Bool.and_eq_true] at hj
    rw [Bool.not_eq_true', decide_eq_false_iff_not]
    rintro rfl
    exact hci hj.2) (minB_iff.1 hmin).1
  rw [h2 i hin hi] at h3
  cases h3
theorem fnd_take {G : List Bool → Bool} {n m : Nat} (hn : n ≤ 8) (hm : m < 2 ^ n) (h : hasIn (fnd G n m) m = false) : minB G n m = G (bitS n m) := by
  cases hg : G (bitS n m) with
  | false => unfold minB; rw [hg]; rfl
  | true =>
    refine minB_iff.2 ⟨hg, fun i hi hbi => ?_⟩
    cases hx : G ((bitS n m).set i false) with
    | false => rfl
    | true =>
      exfalso
      have h256 := two_pow8 hn
      obtain ⟨hlt, hsub⟩ := clr_less hn hm hbi
      obtain ⟨c, hc, hmin, hs⟩ := min_in hn (clrN m i) (by omega) (by rw [bitS_clr hn (by omega) hi]; exact hx)
      have h1 : hasIn (fnd G n m) m = true := hasIn_iff.2 ⟨c, fnd_mem.2 ⟨by omega, hmin⟩, fun j hj => hsub j (hs j hj)⟩
      rw [h] at h1
      cases h1
/-- Sorted, the sets that were found are the list of minimal sets. -/
theorem fnd_min {G : List Bool → Bool} {n : Nat} {X : List (List Nat)} (hp : X.Perm ((fnd G n (2 ^ n)).map (bitL n))) (hs : X.Pairwise (fun a b => lessB b a = false)) : MinOf G n X := by
  have hnd : ((fnd G n (2 ^ n)).map (bitL n)).Nodup := by
    rw [List.Nodup, List.pairwise_map]
    refine (fnd_nodup G n (2 ^ n)).imp_of_mem (fun {a b} ha hb hab e => hab (bitL_inj (fnd_mem.1 ha).1 (fnd_mem.1 hb).1 e))
  have hX : X.Nodup := hp.nodup_iff.2 hnd
  refine ⟨(List.Pairwise.and hs hX).imp (fun {a b} h => ?_), fun s => ?_⟩
  · exact (lessB_total h.2).resolve_right (by rw [h.1]; decide)
  · rw [hp.mem_iff, List.mem_map]
    constructor
    · rintro ⟨b, hb, rfl⟩
      obtain ⟨h1, h2⟩ := fnd_mem.1 hb
      exact ⟨b, h1, h2, rfl⟩
    · rintro ⟨b, h1, h2, rfl⟩
      exact ⟨b, fnd_mem.2 ⟨h1, h2⟩, rfl⟩
end Go.Proofs.YtohjllnfnkajjaaGreat
