/- The reference's Split walked: a text cut at a byte. -/
import Derived.Test.YtmfdafffafbmpaaDoorCnum
import Derived.Lib.SmallJoins
import Derived.BigRegion
import Derived.Deep.OwnRows
namespace Go.Proofs.YtmfdafffafbmpaaDoor
set_option linter.unusedVariables false
open Go.RowKit

/-- The cells of the pieces. -/
def strs (st : List (List UInt8) × List UInt8) : List Value := (st.1 ++ [st.2]).map fun x => .string (mkB x)

theorem strs_info : (Tryd.prog.info? 9).map (fun i => (i.zero, i.size, i.bytes)) = some (some (.string ⟨#[]⟩), 1, 16) := by kernel_rfl
theorem app_str {w : World} {ops : Array Oper} {rest : List Oper} {o : Oper} {a : Act} {Q : Exit → Act → World → Prop} (hgd : Region.wanted o (yielded ops a.tmps) = true) (s y : Operand)
    (ho : o.op = .call { callee := .builtin .append, args := #[s, y], argTypes := #[68, 68] })
    (base : Nat) (V : Value) (n : Nat) (xs : List Value) (g : Nat) (x : ByteArray) (hv : a.eval s = V) (hx : a.eval y = .slice (some ⟨g, 0, none⟩) 1 1)
    (hd : w.ownsRow base 9 1 V n xs) (hs : w.cell? ⟨g, 0, none⟩ = some (.string x)) (hlen : n ≤ 100000) (hbase : base ≤ w.heap.size)
    (h : ∀ V' w', w'.ownsRow base 9 1 V' (n + 1) (xs ++ [.string x]) → Below base w w' → wpList Tryd.prog ops Q rest (a.put o.dst V') w') :
    wpList Tryd.prog ops Q (o :: rest) a w := by
  obtain ⟨i0, hi, hz0, hz1, hz2⟩ := info_parts strs_info
  refine wpList_app w hgd s y 68 68 ho base 9 i0 _ 1 16 Tryd.underlying68 hi hz0 hz1 hz2 rfl V n xs _ 1 [.string x] hv hx (.inl hd)
    (Src.ofSlice w Tryd.underlying68 _ _ 1 _ rfl (fun j u hj => ?_) (fun u hu => ?_)) (by simp only [maxLen]; omega) (fits_half (by omega)) hbase (fun V' w' h1 h2 h3 h4 => h V' w' h1 h2)
  · obtain rfl : j = 0 := by
      rcases j with _ | j
      · rfl
      · simp at hj
    rw [add_at]
    simp only [List.getElem?_cons_zero, Option.some.injEq] at hj
    subst hj
    exact hs
  · simp only [List.mem_singleton] at hu
    subst hu
    rfl
theorem take_at {l : List UInt8} {k : Nat} {b : UInt8} (h : l[k]? = some b) : l.take (k + 1) = l.take k ++ [b] := by
  obtain ⟨hk, h⟩ := List.getElem?_eq_some_iff.1 h
  rw [List.take_succ_eq_append_getElem hk, h]
theorem extract_at {s : ByteArray} {k : Nat} {b : UInt8} (h : s.data.toList[k]? = some b) : s.extract k (k + 1) = mkB [b] := by
  obtain ⟨hk, h⟩ := List.getElem?_eq_some_iff.1 h
  apply ByteArray.ext
  apply Array.toList_inj.1
  rw [ByteArray.data_extract, Array.toList_extract]
  simp only [mkB]
  rw [List.extract_eq_take_drop, drop_at (List.getElem?_eq_some_iff.2 ⟨hk, h⟩)]
  simp

def Splits (d : UInt8) (l : List UInt8) (w : World) (e : Ending) (w' : World) : Prop := ∃ g m cap, e = .returned (.slice (some ⟨g, 0, none⟩) (m + 1) cap) ∧ m = (spl d l).1.length ∧ w'.ownsRow w.heap.size 9 1 (.slice (some ⟨g, 0, none⟩) (m + 1) cap) (m + 1) (strs (spl d l)) ∧ Below w.heap.size w w'

set_option maxHeartbeats 2000000 in
set_option maxRecDepth 8000 in
theorem split_walk (d : UInt8) (dz : Int) (hdz : Hid (dz = d.toNat)) (s : ByteArray) (hs : s.size ≤ 1024) (w : World) : Calls Tryd.prog 53 #[.string s, .int .u8 dz] w (Splits d s.data.toList w) := by
  have HL : Hid (s.data.toList.length = s.size) := by show _ = _; simp
  go_enter Tryd.func53, Tryd.ntmps53
  go_wp2
  go_loopw [5, 6] (fun v i wr => ∃ (k m g cap : Nat) (st : List (List UInt8) × List UInt8), k ≤ s.size ∧ i = .int .i64 k ∧ v = .slice (some ⟨g, 0, none⟩) (m + 1) cap ∧ Hid (spl d (s.data.toList.take k) = st) ∧ Hid (m = st.1.length) ∧ m ≤ k ∧ Hid (st.2.length ≤ k) ∧
      Hid (wr.ownsRow w.heap.size 9 1 (.slice (some ⟨g, 0, none⟩) (m + 1) cap) (m + 1) (strs st)) ∧ Hid (Below w.heap.size w wr)) (fun _ i _ => s.size - (intOf i).toNat)
  case atStart => exact ⟨0, 0, w.heap.size, 1, ([], []), by omega, rfl, rfl, rfl, rfl, by omega, by show _ ≤ _; simp, World.ownsRow_lit w #[.string ⟨#[]⟩] 1 (Nat.le_refl _) (by simp [maxLen]) rfl, newB _ _⟩
  case round =>
    obtain ⟨k, m, g, cap, st, hk, rfl, rfl, hst, hm, hmk, hcl, ho, hbl⟩ := hrel
    by_cases hlt : (k : Int) < (s.size : Int)
    · obtain ⟨b, c, hb, jx⟩ := ba_ex s k (by omega)
      have e5 : IntKind.i64.wrap ((k : Int) + 1) = (k : Int) + 1 := by rw [IntKind.wrap_i64]; omega
      have hst2 : Hid (spl d (s.data.toList.take (k + 1)) = stp d st b) := by
        show _ = _
        rw [take_at hb.out.1, spl_snoc, hst.out]
      by_cases hc : c = dz
      · have hb46 : Hid (b = d) := by
          apply UInt8.toNat_inj.1
          have := hb.out.2
          have := hdz.out
          omega
        subst hc
        have hnew : Hid (strs (stp d st b) = strs st ++ [.string ⟨#[]⟩]) := by
          show _ = _
          rw [stp, if_pos hb46.out, strs, strs]
          simp [mkB]
        go_wp2_with (at_builtin; (refine app_str rfl (.tmp 19) (.tmp 20) rfl w.heap.size _ (m + 1) (strs st) _ ⟨#[]⟩ rfl rfl ((ho.out).alloc _) (by simp) (by omega) (nxA hbl.out _).size ?_); intro V' W' ho' hb')
        rw [← hnew.out] at ho'
        obtain ⟨g', cap', rfl⟩ := Go.Joins.ownsRow_form ho' (by omega)
        go_roundw
        case rel => exact ⟨k + 1, m + 1, g', cap', stp d st b, by omega, by go_num, rfl, hst2, by show _ = _; rw [stp, if_pos hb46.out, hm.out]; simp, by omega, by show _ ≤ _; rw [stp, if_pos hb46.out]; simp, ho', (nxA hbl.out _).trans hb'⟩
        case measure => simp [intOf]; omega
      · have hb46 : Hid (¬ b = d) := fun e => by
          apply hc
          rw [hb.out.2, e, hdz.out]
        obtain ⟨A, hA⟩ : ∃ A, Hid (mkB st.2 = A) := ⟨_, rfl⟩
        obtain ⟨B, hB⟩ : ∃ B, Hid (s.extract k (k + 1) = B) := ⟨_, rfl⟩
        have xB := hB.out
        have hcell := ho.out.cellAt m (by omega)
        have hget : (strs st)[m]? = some (.string A) := by
          rw [strs, hm.out, ← hA.out]
          simp
        rw [hget] at hcell
        have hfz := ho.out.frozenAt m
        have e6 : IntKind.i64.wrap (((m + 1 : Nat) : Int) - 1) = (m : Int) := by rw [IntKind.wrap_i64]; omega
        have e8 : IntKind.i64.wrap (m : Int) = (m : Int) := by rw [IntKind.wrap_i64]; omega
        have e9 : (m : Int) < (m : Int) + 1 := by omega
        have hsl : ∀ W : World, (Instr.slice 9 (.string s) (some (.int .i64 (k : Int))) (some (.int .i64 ((k : Int) + 1))) none).run Tryd.prog W = .ok (.string B) W := fun W => by
          have hz := run_slice_string (P := Tryd.prog) W 9 s .i64 .i64 (k : Int) ((k : Int) + 1) Tryd.underlying9 (by omega) (by omega) (by omega)
          rw [hz, ← hB.out]
          rfl
        clear xB
        have e7 : ¬ 9223372036854775807 < A.size + B.size := by
          rw [← hA.out, ← hB.out, extract_at hb.out.1, mkB_size, mkB_size]
          have := hcl.out
          simp
          omega
        have hfin : Hid (strs (stp d st b) = (strs st).set m (.string (A ++ B))) := by
          show _ = _
          rw [stp, if_neg hb46.out, strs, strs, hm.out, ← hA.out, ← hB.out, extract_at hb.out.1]
          have : mkB (st.2 ++ [b]) = mkB st.2 ++ mkB [b] := by
            apply ByteArray.ext
            apply Array.toList_inj.1
            simp [mkB]
          simp [this]
        go_wp2
        go_region
        all_goals go_wp2
        have hge : w.heap.size ≤ g := (ho.out.lt g rfl).1
        have ho2 := (ho.out.stored m (.string (A ++ B))).1
        rw [← hfin.out] at ho2
        exact ⟨⟨k + 1, m, g, cap, stp d st b, by omega, by go_num, rfl, hst2, by show _ = _; rw [stp, if_neg hb46.out, hm.out], by omega, by show _ ≤ _; rw [stp, if_neg hb46.out]; have := hcl.out; simp; omega, ho2.drew, (hbl.out.setCell hge _).drew⟩, by simp [intOf]; omega⟩
    · have hfin : Hid (spl d s.data.toList = st) := by
        show _ = _
        rw [← hst.out, List.take_of_length_le (by have := HL.out; omega)]
      go_wp2
      go_ret
      exact ⟨g, m, cap, rfl, by rw [hfin.out]; exact hm.out, by rw [hfin.out]; exact ho.out, hbl.out⟩
end Go.Proofs.YtmfdafffafbmpaaDoor
