/- Contracts: slices.Concat of slices of resources. -/
import Derived.Test.YtmfdafffafbmpaaDoorCplc
import Derived.Lib.AppendZeros
namespace Go.Proofs.YtmfdafffafbmpaaDoor
open Go.RowKit
open Go.Sort (grow)
set_option linter.unusedVariables false
set_option linter.unusedSimpArgs false

set_option maxHeartbeats 1000000 in
theorem grow_res (n : Nat) (hn0 : 0 < n) (hn1 : n ≤ 1000000) (w : World) :
    Calls Tryd.prog 58 #[.slice none 0 0, .int .i64 n] w fun e w' => ∃ V, e = .returned V ∧ OwnR w' w.heap.size V [] ∧ Below w.heap.size w w' := by
  obtain ⟨i0, hi, hz0, hz1, hz2⟩ := info_parts res_info
  have hrz : ∀ ty, (Builtin.append_ #[24, 3] ty #[.slice none 0 0, .int .i64 (n : Int)]).run Tryd.prog w = _ := fun ty =>
    Lib.run_append_nil_zeros w 24 3 ty 26 i0 _ .i64 .i64 Tryd.underlying24 Tryd.underlying3 hi hz0 n hn0 (by omega) (by omega) (by rw [hz2]; omega)
  have hge : n ≤ grownCap w n 0 26 := grownCap_ge w _ _ _
  have hcm : grownCap w n 0 26 ≤ maxLen := grownCap_le_maxLen w n 0 _ (by simp only [maxLen]; omega)
  obtain ⟨G, hG⟩ : ∃ G, Hid (grownCap w n 0 26 = G) := ⟨_, rfl⟩
  rw [hG.out] at hrz hge hcm
  have hown : Hid (OwnR (w.drew.alloc (.cells (Builtin.zeroCells (Value.agg #[.string ⟨#[]⟩, .int .i64 0, .int .i64 0, .int .i64 0]).cells n ++ Builtin.zeroCells (Value.agg #[.string ⟨#[]⟩, .int .i64 0, .int .i64 0, .int .i64 0]).cells (G - n)) 26)) w.heap.size (.slice (some ⟨w.heap.size, 0, none⟩) 0 G) []) := by
    refine ⟨rfl, .inr ⟨w.heap.size, G, _, rfl, Nat.le_refl _, heap_alloc_new w.drew _, Nat.zero_le _, hcm, ?_, ?_⟩⟩
    · rw [Array.size_append, size_zeroCells, size_zeroCells, show (Value.agg #[.string ⟨#[]⟩, .int .i64 0, .int .i64 0, .int .i64 0]).cells.size = 4 from rfl, ← Nat.add_mul, Nat.add_sub_cancel' hge]
    · exact List.take_zero
  have hpos : ((n : Int) - 0) = n := by omega
  have h4 : (0 : Int) < (n : Int) := by omega
  have h1 : ¬ ((n : Int) < 0) := by omega
  have h2 : IntKind.i64.wrap (n : Int) = n := by rw [IntKind.wrap_i64]; omega
  have h3 : (0 : Int) ≤ (G : Int) := by omega
  clear hcm hG
  go_enter Tryd.func58, Tryd.ntmps58
  go_wp2_with (at_builtin; refine Lib.wpList_append_run _ rfl _ _ _ _ rfl _ _ rfl rfl _ _ (hrz _) ?_)
  go_ret
  exact ⟨_, rfl, hown.out, nxA (bdN (Below.refl _ _) 1) _⟩
theorem grow_none (w : World) :
    Calls Tryd.prog 58 #[.slice none 0 0, .int .i64 0] w fun e w' => ∃ V, e = .returned V ∧ OwnR w' w.heap.size V [] ∧ Below w.heap.size w w' := by
  go_enter Tryd.func58, Tryd.ntmps58
  go_wp2
  go_ret
  exact ⟨_, rfl, OwnR.nil _ _, Below.refl _ _⟩
theorem grow_any (n : Nat) (hn1 : n ≤ 1000000) (w : World) :
    Calls Tryd.prog 58 #[.slice none 0 0, .int .i64 n] w fun e w' => ∃ V, e = .returned V ∧ OwnR w' w.heap.size V [] ∧ Below w.heap.size w w' := by
  rcases Nat.eq_zero_or_pos n with rfl | h
  · exact grow_none w
  · exact grow_res n h hn1 w

/-- A slice of resources, as Concat is handed it: where it lies, its capacity, what it holds. -/
abbrev SlR := Option Addr × Nat × List P4
def lsum : List SlR → Nat
  | [] => 0
  | q :: r => q.2.2.length + lsum r
def lcat : List SlR → List P4
  | [] => []
  | q :: r => q.2.2 ++ lcat r
theorem lcat_len : ∀ ls : List SlR, (lcat ls).length = lsum ls
  | [] => rfl
  | q :: r => by simp [lcat, lsum, lcat_len r]
theorem lsum_snoc : ∀ (ls : List SlR) (q : SlR), lsum (ls ++ [q]) = lsum ls + q.2.2.length
  | [], q => by simp [lsum]
  | a :: r, q => by simp only [List.cons_append, lsum, lsum_snoc r q]; omega
theorem lcat_snoc : ∀ (ls : List SlR) (q : SlR), lcat (ls ++ [q]) = lcat ls ++ q.2.2
  | [], q => by simp [lcat]
  | a :: r, q => by simp [lcat, lcat_snoc r q]
theorem lsum_take : ∀ (ls : List SlR) (k : Nat), lsum (ls.take k) ≤ lsum ls
  | [], k => by simp [lsum]
  | q :: r, 0 => by simp [lsum]
  | q :: r, k + 1 => by have := lsum_take r k; simp only [List.take_succ_cons, lsum]; omega
theorem take_snocS {l : List SlR} {k : Nat} (h : k < l.length) : l.take (k + 1) = l.take k ++ [l.getD k default] := by
  rw [List.take_succ_eq_append_getElem h, List.getD_eq_getElem?_getD, List.getElem?_eq_getElem h]
  rfl
/-- The slices lie in a row of block g. -/
def Lies (w : World) (g : Nat) (ls : List SlR) : Prop := ∀ i, i < ls.length → w.cell? ⟨g, i, none⟩ = some (.slice (ls.getD i default).1 (ls.getD i default).2.2.length (ls.getD i default).2.1) ∧ RRd w (ls.getD i default).1 (ls.getD i default).2.2
theorem Lies.at_ {w : World} {g : Nat} {ls : List SlR} (h : Lies w g ls) {i : Nat} (hi : i < ls.length) :
    ∃ A d c q, Hid (ls.getD i default = (A, c, q) ∧ q.length = d) ∧ w.cell? ⟨g, i, none⟩ = some (.slice A d c) ∧ RRd w A q := by
  obtain ⟨h1, h2⟩ := h i hi
  exact ⟨_, _, _, _, ⟨rfl, rfl⟩, h1, h2⟩
theorem Lies.below {w w' : World} {g : Nat} {ls : List SlR} (h : Lies w g ls) (hb : Below w.heap.size w w') : Lies w' g ls := fun i hi => by
  obtain ⟨h1, h2⟩ := h i hi
  exact ⟨(hb.cell (p := ⟨g, i, none⟩) (World.block_lt_of_cell? w _ h1)).trans h1, h2.below hb⟩
set_option maxHeartbeats 4000000 in
set_option maxRecDepth 8000 in
theorem concat_is (g m : Nat) (ls : List SlR) (w : World) (hl : Lies w g ls) (hm : Hid (ls.length = m)) (hm8 : m ≤ 8) (hs : Hid (lsum ls ≤ 1000)) :
    Calls Tryd.prog 44 #[.slice (some ⟨g, 0, none⟩) m m] w fun e w' => ∃ V, e = .returned V ∧ OwnR w' w.heap.size V (lcat ls) ∧ Below w.heap.size w w' := by
  have HL := Lib.hid hl
  clear hl
  go_enter Tryd.func44, Tryd.ntmps44
  go_wp2
  go_loopw [3, 5, 11] (fun t p i wr => ∃ (k a : Nat), k ≤ m ∧ i = .int .i64 (k : Int) ∧ t = .int .i64 (a : Int) ∧ Hid (lsum (ls.take k) = a) ∧ Hid (w = wr)) (fun _ _ i _ => m - (intOf i).toNat)
  case atStart => exact ⟨0, 0, by omega, rfl, rfl, rfl, rfl⟩
  case round =>
    obtain ⟨k, a, hk, rfl, rfl, ha, hw⟩ := hrel
    have hw' := hw.out
    subst hw'
    have ha1 : a ≤ 1000 := by have := lsum_take ls k; have := ha.out; have := hs.out; omega
    by_cases hlt : (k : Int) < (m : Int)
    · obtain ⟨A, d, c, q, hq, c0, hrd⟩ := HL.out.at_ (i := k) (by have := hm.out; omega)
      have ha2 : Hid (lsum (ls.take (k + 1)) = a + d) := by
        show _ = _
        rw [take_snocS (by have := hm.out; omega), lsum_snoc, ha.out, hq.out.1, hq.out.2]
      have hd1 : a + d ≤ 1000 := by have := lsum_take ls (k + 1); have := ha2.out; have := hs.out; omega
      have e1 : IntKind.i64.wrap ((a : Int) + (d : Int)) = (a : Int) + (d : Int) := by rw [IntKind.wrap_i64]; omega
      have e2 : 0 ≤ (a : Int) + (d : Int) := by omega
      have e5 : IntKind.i64.wrap ((k : Int) + 1) = (k : Int) + 1 := by rw [IntKind.wrap_i64]; omega
      clear hrd
      go_wp2
      go_roundw
      case rel => exact ⟨k + 1, a + d, by omega, by go_num, by simp, ha2, trivial⟩
      case measure => simp [intOf]; omega
    · have hkm : Hid (k = m) := by show _ = _; omega
      have hta : Hid (a = lsum ls) := by
        show _ = _
        rw [← ha.out, List.take_of_length_le (by have := hm.out; have := hkm.out; omega)]
      go_wp2_with (first
        | (go_at_call 58; refine (grow_any a (by omega) _).mono ?_; rintro e W1 ⟨V0, rfl, ho0, hb0⟩; have HO0 := Lib.hid ho0; have HB0 := Lib.hid hb0; clear ho0 hb0))
      go_loopw [6, 8, 27] (fun V p i wr => ∃ (k : Nat), k ≤ m ∧ i = .int .i64 (k : Int) ∧ Hid (OwnR wr w.heap.size V (lcat (ls.take k))) ∧ Hid (Below w.heap.size w wr)) (fun _ _ i _ => m - (intOf i).toNat)
      case atStart => exact ⟨0, by omega, rfl, HO0, HB0⟩
      case round =>
        obtain ⟨k, hk2, rfl, hO, hB⟩ := hrel
        by_cases hlt : (k : Int) < (m : Int)
        · obtain ⟨A, d, c, q, hq, c0, hrd⟩ := (HL.out.below hB.out).at_ (i := k) (by have := hm.out; omega)
          have e5 : IntKind.i64.wrap ((k : Int) + 1) = (k : Int) + 1 := by rw [IntKind.wrap_i64]; omega
          have HQ := Lib.hid hrd
          have hlen : Hid ((lcat (ls.take k)).length + d ≤ 3518437208880) := by
            have h1 := lsum_take ls (k + 1)
            rw [take_snocS (by have := hm.out; omega), lsum_snoc, hq.out.1, hq.out.2] at h1
            have := hs.out
            show _ ≤ _
            rw [lcat_len]
            omega
          have hcat : Hid (lcat (ls.take (k + 1)) = lcat (ls.take k) ++ q) := by
            show _ = _
            rw [take_snocS (by have := hm.out; omega), lcat_snoc, hq.out.1]
          clear hrd
          go_wp2_with (at_builtin; (refine app_res rfl (.tmp 31) (.tmp 32) rfl w.heap.size _ (lcat (ls.take k)) A q d c hq.out.2 rfl rfl hO.out HQ.out hlen hB.out.size ?_); intro V1 W2 ho1 hb1; rw [← hcat.out] at ho1; have HO1 := Lib.hid ho1; have HB1 := Lib.hid (hB.out.trans hb1); clear ho1 hb1)
          go_roundw
          case rel => exact ⟨k + 1, by omega, by go_num, HO1, HB1⟩
          case measure => simp [intOf]; omega
        · have hfin : Hid (lcat (ls.take k) = lcat ls) := by
            show _ = _
            rw [List.take_of_length_le (by have := hm.out; omega)]
          go_wp2
          go_ret
          exact ⟨_, rfl, by rw [← hfin.out]; exact hO.out, hB.out⟩
end Go.Proofs.YtmfdafffafbmpaaDoor
