/- Contracts: formatLine, Format of the program. -/
import Derived.Test.YtmfdafffafbmpaaDoorCstr
import Derived.Test.YtmfdafffafbmpaaDoorCrsv
namespace Go.Proofs.YtmfdafffafbmpaaDoor
open Go.RowKit
open Go.Sort (grow)
set_option linter.unusedVariables false
set_option linter.unusedSimpArgs false

theorem map_mkB (l : List (List UInt8)) : (l.map mkB).map (·.data.toList) = l := by
  induction l with
  | nil => rfl
  | cons x r ih => rw [List.map_cons, List.map_cons, ih, mkB_data]
theorem join_wds (r : P4) : Lib.join (((wds r).map mkB).map (·.data.toList)) [32] = lnL r := by
  rw [map_mkB]
  unfold wds lnL
  split <;> simp [Lib.join, List.intercalate, List.intersperse]
theorem nam_len {s : ByteArray} (h : Nam s) : s.data.toList.length ≤ 12 := by have := h.2.1; simpa using this
theorem line_len {r : P4} (h : RsR r) : (lnL r).length ≤ 40 := by
  obtain ⟨hk, h0, h4⟩ := h.nums
  have := nam_len h.1
  have d1 := dec_len (n := r.2.2.2.toNat) (by omega)
  unfold lnL
  rcases hk with ⟨hk, hu⟩ | ⟨hk, hu⟩
  · rw [if_pos hk]; simp [sLock, sAt] at *; omega
  · have d2 := dec_len (n := r.2.2.1.toNat) (by omega)
    rw [if_neg (by omega)]; simp [sPool, sAt] at *; omega
theorem lineL_len {r : P4} (h : RsR r) : (lineL r).length ≤ 41 := by have := line_len h; simp [lineL]; omega
theorem txtL_len : ∀ (l : List P4), (∀ r ∈ l, RsR r) → (txtL l).length ≤ l.length * 41
  | [], _ => by simp [txtL]
  | r :: l, h => by
    have := txtL_len l (fun q hq => h q (by simp [hq]))
    have := lineL_len (h r (by simp))
    rw [txtL_cons, List.length_append, List.length_cons]
    omega
set_option maxHeartbeats 4000000 in
set_option maxRecDepth 8000 in
theorem line_lock (s : ByteArray) (h : Int) (w : World) (hv : Hid (RsR (s, 1, 1, h))) {L : ByteArray} (hL : Hid (mkB (lineL (s, 1, 1, h)) = L)) :
    Calls Tryd.prog 48 #[ra s 1 1 h] w fun e w' => e = .returned (.string L) ∧ Below w.heap.size w w' := by
  have h04 : 0 ≤ h ∧ h < 4 := hv.out.nums.2
  obtain ⟨h0, h4⟩ := h04
  have h100 : h < 100 := by omega
  obtain ⟨D, hD⟩ : ∃ D, Hid (mkB (dec h.toNat) = D) := ⟨_, rfl⟩
  obtain ⟨J, hJ⟩ : ∃ J, Hid (mkB (lnL (s, 1, 1, h)) = J) := ⟨_, rfl⟩
  have hJs : J.size ≤ 40 := by rw [← hJ.out, mkB_size]; exact line_len hv.out
  have n1 : ¬ 9223372036854775807 < J.size + 1 := by omega
  have hfin : Hid (J ++ ⟨#[10]⟩ = L) := by
    show _ = _
    rw [← hL.out, ← hJ.out]
    apply ByteArray.ext
    apply Array.toList_inj.1
    simp [mkB, lineL]
  have hw4 : Hid ([⟨#[108, 111, 99, 107]⟩, s, ⟨#[97, 116]⟩, D] = (wds (s, 1, 1, h)).map mkB) := by
    show _ = _
    rw [← hD.out]
    simp [wds, mkB_self, sLock, sAt, mkB]
  have hjn : Hid (mkB (Lib.join (([⟨#[108, 111, 99, 107]⟩, s, ⟨#[97, 116]⟩, D] : List ByteArray).map (·.data.toList)) [32]) = J) := by
    show _ = _
    rw [hw4.out, join_wds, hJ.out]
  have HJs := Lib.hid (show J.size ≤ 100000 by omega)
  have hlen : Hid (([⟨#[108, 111, 99, 107]⟩, s] : List ByteArray).length + 2 ≤ 1000000) := by show _ ≤ _; simp
  have hne : Hid (([⟨#[108, 111, 99, 107]⟩, s] ++ [⟨#[97, 116]⟩, D] : List ByteArray) ≠ []) := by show _ ≠ _; simp
  clear hJs
  go_enter Tryd.func48, Tryd.ntmps48
  go_wp2_with (first
    | (go_at_call 62; refine (itoa_b h _ h0 h100 hD).mono ?_; rintro e W1 ⟨rfl, rfl⟩)
    | (at_builtin; (refine app_strs rfl (.tmp 16) (.tmp 20) rfl w.heap.size _ [⟨#[108, 111, 99, 107]⟩, s] _ [⟨#[97, 116]⟩, D] 2 2 rfl rfl rfl ((OwnS.lit_at (w.alloc _) [⟨#[108, 111, 99, 107]⟩, s] (by simp) (by simp) (by simp)).below (newB _ _)) (SRd.lit_at _ _ [⟨#[97, 116]⟩, D] (by simp)) hlen (by simp; omega) ?_); intro V1 W2 ho1 hb1; have HO1 := Lib.hid ho1; have HB1 := Lib.hid (((new2 w _ _).alloc (by simp; omega) _).trans hb1); clear ho1 hb1; obtain ⟨A2, c2, hV, hc2, hr2⟩ := HO1.out.form; subst hV; have HR2 := Lib.hid hr2; clear hr2)
    | (go_at_call 63; refine (join_is _ _ _ _ _ HR2.out rfl hne hc2 (by simp) hjn HJs.out).mono ?_; rintro e W3 ⟨rfl, hb3⟩; have HB3 := Lib.hid (nx HB1.out hb3); clear hb3))
  go_ret
  exact ⟨by rw [← hfin.out]; rfl, HB3.out⟩
set_option maxHeartbeats 4000000 in
set_option maxRecDepth 8000 in
theorem line_pool (s : ByteArray) (u h : Int) (w : World) (hv : Hid (RsR (s, 2, u, h))) {L : ByteArray} (hL : Hid (mkB (lineL (s, 2, u, h)) = L)) :
    Calls Tryd.prog 48 #[ra s 2 u h] w fun e w' => e = .returned (.string L) ∧ Below w.heap.size w w' := by
  have hnum : (((2 : Int) = 1 ∧ u = 1) ∨ (2 : Int) = 2 ∧ 1 ≤ u ∧ u ≤ 8) ∧ 0 ≤ h ∧ h < 4 := hv.out.nums
  have h0 : 0 ≤ h := by omega
  have h100 : h < 100 := by omega
  have hu0 : 0 ≤ u := by omega
  have hu100 : u < 100 := by omega
  obtain ⟨D, hD⟩ : ∃ D, Hid (mkB (dec h.toNat) = D) := ⟨_, rfl⟩
  obtain ⟨U, hU⟩ : ∃ U, Hid (mkB (dec u.toNat) = U) := ⟨_, rfl⟩
  obtain ⟨J, hJ⟩ : ∃ J, Hid (mkB (lnL (s, 2, u, h)) = J) := ⟨_, rfl⟩
  have hJs : J.size ≤ 40 := by rw [← hJ.out, mkB_size]; exact line_len hv.out
  have n1 : ¬ 9223372036854775807 < J.size + 1 := by omega
  have hfin : Hid (J ++ ⟨#[10]⟩ = L) := by
    show _ = _
    rw [← hL.out, ← hJ.out]
    apply ByteArray.ext
    apply Array.toList_inj.1
    simp [mkB, lineL]
  have hw4 : Hid ([⟨#[112, 111, 111, 108]⟩, s, U, ⟨#[97, 116]⟩, D] = (wds (s, 2, u, h)).map mkB) := by
    show _ = _
    rw [← hD.out, ← hU.out]
    simp [wds, mkB_self, sPool, sAt, mkB]
  have hjn : Hid (mkB (Lib.join (([⟨#[112, 111, 111, 108]⟩, s, U, ⟨#[97, 116]⟩, D] : List ByteArray).map (·.data.toList)) [32]) = J) := by
    show _ = _
    rw [hw4.out, join_wds, hJ.out]
  have HJs := Lib.hid (show J.size ≤ 100000 by omega)
  have hlen : Hid (([⟨#[112, 111, 111, 108]⟩, s, U] : List ByteArray).length + 2 ≤ 1000000) := by show _ ≤ _; simp
  have hne : Hid (([⟨#[112, 111, 111, 108]⟩, s, U] ++ [⟨#[97, 116]⟩, D] : List ByteArray) ≠ []) := by show _ ≠ _; simp
  clear hJs hnum
  go_enter Tryd.func48, Tryd.ntmps48
  go_wp2
  obtain ⟨W0, hW0⟩ : ∃ W0, Hid ((w.alloc (.cells #[.string s, .int .i64 2, .int .i64 u, .int .i64 h] 26)).alloc (.cells #[.string ⟨#[108, 111, 99, 107]⟩, .string s] 9) = W0) := ⟨_, rfl⟩
  have HB0 : Hid (Below w.heap.size w W0) := by rw [← hW0.out]; exact new2 _ _ _
  have HS0 : Hid (S4 W0 w.heap.size s 2 u h ∧ w.heap.size < W0.heap.size) := by rw [← hW0.out]; exact ⟨⟨by simp, by simp, by simp, by simp⟩, by simp; omega⟩
  rw [hW0.out]
  have KP : Hid (∀ W, Below W0.heap.size W0 W → Below W0.heap.size W0 W ∧ S4 W w.heap.size s 2 u h) := fun W hW => ⟨hW, S4.of hW HS0.out.2 HS0.out.1⟩
  go_region_held3 (fun W => Below W0.heap.size W0 W ∧ S4 W w.heap.size s 2 u h)
    (first
      | exact KP.out _ (Below.refl _ _)
      | exact KP.out _ (bdD (Below.refl _ _))
      | (go_split_ands; exact KP.out _ (bdD (by assumption)))
      | (go_split_ands; exact KP.out _ (nxA (by assumption) _))
      | (go_split_ands; exact KP.out _ (by assumption)))
    (first
      | (go_at_call 62; (with_reducible refine (itoa_b u _ hu0 hu100 hU).mono ?_); rintro e W1 ⟨rfl, rfl⟩))
  all_goals (
    go_split_ands
    go_wp2_with (first
      | (go_at_call 62; refine (itoa_b h _ h0 h100 hD).mono ?_; rintro e W1 ⟨rfl, rfl⟩)
      | (at_builtin; (refine app_strs rfl (.tmp 16) (.tmp 20) rfl W0.heap.size _ [⟨#[112, 111, 111, 108]⟩, s, U] _ [⟨#[97, 116]⟩, D] 2 2 rfl rfl rfl ((OwnS.lit_at W0 [⟨#[112, 111, 111, 108]⟩, s, U] rfl (Nat.le_refl _) (by simp)).below (nxA (bdD (Below.refl _ _)) _)) (SRd.lit_at _ _ [⟨#[97, 116]⟩, D] (by simp)) hlen (by simp; omega) ?_); intro V1 W2 ho1 hb1; have HO1 := Lib.hid ho1; have HB1 := Lib.hid ((nxA (bdD (newB W0 _)) _).trans hb1); clear ho1 hb1; obtain ⟨A2, c2, hV, hc2, hr2⟩ := HO1.out.form; subst hV; have HR2 := Lib.hid hr2; clear hr2)
      | (go_at_call 63; refine (join_is _ _ _ _ _ HR2.out rfl hne hc2 (by simp) hjn HJs.out).mono ?_; rintro e W3 ⟨rfl, hb3⟩; have HB3 := Lib.hid (nx (nx HB0.out HB1.out) hb3); clear hb3))
    go_ret
    exact ⟨by rw [← hfin.out]; rfl, HB3.out⟩)
theorem line_is (s : ByteArray) (k u h : Int) (w : World) (hv : Hid (RsR (s, k, u, h))) {L : ByteArray} (hL : Hid (mkB (lineL (s, k, u, h)) = L)) :
    Calls Tryd.prog 48 #[ra s k u h] w fun e w' => e = .returned (.string L) ∧ Below w.heap.size w w' := by
  have hnum : ((k = 1 ∧ u = 1) ∨ k = 2 ∧ 1 ≤ u ∧ u ≤ 8) ∧ 0 ≤ h ∧ h < 4 := hv.out.nums
  rcases hnum.1 with ⟨rfl, rfl⟩ | ⟨rfl, _⟩
  · exact line_lock s h w hv hL
  · exact line_pool s u h w hv hL
set_option maxHeartbeats 4000000 in
set_option maxRecDepth 8000 in
theorem format_no (A : Option Addr) (n c : Nat) (l : List P4) (w : World) (hl : InR w A n c l) (hv : Hid (¬ Vcat l)) :
    Calls Tryd.prog 33 #[.slice A n c] w fun e w' => e = .returned (.string ⟨#[]⟩) ∧ Below w.heap.size w w' := by
  have HI := Lib.hid hl
  have hn : Hid (l.length = n) := hl.len
  clear hl
  go_enter Tryd.func33, Tryd.ntmps33
  go_wp2_with (first
    | (go_at_call 20; refine (vcat_no _ _ _ _ _ HI.out.rd hn hv).mono ?_; rintro e W1 ⟨rfl, hg1⟩; have hb1 := hg1.below; clear hg1))
  go_ret
  exact ⟨rfl, hb1⟩
set_option maxHeartbeats 4000000 in
set_option maxRecDepth 8000 in
theorem format_yes (A : Option Addr) (n c : Nat) (l : List P4) (w : World) (hl : InR w A n c l) (hv : Hid (Vcat l)) {r : ByteArray} (hr : Hid (mkB (txtL l) = r)) :
    Calls Tryd.prog 33 #[.slice A n c] w fun e w' => e = .returned (.string r) ∧ Below w.heap.size w w' := by
  have HI := Lib.hid hl
  have hn : Hid (l.length = n) := hl.len
  have hn8 : n ≤ 8 := by have := hv.out.1; have := hn.out; omega
  clear hl
  go_enter Tryd.func33, Tryd.ntmps33
  go_wp2_with (first
    | (go_at_call 20; refine (vcat_yes _ _ _ _ _ HI.out.rd hn hv).mono ?_; rintro e W1 ⟨rfl, hg1⟩; have HB1 := Lib.hid hg1.below; clear hg1))
  go_loopw [5, 11] (fun p i wr => ∃ (j : Nat), j ≤ n ∧ i = .int .i64 j ∧ Hid (Bld W1.heap.size W1.heap.size (txtL (l.take j)) wr) ∧ Hid (Below W1.heap.size W1 wr)) (fun _ i _ => n - (intOf i).toNat)
  case atStart => exact ⟨0, by omega, rfl, by show Bld _ _ _ _; simp [txtL]; exact Bld.new _, newB _ _⟩
  case round =>
    obtain ⟨j, hj, rfl, hO, hB⟩ := hrel
    by_cases hlt : (j : Int) < (n : Int)
    · obtain ⟨g, o, s', k', u', h', rfl, hg, hxx, c1, c2, c3, c4⟩ := (HI.out.rd.below (nx HB1.out hB.out)).at_ (i := j) (by have := hn.out; omega)
      have e5 : IntKind.i64.wrap ((j : Int) + 1) = (j : Int) + 1 := by rw [IntKind.wrap_i64]; omega
      have hrs : Hid (RsR (s', k', u', h')) := by show RsR _; rw [← hxx.out]; exact hv.out.2.1 j (by have := hn.out; omega)
      obtain ⟨L, hL⟩ : ∃ L, Hid (mkB (lineL (s', k', u', h')) = L) := ⟨_, rfl⟩
      have hsn : Hid (txtL (l.take (j + 1)) = txtL (l.take j) ++ L.data.toList) := by
        show _ = _
        rw [take_snoc4 (by have := hn.out; omega), hxx.out, txtL_snoc, ← hL.out, mkB_data]
      have hlen : Hid ((txtL (l.take j)).length + L.size ≤ 100000) := by
        have h1 := txtL_len (l.take j) (fun r hr => hv.out.res (List.mem_of_mem_take hr))
        have h2 := lineL_len hrs.out
        rw [List.length_take] at h1
        show _ ≤ _
        rw [← hL.out, mkB_size]
        omega
      go_wp2_with (first
        | (go_at_call 48; refine (line_is _ _ _ _ _ hrs hL).mono ?_; rintro e W2 ⟨rfl, hb2⟩; have HB2 := Lib.hid (nx (newB wr _) hb2); clear hb2)
        | (go_at_call 47; refine (write_is _ _ _ _ _ (hO.out.below HB2.out) hlen (Nat.le_trans hB.out.size HB2.out.size)).mono ?_; rintro e W3 ⟨rfl, ho3, hb3⟩; rw [← hsn.out] at ho3; have HO3 := Lib.hid ho3; have HB3 := Lib.hid ((nx hB.out HB2.out).trans hb3); clear ho3 hb3))
      go_roundw
      case rel => exact ⟨j + 1, by omega, by go_num, HO3, HB3⟩
      case measure => simp [intOf]; omega
    · have hfin : Hid (txtL (l.take j) = txtL l) := by show _ = _; rw [List.take_of_length_le (by have := hn.out; omega)]
      have hr2 : Hid (mkB (txtL (l.take j)) = r) := by show _ = _; rw [hfin.out]; exact hr.out
      go_wp2_with (first
        | (go_at_call 49; refine (string_is _ _ _ _ hO.out hB.out.size hr2).mono ?_; rintro e W3 ⟨rfl, hb3⟩; have HB3 := Lib.hid (hB.out.trans hb3); clear hb3))
      go_ret
      exact ⟨rfl, nx HB1.out HB3.out⟩
end Go.Proofs.YtmfdafffafbmpaaDoor
