/- Contracts: Remove of the program and of the reference. -/
import Derived.Test.YtmfdafffafbmpaaDoorCrin
namespace Go.Proofs.YtmfdafffafbmpaaDoor
open Go.RowKit
open Go.Sort (grow)
set_option linter.unusedVariables false
set_option linter.unusedSimpArgs false

theorem cutL_lt {l : List P4} {p i : Nat} (hp : p < l.length) (hi : i < p) : (cutL l p).getD i default = l.getD i default := by
  unfold cutL
  rw [List.getD_eq_getElem?_getD, List.getElem?_append_left (by rw [List.length_take]; omega), List.getElem?_take, if_pos hi, List.getD_eq_getElem?_getD]
theorem cutL_ge {l : List P4} {p i : Nat} (hp : p < l.length) (hi : p ≤ i) : (cutL l p).getD i default = l.getD (i + 1) default := by
  unfold cutL
  rw [List.getD_eq_getElem?_getD, List.getElem?_append_right (by rw [List.length_take]; omega), List.length_take, Nat.min_eq_left (by omega), List.getElem?_drop, List.getD_eq_getElem?_getD, show p + 1 + (i - p) = i + 1 by omega]
theorem at_ne {l : List P4} {s : ByteArray} {p j : Nat} (ha : Asc l) (hp : At4 l s p) (hj : j < l.length) (h : j ≠ p) : (l.getD j default).1 ≠ s := by
  rcases Nat.lt_or_gt_of_ne h with h1 | h1
  · exact hp.2.2 j h1
  · have := ha p j h1 hj
    rw [hp.2.1] at this
    exact fun e => ltS_ne this e.symm
set_option maxHeartbeats 4000000 in
set_option maxRecDepth 8000 in
theorem remove_bad (A : Option Addr) (n c : Nat) (l : List P4) (s : ByteArray) (w : World) (hl : InR w A n c l) (hv : Hid (¬ Vcat l)) :
    Calls Tryd.prog 27 #[.slice A n c, .string s] w fun e' w' => e' = .returned (.tuple #[.slice none 0 0, .int .i64 2]) ∧ Below w.heap.size w w' := by
  have HI := Lib.hid hl
  have hn : Hid (l.length = n) := hl.len
  clear hl
  go_enter Tryd.func27, Tryd.ntmps27
  go_wp2_with (first
    | (go_at_call 20; refine (vcat_no _ _ _ _ _ HI.out.rd hn hv).mono ?_; rintro e W1 ⟨rfl, hg1⟩; have hb1 := hg1.below; clear hg1))
  exact bodyPost_ret (v := .tuple #[.slice none 0 0, .int .i64 2]) (by simp [results, Tryd.results27, go_sem]) rfl ⟨rfl, hb1⟩
set_option maxHeartbeats 4000000 in
set_option maxRecDepth 8000 in
theorem remove_none (A : Option Addr) (n c : Nat) (l : List P4) (s : ByteArray) (w : World) (hl : InR w A n c l) (hvc : Vcat l) (hb : Hid (¬ ∃ i, At4 l s i)) :
    Calls Tryd.prog 27 #[.slice A n c, .string s] w fun e' w' => e' = .returned (.tuple #[.slice none 0 0, .int .i64 10]) ∧ Below w.heap.size w w' := by
  have HI := Lib.hid hl
  have hn : Hid (l.length = n) := hl.len
  have hv : Hid (Vcat l) := hvc
  have h8 : n ≤ 8 := by have := hvc.1; have := hl.len; omega
  have ha : Hid (Asc l) := hvc.asc
  obtain ⟨p, hp⟩ := plc_of hvc s
  clear hl hvc
  go_enter Tryd.func27, Tryd.ntmps27
  go_wp2_with (first
    | (go_at_call 20; refine (vcat_yes _ _ _ _ _ HI.out.rd hn hv).mono ?_; rintro e W1 ⟨rfl, hg1⟩; have hb1 := hg1.below; clear hg1)
    | (go_at_call 43; refine (place_no _ _ _ _ _ _ (HI.out.below hb1) h8 ha hp hb).mono ?_; rintro e W2 ⟨rfl, hb2⟩; have hb2 := nx hb1 hb2))
  exact bodyPost_ret (v := .tuple #[.slice none 0 0, .int .i64 10]) (by simp [results, Tryd.results27, go_sem]) rfl ⟨rfl, hb2⟩
set_option maxHeartbeats 4000000 in
set_option maxRecDepth 8000 in
theorem remove_ok (A : Option Addr) (n c : Nat) (l : List P4) (s : ByteArray) (w : World) (hl : InR w A n c l) (hvc : Vcat l) {p : Nat} (hat : Hid (At4 l s p)) :
    Calls Tryd.prog 27 #[.slice A n c, .string s] w fun e' w' => ∃ A' c', e' = .returned (.tuple #[.slice A' (n - 1) c', .int .i64 0]) ∧ InR w' A' (n - 1) c' (cutL l p) ∧ Below w.heap.size w w' := by
  have HI := Lib.hid hl
  have hn : Hid (l.length = n) := hl.len
  have hv : Hid (Vcat l) := hvc
  have h8 : n ≤ 8 := by have := hvc.1; have := hl.len; omega
  have ha : Hid (Asc l) := hvc.asc
  obtain ⟨p', hp⟩ := plc_of hvc s
  obtain rfl : p = p' := hp.out.at_ ha.out hat.out
  have hb : Hid (∃ i, At4 l s i) := ⟨p, hat.out⟩
  have hpn : p < n := by have := hat.out.1; have := hn.out; omega
  have hcf := cut_front hl (show p ≤ n by omega)
  obtain ⟨A2, c2, hcb, hr2⟩ := cut_back hl (show p + 1 ≤ n by omega)
  obtain ⟨q, hq⟩ : ∃ q, Hid (n - (p + 1) = q) := ⟨_, rfl⟩
  rw [hq.out, show (((p + 1 : Nat)) : Int) = (p : Int) + 1 by omega] at hcb
  have HC : Hid (∀ W, Below w.heap.size w W → Calls Tryd.prog 44 #[.slice (some ⟨W.heap.size, 0, none⟩) 2 2] (W.alloc (.cells #[.slice A p c, .slice A2 q c2] 24)).drew fun e w' => ∃ A' c', e = .returned (.slice A' (n - 1) c') ∧ InR w' A' (n - 1) c' (cutL l p) ∧ Below W.heap.size W w') := fun W hW => by rw [← hq.out]; exact concat_cut W A n c l (HI.out.below hW) h8 p hpn A2 c2 (hr2.below hW)
  have e1 : IntKind.i64.wrap ((p : Int) + 1) = (p : Int) + 1 := by rw [IntKind.wrap_i64]; omega
  have e2 : 0 ≤ (p : Int) + 1 := by omega
  clear hl hvc hr2
  go_enter Tryd.func27, Tryd.ntmps27
  go_wp2_with (first
    | (go_at_call 20; refine (vcat_yes _ _ _ _ _ HI.out.rd hn hv).mono ?_; rintro e W1 ⟨rfl, hg1⟩; have hb1 := hg1.below; clear hg1)
    | (go_at_call 43; refine (place_yes _ _ _ _ _ _ (HI.out.below hb1) h8 ha hp hb).mono ?_; rintro e W2 ⟨rfl, hb2⟩; have hb2 := nx hb1 hb2))
  have HB2 := Lib.hid hb2
  have HC2 := Lib.hid (HC.out W2 hb2)
  clear hb1 hb2
  go_region_held3 (fun W => Below W2.heap.size W2 W)
    (first
      | exact Below.refl _ _
      | exact bdD (Below.refl _ _)
      | exact hb5.out
      | exact nxA (by assumption) _)
    (first
      | (go_at_call 44; (with_reducible refine HC2.out.mono ?_); rintro e W5 ⟨A5, c5, rfl, hi5, hb5⟩; have HI5 := Lib.hid hi5; have hb5 := Lib.hid hb5; clear hi5))
  all_goals (
    go_wp2
    exact bodyPost_ret (v := .tuple #[.slice A5 (n - 1) c5, .int .i64 0]) (by simp [results, Tryd.results27, go_sem]) rfl ⟨A5, c5, rfl, HI5.out, nx HB2.out hb5.out⟩)

set_option maxHeartbeats 4000000 in
set_option maxRecDepth 8000 in
theorem refRemove_bad (A : Option Addr) (n c : Nat) (l : List P4) (s : ByteArray) (w : World) (hl : InR w A n c l) (hv : Hid (¬ Vcat l)) :
    Calls Tryd.prog 28 #[.slice A n c, .string s] w fun e' w' => e' = .returned (.tuple #[.slice none 0 0, .int .i64 2]) ∧ Below w.heap.size w w' := by
  have HI := Lib.hid hl
  have hn : Hid (l.length = n) := hl.len
  clear hl
  go_enter Tryd.func28, Tryd.ntmps28
  go_wp2_with (first
    | (go_at_call 21; refine (refVcat_no _ _ _ _ _ HI.out.rd hn hv).mono ?_; rintro e W1 ⟨rfl, hg1⟩; have hb1 := hg1.below; clear hg1))
  exact bodyPost_ret (v := .tuple #[.slice none 0 0, .int .i64 2]) (by simp [results, Tryd.results28, go_sem]) rfl ⟨rfl, hb1⟩
set_option maxHeartbeats 4000000 in
set_option maxRecDepth 8000 in
theorem refRemove_none (A : Option Addr) (n c : Nat) (l : List P4) (s : ByteArray) (w : World) (hl : InR w A n c l) (hv : Hid (Vcat l)) (hb : Hid (¬ ∃ i, At4 l s i)) :
    Calls Tryd.prog 28 #[.slice A n c, .string s] w fun e' w' => e' = .returned (.tuple #[.slice none 0 0, .int .i64 10]) ∧ Below w.heap.size w w' := by
  have HI := Lib.hid hl
  have hn : Hid (l.length = n) := hl.len
  clear hl
  go_enter Tryd.func28, Tryd.ntmps28
  go_wp2_with (first
    | (go_at_call 21; refine (refVcat_yes _ _ _ _ _ HI.out.rd hn hv).mono ?_; rintro e W1 ⟨rfl, hg1⟩; have hb1 := hg1.below; clear hg1)
    | (go_at_call 26; refine (find_no _ _ _ _ _ _ (HI.out.below hb1) hb).mono ?_; rintro e W5 ⟨rfl, hb5⟩; have hb5 := nx hb1 hb5))
  exact bodyPost_ret (v := .tuple #[.slice none 0 0, .int .i64 10]) (by simp [results, Tryd.results28, go_sem]) rfl ⟨rfl, nxA hb5 _⟩
set_option maxHeartbeats 4000000 in
set_option maxRecDepth 8000 in
theorem refRemove_ok (A : Option Addr) (n c : Nat) (l : List P4) (s : ByteArray) (w : World) (hl : InR w A n c l) (hvc : Vcat l) {p : Nat} (hat : Hid (At4 l s p)) :
    Calls Tryd.prog 28 #[.slice A n c, .string s] w fun e' w' => ∃ A' c', e' = .returned (.tuple #[.slice A' (n - 1) c', .int .i64 0]) ∧ InR w' A' (n - 1) c' (cutL l p) ∧ Below w.heap.size w w' := by
  have HI := Lib.hid hl
  have hn : Hid (l.length = n) := hl.len
  have hv : Hid (Vcat l) := hvc
  have h8 : n ≤ 8 := by have := hvc.1; have := hl.len; omega
  have ha : Hid (Asc l) := hvc.asc
  have hpn : p < n := by have := hat.out.1; have := hn.out; omega
  obtain ⟨X, hX⟩ : ∃ X, Hid (cutL l p = X) := ⟨_, rfl⟩
  have hXl : Hid (X.length = n - 1) := by show _ = _; rw [← hX.out]; have := cutL_length l (show p < l.length by have := hn.out; omega); have := hn.out; omega
  have hXlt : Hid (∀ i, i < p → X.getD i default = l.getD i default) := fun i hi => by rw [← hX.out]; exact cutL_lt (by have := hn.out; omega) hi
  have hXge : Hid (∀ i, p ≤ i → X.getD i default = l.getD (i + 1) default) := fun i hi => by rw [← hX.out]; exact cutL_ge (by have := hn.out; omega) hi
  obtain ⟨s0, k0, u0, h0, hx0⟩ : ∃ s' k' u' h', Hid (l.getD p default = (s', k', u', h')) := ⟨_, _, _, _, rfl⟩
  clear hl hvc
  go_enter Tryd.func28, Tryd.ntmps28
  go_wp2_with (first
    | (go_at_call 21; refine (refVcat_yes _ _ _ _ _ HI.out.rd hn hv).mono ?_; rintro e W1 ⟨rfl, hg1⟩; have hb1 := hg1.below; clear hg1)
    | (go_at_call 26; refine (find_yes _ _ _ _ _ _ (HI.out.below hb1) hat hx0).mono ?_; rintro e W5 ⟨rfl, hb5⟩; have hb5 := nx hb1 hb5; have HB5 := Lib.hid hb5; clear hb1 hb5))
  go_loopw [8, 9] (fun V i wr => ∃ (j m : Nat), j ≤ n ∧ i = .int .i64 j ∧ Hid ((j ≤ p ∧ m = j) ∨ (p < j ∧ m + 1 = j)) ∧ Hid (OwnR wr w.heap.size V (X.take m)) ∧ Hid (Below w.heap.size w wr)) (fun _ i _ => n - (intOf i).toNat)
  case atStart => exact ⟨0, 0, by omega, rfl, .inl ⟨by omega, rfl⟩, OwnR.nil _ _, nxA HB5.out _⟩
  case round =>
    obtain ⟨j, m, hj, rfl, hd, hO, hB⟩ := hrel
    by_cases hlt : (j : Int) < (n : Int)
    · obtain ⟨g, o, s', k', u', h', rfl, hg, hxx, c1, c2, c3, c4⟩ := (HI.out.rd.below hB.out).at_ (i := j) (by have := hn.out; omega)
      have e5 : IntKind.i64.wrap ((j : Int) + 1) = (j : Int) + 1 := by rw [IntKind.wrap_i64]; omega
      by_cases hjp : j = p
      · have he0 : s' = s := by have := hat.out.2.1; rw [← hjp, hxx.out] at this; exact this
        have he : (s'.toList == s.toList) = true := eqS_iff.2 he0
        have he2 : (s'.toList != s.toList) = false := by simp [bne, he]
        have hm : Hid (m = j) := by have := hd.out; show _ = _; omega
        have hjp2 := Lib.hid hjp
        clear he0 hjp
        go_wp2
        go_roundw
        case rel => exact ⟨j + 1, m, by omega, by go_num, .inr ⟨by have := hjp2.out; omega, by have := hm.out; omega⟩, hO, hB⟩
        case measure => simp [intOf]; omega
      · have he0 := at_ne ha.out hat.out (show j < l.length by have := hn.out; omega) hjp
        rw [hxx.out] at he0
        have he : (s'.toList == s.toList) = false := eqS_no.2 he0
        have he2 : (s'.toList != s.toList) = true := by simp [bne, he]
        have hcat : Hid (X.take (m + 1) = X.take m ++ [(s', k', u', h')]) := by
          show _ = _
          rcases hd.out with ⟨h1, h2⟩ | ⟨h1, h2⟩
          · rw [take_snoc4 (by have := hXl.out; omega), hXlt.out m (by omega), h2, hxx.out]
          · rw [take_snoc4 (by have := hXl.out; omega), hXge.out m (by omega), h2, hxx.out]
        have hlen : Hid ((X.take m).length + 1 ≤ 3518437208880) := by have := hXl.out; show _ ≤ _; rw [List.length_take]; omega
        have hjp2 := Lib.hid hjp
        clear he0 hjp
        go_wp2_with (at_builtin; (refine app_res rfl (.tmp 34) (.tmp 39) rfl w.heap.size _ (X.take m) _ [(s', k', u', h')] 1 1 rfl rfl rfl (hO.out.below (newB _ _)) (rrd_at _ _ _ _ _ _ (by simp)) hlen (nxA hB.out _).size ?_); intro V1 W2 ho1 hb1; rw [← hcat.out] at ho1; have HO1 := Lib.hid ho1; have HB1 := Lib.hid ((nxA hB.out _).trans hb1); clear ho1 hb1)
        go_roundw
        case rel => exact ⟨j + 1, m + 1, by omega, by go_num, by have := hd.out; have := hjp2.out; show _ ∨ _; omega, HO1, HB1⟩
        case measure => simp [intOf]; omega
    · have hfin : Hid (X.take m = X) := by
        show _ = _
        exact List.take_of_length_le (by have := hXl.out; have := hd.out; omega)
      have hlen : Hid (X.length = n - 1) := hXl.out
      go_wp2
      have ho := hO.out
      rw [hfin.out] at ho
      obtain ⟨A', c', rfl, hi⟩ := ho.inR (by have := hlen.out; omega)
      rw [hlen.out] at hi
      exact bodyPost_ret (v := .tuple #[.slice A' (n - 1) c', .int .i64 0]) (by simp [results, Tryd.results28, go_sem, hlen.out]) rfl ⟨A', c', rfl, by rw [hX.out]; exact hi, hB.out⟩
end Go.Proofs.YtmfdafffafbmpaaDoor
