/- The walk of CodecFlips. -/
import Derived.Test.YtodoiobhphahcaaCodecShortW
namespace Go.Proofs.Ytodoiobhphahcaa
open Go.RowKit

theorem Own.store {U : TypeId} {w : World} {base g n c : Nat} {xs : List Int} (h : Own U w base (.slice (some ⟨g, 0, none⟩) n c) xs) (p : Nat) (x : Int) :
    Own U (w.setCell ⟨g, p, none⟩ (.int .u8 x)) base (.slice (some ⟨g, 0, none⟩) n c) (xs.set p x) := by
  obtain ⟨h1, h2⟩ := h
  refine ⟨by simp [bv], ?_⟩
  rcases h2 with ⟨hv, _⟩ | ⟨g', cap, cur, hv, hb, hg, hnc, hcm, hcs, ht⟩
  · cases hv
  · injection hv with e1 e2 e3
    injection e1 with e1
    injection e1 with e1
    subst e1
    subst e3
    refine .inr ⟨g, c, cur.setIfInBounds p (.int .u8 x), by rw [List.length_set, ← e2], hb, ?_, by rw [List.length_set]; exact hnc, hcm, by simpa using hcs, ?_⟩
    · simp [World.setCell, Array.getElem?_modify, hg]
    · rw [List.length_set, Array.toList_setIfInBounds, List.take_set, ht]
      simp [bv, List.map_set]
theorem Own.cellAt {U : TypeId} {w : World} {base g n c : Nat} {xs : List Int} (h : Own U w base (.slice (some ⟨g, 0, none⟩) n c) xs) {p : Nat} (hp : p < xs.length) :
    w.cell? ⟨g, p, none⟩ = some (.int .u8 (xs.getD p 0)) ∧ w.frozen? ⟨g, p, none⟩ = false := by
  obtain ⟨h1, h2⟩ := h
  rcases h2 with ⟨hv, _⟩ | ⟨g', cap, cur, hv, hb, hg, hnc, hcm, hcs, ht⟩
  · cases hv
  · injection hv with e1 e2 e3
    injection e1 with e1
    injection e1 with e1
    subst e1
    refine ⟨?_, by simp [World.frozen?, hg]⟩
    rw [cell_of_row w g p cur U (0, 0) hg]
    have hb : (bv xs)[p]? = some (.int .u8 (xs.getD p 0)) := by simp [bv, List.getElem?_eq_getElem hp, List.getD_eq_getElem?_getD]
    rw [← ht, List.getElem?_take, if_pos (by omega)] at hb
    simpa using hb
theorem Own.some_ {w : World} {base : Nat} {A : Option Addr} {n c : Nat} {xs : List Int} (h : OwnB w base (.slice A n c) xs) (hp : 0 < n) : ∃ g, A = some ⟨g, 0, none⟩ ∧ base ≤ g := by
  rcases h.2 with ⟨hv, hn⟩ | ⟨g', cap, cur, hv, hb, _⟩
  · injection hv with _ e2 _
    omega
  · injection hv with e1 _ _
    exact ⟨g', e1, hb⟩

/-- A frame's parts: a payload, and four bytes. -/
theorem unframeS_parts {xs l4 : List Int} (hl : xs.length ≤ 4096) (h4 : l4.length = 4) : unframeS (vint (xs.length : Int) ++ xs ++ l4) = if rd4 l4 = (crc xs : Int) then (xs, ((vint (xs.length : Int)).length : Int) + (xs.length : Int) + 4, 0) else ([], 0, 7) := by
  have h := uintS_put (xs.length : Int) (xs ++ l4) (by omega) (by omega)
  rw [← List.append_assoc] at h
  have hd : (vint (xs.length : Int) ++ xs ++ l4).drop ((vint (xs.length : Int)).length + xs.length) = l4 := by
    rw [← List.length_append, List.drop_left]
  have hp : ((vint (xs.length : Int) ++ xs ++ l4).drop (vint (xs.length : Int)).length).take xs.length = xs := by
    rw [List.append_assoc, List.drop_left, List.take_left]
  unfold unframeS
  rw [h]
  simp only
  rw [if_neg (by simp), if_neg (by omega), if_neg (by simp [h4]; omega), show (((vint (xs.length : Int)).length : Int) + (xs.length : Int)).toNat = (vint (xs.length : Int)).length + xs.length by omega, hd]
  simp only [Int.toNat_natCast]
  rw [hp]

/-- A changed byte behind the length is noticed. -/
theorem unframeS_flip {xs : List Int} (hb : Byt xs) (hl : xs.length ≤ 4096) {q : Nat} (hq : q < xs.length + 4) {y : Int} (hy0 : 0 ≤ y) (hy1 : y < 256) (hne : (frameB xs).getD ((vint (xs.length : Int)).length + q) 0 ≠ y) :
    unframeS ((frameB xs).set ((vint (xs.length : Int)).length + q) y) = ([], 0, 7) := by
  have hs := crc_lt hb
  rcases Nat.lt_or_ge q xs.length with h | h
  · have e : (frameB xs).set ((vint (xs.length : Int)).length + q) y = vint ((xs.set q y).length : Int) ++ xs.set q y ++ be4 (crc xs) := by
      unfold frameB
      rw [List.set_append_left _ _ (by simp; omega), List.set_append_right _ _ (by omega), List.length_set, Nat.add_sub_cancel_left]
    rw [e, unframeS_parts (by rw [List.length_set]; exact hl) rfl, if_neg]
    intro hr
    have hr4 := rd4_be4 hs []
    rw [List.append_nil] at hr4
    rw [hr4] at hr
    have hc : crc xs = crc (xs.set q y) := by omega
    have x1 : xs = xs.take q ++ [xs.getD q 0] ++ xs.drop (q + 1) := by
      rw [List.getD_eq_getElem?_getD, List.getElem?_eq_getElem h]
      simp
    have x2 : xs.set q y = xs.take q ++ [y] ++ xs.drop (q + 1) := by
      rw [List.set_eq_take_append_cons_drop, if_pos h]
      simp
    rw [x2] at hc
    have hg := hb.getD q
    rw [x1] at hc
    have h5 := crc_burst (pre := xs.take q) (xs := [xs.getD q 0]) (ys := [y]) (post := xs.drop (q + 1)) rfl (by simp) (hb.take q) (Byt.cons hg.1 hg.2 Byt.nil) (Byt.cons hy0 hy1 Byt.nil) (hb.drop _) (by
      have e1 : (xs.take q ++ [xs.getD q 0] ++ xs.drop (q + 1)).take q = xs.take q := by rw [← x1]
      have e2 : (xs.take q ++ [xs.getD q 0] ++ xs.drop (q + 1)).drop (q + 1) = xs.drop (q + 1) := by rw [← x1]
      rw [e1, e2] at hc
      exact hc)
    apply hne
    unfold frameB
    simp only [List.cons.injEq, and_true] at h5
    rw [← h5, List.append_assoc, List.getD_eq_getElem?_getD, List.getElem?_append_right (by omega), Nat.add_sub_cancel_left, List.getElem?_append_left h, List.getD_eq_getElem?_getD]
  · obtain ⟨j, rfl⟩ : ∃ j, q = xs.length + j := ⟨q - xs.length, by omega⟩
    have hj : j < 4 := by omega
    have e : (frameB xs).set ((vint (xs.length : Int)).length + (xs.length + j)) y = vint (xs.length : Int) ++ xs ++ (be4 (crc xs)).set j y := by
      unfold frameB
      rw [List.set_append_right _ _ (by simp), List.length_append, show (vint (xs.length : Int)).length + (xs.length + j) - ((vint (xs.length : Int)).length + xs.length) = j by omega]
    have hgd : (frameB xs).getD ((vint (xs.length : Int)).length + (xs.length + j)) 0 = (be4 (crc xs)).getD j 0 := by
      unfold frameB
      rw [List.getD_eq_getElem?_getD, List.getElem?_append_right (by simp), List.length_append, show (vint (xs.length : Int)).length + (xs.length + j) - ((vint (xs.length : Int)).length + xs.length) = j by omega, List.getD_eq_getElem?_getD]
    rw [hgd] at hne
    rw [e, unframeS_parts hl (by simp [be4]), if_neg]
    intro hr
    have hcases : j = 0 ∨ j = 1 ∨ j = 2 ∨ j = 3 := by omega
    rcases hcases with rfl | rfl | rfl | rfl <;> simp [rd4, be4] at hr hne <;> omega

/-- A bit of a byte, flipped. -/
theorem flip_bit {x : Int} (h0 : 0 ≤ x) (h1 : x < 256) (i : Nat) (hi : i ≤ 7) : 0 ≤ bits .xor .u8 x (2 ^ i % 256) ∧ bits .xor .u8 x (2 ^ i % 256) < 256 ∧ x ≠ bits .xor .u8 x (2 ^ i % 256) := by
  have hp : (2 : Int) ^ i = ((2 ^ i : Nat) : Int) := by push_cast; rfl
  have hp1 : 2 ^ i < 256 := Nat.lt_of_le_of_lt (Nat.pow_le_pow_right (n := 2) (by decide) hi) (by decide)
  have hp0 : 0 < 2 ^ i := Nat.pow_pos (by decide)
  rw [hp]
  clear hp
  generalize 2 ^ i = m at *
  rw [show ((m : Nat) : Int) % 256 = (m : Int) by omega]
  rw [u8_xor x _ h0 h1 (by omega) (by omega), Int.toNat_natCast]
  have hlt : x.toNat ^^^ m < 256 := Nat.xor_lt_two_pow (n := 8) (by omega) hp1
  refine ⟨by omega, by omega, fun e => ?_⟩
  have e' : x.toNat ^^^ m = x.toNat := by omega
  have := congrArg (fun z => x.toNat ^^^ z) e'
  simp only [← Nat.xor_assoc, Nat.xor_self, Nat.zero_xor] at this
  omega

theorem refPutNil_form (v : Int) (w : World) (hv0 : 0 ≤ v) (hv1 : Hid (v < 18446744073709551616)) {n : Nat} (hn : Hid ((vint v).length = n)) :
    Calls Try.prog 16 #[.slice none 0 0, .int .u64 v] w (GivesF w (vint v) n) := (refPut_nil v w hv0 hv1.out).mono fun _ _ => Gives.form hn

set_option maxHeartbeats 800000 in
theorem CodecFlips_walk (A0 : Option Addr) (n0 c0 : Nat) (x0 : List Int) (a1 : Int) (a2 : Int) (w : World) (w0 : In w A0 n0 c0 x0) (w1 : (Lit.int .i64 a1).wf = true) (w2 : (Lit.int .i64 a2).wf = true) :
    Calls Try.prog 12 #[.slice A0 n0 c0, .int .i64 a1, .int .i64 a2] w fun e w' => e = .returned (.bool true) ∧ Below w.heap.size w w' := by
  obtain ⟨rfl, hr, hb, hf, hc⟩ := w0
  obtain ⟨v0, v1⟩ := wf_i64 w1
  obtain ⟨v2, v3⟩ := wf_i64 w2
  clear w1 w2
  obtain ⟨L, hL⟩ : ∃ L, Hid ((vint (x0.length : Int)).length = L) := ⟨_, rfl⟩
  have hL1 : 1 ≤ L ∧ L ≤ 10 := by rw [← hL.out]; exact vint_len _
  by_cases hl : x0.length ≤ 4096
  · have hl2 : (x0.length : Int) ≤ 4096 := by omega
    obtain ⟨k, hkL⟩ : ∃ k, k = L + x0.length + 4 := ⟨_, rfl⟩
    have hk : Hid ((frameB x0).length = k) := by show _ = _; rw [frameB_length, hL.out, hkL]
    have hfb : Byt (frameB x0) := frameB_byt hb hl
    have hk1 : k ≤ 4110 := by omega
    have hk2 : L < k := by omega
    have HK := Lib.hid hkL
    clear hkL
    by_cases hin : 0 ≤ a1 ∧ a1 < (k : Int) - (L : Int) ∧ 0 ≤ a2 ∧ a2 ≤ 7
    · obtain ⟨i1, i2, i3, i4⟩ := hin
      obtain ⟨q, rfl⟩ := Int.eq_ofNat_of_zero_le i1
      obtain ⟨i, rfl⟩ := Int.eq_ofNat_of_zero_le i3
      have hqk : L + q < k := by omega
      have hi7 : i ≤ 7 := by omega
      have j1 : ¬ (q : Int) < 0 := by omega
      have j2 : ¬ (k : Int) - (L : Int) ≤ (q : Int) := by omega
      have j3 : ¬ (7 : Int) < (i : Int) := by omega
      have hg := hfb.getD (L + q)
      obtain ⟨hy0, hy1, hyne⟩ := flip_bit hg.1 hg.2 i hi7
      have hu : Hid (unframeS ((frameB x0).set (L + q) (bits .xor .u8 ((frameB x0).getD (L + q) 0) (2 ^ i % 256))) = ([], 0, 7)) := by
        have h := unframeS_flip hb hl (q := q) (by have := HK.out; omega) hy0 hy1 (by rw [hL.out]; exact hyne)
        rw [hL.out] at h
        exact h
      have hfb' : Byt ((frameB x0).set (L + q) (bits .xor .u8 ((frameB x0).getD (L + q) 0) (2 ^ i % 256))) := by
        intro z hz
        rcases List.mem_or_eq_of_mem_set hz with h | h
        · exact hfb z h
        · subst h; exact ⟨hy0, hy1⟩
      have hz : Hid (([] : List Int).length = 0) := rfl
      generalize hxx : (frameB x0).getD (L + q) 0 = x at *
      have HX := Lib.hid hxx
      clear hxx hyne hy0 hy1
      go_enter Try.func12, Try.ntmps12
      go_wp2_with (first
      | (go_at_call 27; refine (frame_form A0 c0 x0 _ hr hb hl hk).mono ?_; rintro e1 W1 ⟨Ap, cp, rfl, ho1, hb1⟩; obtain ⟨g, rfl, hgb⟩ := Own.some_ ho1 (by omega))
      | (go_at_call 17; refine (awake_any _).mono ?_; rintro e1 W3 ⟨rfl, hb3⟩)
      | (go_at_call 16; refine (refPutNil_form _ _ (by omega) (by show _ < _; omega) hL).mono ?_; rintro e1 W4 ⟨Ah, ch, rfl, hch, ho4, hr4, hb4⟩; have hoB := (ho1.below hb3).below hb4; have hca := Own.cellAt hoB (p := L + q) (by rw [hk.out]; exact hqk); rw [HX.out] at hca; have hca1 := hca.1; have hca2 := hca.2; clear hca)
      | (go_at_call 29; refine (unframe_own w.heap.size _ _ _ (Own.store hoB (L + q) (bits .xor .u8 x (2 ^ i % 256))) hfb' (by rw [List.length_set, hk.out]; simp only [maxLen]; omega) hu hz).mono ?_; rintro e1 W5 ⟨Ar, cr, rfl, hr5, hb5⟩))
      go_ret
      exact ⟨rfl, nx ((nx (nx hb1 hb3) hb4).setCell hgb _) hb5⟩
    · by_cases i1 : a1 < 0
      · go_enter Try.func12, Try.ntmps12
        go_wp2_with (first
          | (go_at_call 27; refine (frame_form A0 c0 x0 _ hr hb hl hk).mono ?_; rintro e1 W1 ⟨Ap, cp, rfl, ho1, hb1⟩)
          | (go_at_call 17; refine (awake_any _).mono ?_; rintro e1 W3 ⟨rfl, hb3⟩)
          | (go_at_call 16; refine (refPutNil_form _ _ (by omega) (by show _ < _; omega) hL).mono ?_; rintro e1 W4 ⟨Ah, ch, rfl, hch, ho4, hr4, hb4⟩))
        go_ret
        exact ⟨rfl, nx (nx hb1 hb3) hb4⟩
      · by_cases i2 : (k : Int) - (L : Int) ≤ a1
        · go_enter Try.func12, Try.ntmps12
          go_wp2_with (first
            | (go_at_call 27; refine (frame_form A0 c0 x0 _ hr hb hl hk).mono ?_; rintro e1 W1 ⟨Ap, cp, rfl, ho1, hb1⟩)
            | (go_at_call 17; refine (awake_any _).mono ?_; rintro e1 W3 ⟨rfl, hb3⟩)
            | (go_at_call 16; refine (refPutNil_form _ _ (by omega) (by show _ < _; omega) hL).mono ?_; rintro e1 W4 ⟨Ah, ch, rfl, hch, ho4, hr4, hb4⟩))
          go_ret
          exact ⟨rfl, nx (nx hb1 hb3) hb4⟩
        · by_cases i3 : a2 < 0
          · go_enter Try.func12, Try.ntmps12
            go_wp2_with (first
              | (go_at_call 27; refine (frame_form A0 c0 x0 _ hr hb hl hk).mono ?_; rintro e1 W1 ⟨Ap, cp, rfl, ho1, hb1⟩)
              | (go_at_call 17; refine (awake_any _).mono ?_; rintro e1 W3 ⟨rfl, hb3⟩)
              | (go_at_call 16; refine (refPutNil_form _ _ (by omega) (by show _ < _; omega) hL).mono ?_; rintro e1 W4 ⟨Ah, ch, rfl, hch, ho4, hr4, hb4⟩))
            go_ret
            exact ⟨rfl, nx (nx hb1 hb3) hb4⟩
          · have i4 : 7 < a2 := by omega
            go_enter Try.func12, Try.ntmps12
            go_wp2_with (first
              | (go_at_call 27; refine (frame_form A0 c0 x0 _ hr hb hl hk).mono ?_; rintro e1 W1 ⟨Ap, cp, rfl, ho1, hb1⟩)
              | (go_at_call 17; refine (awake_any _).mono ?_; rintro e1 W3 ⟨rfl, hb3⟩)
              | (go_at_call 16; refine (refPutNil_form _ _ (by omega) (by show _ < _; omega) hL).mono ?_; rintro e1 W4 ⟨Ah, ch, rfl, hch, ho4, hr4, hb4⟩))
            go_ret
            exact ⟨rfl, nx (nx hb1 hb3) hb4⟩
  · have hl1 : 4096 < x0.length := by omega
    have hl2 : ¬ (x0.length : Int) ≤ 4096 := by omega
    go_enter Try.func12, Try.ntmps12
    go_wp2_with (first
      | (go_at_call 27; refine (frame_no A0 c0 x0 _ hl1).mono ?_; rintro e1 W1 ⟨rfl, rfl⟩)
      | (go_at_call 17; refine (awake_any _).mono ?_; rintro e1 W3 ⟨rfl, hb3⟩)
      | (go_at_call 16; refine (refPutNil_form _ _ (by omega) (by show _ < _; omega) hL).mono ?_; rintro e1 W4 ⟨Ah, ch, rfl, hch, ho4, hr4, hb4⟩))
    go_ret
    exact ⟨rfl, nx hb3 hb4⟩
end Go.Proofs.Ytodoiobhphahcaa
