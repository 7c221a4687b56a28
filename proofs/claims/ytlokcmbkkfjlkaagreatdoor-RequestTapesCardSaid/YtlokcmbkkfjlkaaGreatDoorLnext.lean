/- Contract: the scanner's next. -/
import Derived.Test.YtlokcmbkkfjlkaaGreatDoorLnx
namespace Go.Proofs.YtlokcmbkkfjlkaaGreatDoor
open Go.RowKit
open Go.Sort (grow)
set_option linter.unusedVariables false
set_option linter.unusedSimpArgs false

theorem one_sc (b base : Nat) (s : ByteArray) (i st : Nat) (acc : List T4) (w : World) (hS : Sc w b base s i st acc) (hi : i < s.size) (hs : s.size ≤ 1024) :
    Calls Tryz.prog 107 #[.pointer (some ⟨b, 0, none⟩)] w fun e w' => e = .returned (.string (cutB s i (i + 1))) ∧ Sc w' b base s (i + 1) st acc ∧ Below b w w' := by
  obtain ⟨h1, h2, V, h3, h4⟩ := hS
  exact (one_is b s i st V w h3 hi hs).mono fun e w' ⟨he, hw, hf⟩ => ⟨he, ⟨h1, Nat.le_trans h2 hf.size, V, hw, h4.frm hf h1⟩, hf.below (by omega)⟩
theorem cutB_one {s : ByteArray} {i : Nat} : cutB s i (i + 1) = mkB ((s.data.toList.drop i).take 1) := by
  unfold cutB
  rw [show i + 1 - i = 1 by omega]
/-- The number of a run of digits. -/
theorem cut_digs {s : ByteArray} {i k : Nat} (h : i < s.size) (h3 : dig (byt s i) = true) (hk : Hid (i + tw dig (s.data.toList.drop i) = k)) :
    1 ≤ (cutB s i k).size ∧ (cutB s i k).data.toList = (s.data.toList.drop i).take (tw dig (s.data.toList.drop i)) := by
  refine ⟨?_, ?_⟩
  · rw [cutB_size (by have := hk.out; omega) (by have := hk.out; have := tw_size dig (Nat.le_of_lt h); omega)]
    have := hk.out
    have := tw_here h h3
    omega
  · rw [cutB_tw hk, mkB_data]
set_option maxHeartbeats 4000000 in
set_option maxRecDepth 8000 in
theorem next_ok (b base : Nat) (s : ByteArray) (i : Nat) (acc : List T4) (w : World) (hV : VB b w) (hS : Sc w b base s i i acc) (h : i < s.size) (hs : s.size ≤ 1024) (hlen : Hid (acc.length ≤ 2000)) (hsp : spc (byt s i) = false)
    {k : Int} {t : List UInt8} {n : Int} {q : Nat} (ht : tkAt s i = .tok k t n q) :
    Calls Tryz.prog 83 #[.pointer (some ⟨b, 0, none⟩)] w fun e w' => e = .returned (.int .i64 0) ∧ Sc w' b base s (i + q) i (acc ++ [(k, mkB t, n, (i : Int))]) ∧ Below b w w' := by
  have HS := Lib.hid hS
  have HV := Lib.hid hV
  have hi := Nat.le_of_lt h
  obtain ⟨_, _, V, ⟨_, c0, c1, c2, c3, fz⟩, _⟩ := hS
  clear hV
  rcases tk_cases h hsp with ⟨k1, k2, k3⟩ | ⟨k1, k2, k3⟩ | ⟨k1, k2, k3, k4⟩ | ⟨k1, k2, k3, k4⟩ | ⟨k1, k2, k3, k4, k5⟩ | ⟨k1, k2, k3, v, k4, k5⟩ | ⟨k1, k2, k3, k4, k5⟩ | ⟨k1, k2, k3, k4, k5⟩
  · rw [k3] at ht; cases ht
  · rw [k3] at ht
    injection ht with e1 e2 e3 e4
    subst e1 e2 e3 e4
    have hk : Hid (i + tw prt (s.data.toList.drop i) = i + tw prt (s.data.toList.drop i)) := rfl
    obtain ⟨q, hq⟩ : ∃ q, Hid (i + tw prt (s.data.toList.drop i) = q) := ⟨_, rfl⟩
    have h12 : q - i ≤ 12 := by have := hq.out; omega
    have hc := Lib.hid (cutB_tw hq)
    rw [hq.out, ← hc.out]
    clear k2 k3 hk
    have K1 := Lib.hid k1
    clear k1
    have jy := byt_at s i h
    go_enter Tryz.func83, Tryz.ntmps83
    go_wp2
    go_quiet (fail)
    have HSq := Lib.hid (HS.out.up (below_drewN w nq))
    have HBq := Lib.hid ((below_drewN w nq).mono (B' := b) (Nat.le_of_lt HS.out.lt))
    go_wp2_with (first
      | (go_at_call 100; refine (ltr_is _ _ K1).mono ?_; rintro e WK1 ⟨rfl, rfl⟩)
      | (go_at_call 101; refine (word_ok b base s i i acc _ HSq.out hi hs hlen hq h12).mono ?_; rintro e W5 ⟨rfl, hs1, hb1⟩; have HS1 := Lib.hid hs1; have HB1 := Lib.hid hb1; clear hs1 hb1))
    go_ret
    exact ⟨rfl, HS1.out, HBq.out.trans HB1.out⟩
  · rw [k4] at ht; cases ht
  · rw [k4] at ht
    injection ht with e1 e2 e3 e4
    subst e1 e2 e3 e4
    obtain ⟨q, hq⟩ : ∃ q, Hid (i + tw cpl (s.data.toList.drop i) = q) := ⟨_, rfl⟩
    have hc := Lib.hid (cutB_tw hq)
    obtain ⟨m, hm⟩ : ∃ m, Hid (mdL ((s.data.toList.drop i).take (tw cpl (s.data.toList.drop i))) = m) := ⟨_, rfl⟩
    have hp : Hid (prs (cutB s i q) = m) := by show _ = _; rw [hc.out, prs_mdL]; exact hm.out
    have hm1 : Hid (1 ≤ m) := by have := hm.out; show _ ≤ _; omega
    rw [hq.out, ← hc.out, hm.out]
    clear k3 k4
    have K1 := Lib.hid k1
    have K2 := Lib.hid k2
    clear k1 k2
    have jy := byt_at s i h
    go_enter Tryz.func83, Tryz.ntmps83
    go_wp2
    go_quiet (fail)
    have HSq := Lib.hid (HS.out.up (below_drewN w nq))
    have HBq := Lib.hid ((below_drewN w nq).mono (B' := b) (Nat.le_of_lt HS.out.lt))
    go_wp2_with (first
      | (go_at_call 100; refine (ltr_is _ _ K1).mono ?_; rintro e WK1 ⟨rfl, rfl⟩)
      | (go_at_call 102; refine (cpl_is _ _ K2).mono ?_; rintro e WK2 ⟨rfl, rfl⟩)
      | (go_at_call 103; refine (caps_ok b base s i i acc _ (HV.out.below HBq.out) HSq.out hi hs hlen hq hp hm1).mono ?_; rintro e W5 ⟨rfl, hs1, hb1⟩; have HS1 := Lib.hid hs1; have HB1 := Lib.hid hb1; clear hs1 hb1))
    go_ret
    exact ⟨rfl, HS1.out, HBq.out.trans HB1.out⟩
  · rw [k5] at ht; cases ht
  · rw [k5] at ht
    injection ht with e1 e2 e3 e4
    subst e1 e2 e3 e4
    obtain ⟨q, hq⟩ : ∃ q, Hid (i + tw dig (s.data.toList.drop i) = q) := ⟨_, rfl⟩
    obtain ⟨z1, z2⟩ := cut_digs h k3 hq
    have hlz : (cutB s i q).data.toList.length = (cutB s i q).size := by simp
    have hna : ∃ v' : Nat, numO (cutB s i q).data.toList = some v' ∧ v' < 10000 ∧ Lib.atoiAll (cutB s i q).data.toList = .ok (v' : Int) ∧ (cutB s i q).data.toList.length ≤ 4 ∧ (1 < (cutB s i q).data.toList.length → (cutB s i q).data.toList.head? ≠ some 48) := by
      rcases numO_cases (l := (cutB s i q).data.toList) (by rw [z2]; exact tw_all) (by omega) with hh | ⟨hh, _⟩
      · exact hh
      · rw [z2, k4] at hh; cases hh
    obtain ⟨v', n1, _, n3, n4, n5⟩ := hna
    have : v = v' := by rw [z2, k4] at n1; injection n1
    subst this
    have hv := Lib.hid n3
    have h4 : (cutB s i q).size ≤ 4 := by omega
    have h0 : 1 < (cutB s i q).size → byt (cutB s i q) 0 ≠ 48 := fun hh => by
      have := n5 (by omega)
      rwa [ne_eq, ← byt_head z1] at this
    have H0 := Lib.hid h0
    rw [hq.out]
    clear k4 k5 z2 n1 n3 n4 n5 hlz h0
    have K1 := Lib.hid k1
    have K2 := Lib.hid k2
    have K3 := Lib.hid k3
    clear k1 k2 k3
    have jy := byt_at s i h
    go_enter Tryz.func83, Tryz.ntmps83
    go_wp2
    go_quiet (fail)
    have HSq := Lib.hid (HS.out.up (below_drewN w nq))
    have HBq := Lib.hid ((below_drewN w nq).mono (B' := b) (Nat.le_of_lt HS.out.lt))
    go_wp2_with (first
      | (go_at_call 100; refine (ltr_is _ _ K1).mono ?_; rintro e WK1 ⟨rfl, rfl⟩)
      | (go_at_call 102; refine (cpl_is _ _ K2).mono ?_; rintro e WK2 ⟨rfl, rfl⟩)
      | (go_at_call 104; refine (dig_is _ _ K3).mono ?_; rintro e WK3 ⟨rfl, rfl⟩)
      | (go_at_call 105; refine (digs_ok b base s i i acc _ HSq.out hi hs hlen hq hv h4 z1 H0.out).mono ?_; rintro e W5 ⟨rfl, hs1, hb1⟩; have HS1 := Lib.hid hs1; have HB1 := Lib.hid hb1; clear hs1 hb1))
    go_ret
    exact ⟨rfl, HS1.out, HBq.out.trans HB1.out⟩
  · rw [k5] at ht
    injection ht with e1 e2 e3 e4
    subst e1 e2 e3 e4
    have hc := Lib.hid (cutB_one (s := s) (i := i))
    rw [← hc.out]
    clear k5
    have K1 := Lib.hid k1
    have K2 := Lib.hid k2
    have K3 := Lib.hid k3
    have K4 := Lib.hid k4
    clear k1 k2 k3 k4
    have jy := byt_at s i h
    go_enter Tryz.func83, Tryz.ntmps83
    go_wp2
    go_quiet (fail)
    have HSq := Lib.hid (HS.out.up (below_drewN w nq))
    have HBq := Lib.hid ((below_drewN w nq).mono (B' := b) (Nat.le_of_lt HS.out.lt))
    go_wp2_with (first
      | (go_at_call 100; refine (ltr_is _ _ K1).mono ?_; rintro e WK1 ⟨rfl, rfl⟩)
      | (go_at_call 102; refine (cpl_is _ _ K2).mono ?_; rintro e WK2 ⟨rfl, rfl⟩)
      | (go_at_call 104; refine (dig_is _ _ K3).mono ?_; rintro e WK3 ⟨rfl, rfl⟩)
      | (go_at_call 106; refine (pun_is _ _ K4).mono ?_; rintro e WK4 ⟨rfl, rfl⟩)
      | (go_at_call 107; refine (one_sc b base s i i acc _ HSq.out h hs).mono ?_; rintro e W5 ⟨rfl, hs1, hb1⟩; have HS1 := Lib.hid hs1; have HB1 := Lib.hid hb1; clear hs1 hb1)
      | (go_at_call 82; refine (add_is b base s (i + 1) i acc _ HS1.out hlen _ _ _).mono ?_; rintro e W6 ⟨rfl, hs2, hb2⟩; have HS2 := Lib.hid hs2; have HB2 := Lib.hid hb2; clear hs2 hb2))
    go_ret
    exact ⟨rfl, HS2.out, (HBq.out.trans HB1.out).trans HB2.out⟩
  · rw [k5] at ht; cases ht
set_option maxHeartbeats 4000000 in
set_option maxRecDepth 8000 in
theorem next_bad (b base : Nat) (s : ByteArray) (i : Nat) (acc : List T4) (w : World) (hV : VB b w) (hS : Sc w b base s i i acc) (h : i < s.size) (hs : s.size ≤ 1024) (hsp : spc (byt s i) = false)
    {m : Int} (ht : tkAt s i = .bad m) :
    Calls Tryz.prog 83 #[.pointer (some ⟨b, 0, none⟩)] w fun e w' => e = .returned (.int .i64 m) ∧ (∃ j, Sc w' b base s j i acc) ∧ Below b w w' := by
  have HS := Lib.hid hS
  have HV := Lib.hid hV
  have hi := Nat.le_of_lt h
  obtain ⟨_, _, V, ⟨_, c0, c1, c2, c3, fz⟩, _⟩ := hS
  clear hV
  rcases tk_cases h hsp with ⟨k1, k2, k3⟩ | ⟨k1, k2, k3⟩ | ⟨k1, k2, k3, k4⟩ | ⟨k1, k2, k3, k4⟩ | ⟨k1, k2, k3, k4, k5⟩ | ⟨k1, k2, k3, v, k4, k5⟩ | ⟨k1, k2, k3, k4, k5⟩ | ⟨k1, k2, k3, k4, k5⟩
  · rw [k3] at ht
    injection ht with e1
    subst e1
    obtain ⟨q, hq⟩ : ∃ q, Hid (i + tw prt (s.data.toList.drop i) = q) := ⟨_, rfl⟩
    have h12 : 12 < q - i := by have := hq.out; omega
    clear k2 k3
    have K1 := Lib.hid k1
    clear k1
    have jy := byt_at s i h
    go_enter Tryz.func83, Tryz.ntmps83
    go_wp2
    go_quiet (fail)
    have HSq := Lib.hid (HS.out.up (below_drewN w nq))
    have HBq := Lib.hid ((below_drewN w nq).mono (B' := b) (Nat.le_of_lt HS.out.lt))
    go_wp2_with (first
      | (go_at_call 100; refine (ltr_is _ _ K1).mono ?_; rintro e WK1 ⟨rfl, rfl⟩)
      | (go_at_call 101; refine (word_bad b base s i i acc _ HSq.out hi hs hq h12).mono ?_; rintro e W5 ⟨rfl, hs1, hb1⟩; have HS1 := Lib.hid hs1; have HB1 := Lib.hid hb1; clear hs1 hb1))
    go_ret
    exact ⟨rfl, ⟨_, HS1.out⟩, HBq.out.trans HB1.out⟩
  · rw [k3] at ht; cases ht
  · rw [k4] at ht
    injection ht with e1
    subst e1
    obtain ⟨q, hq⟩ : ∃ q, Hid (i + tw cpl (s.data.toList.drop i) = q) := ⟨_, rfl⟩
    have hc := Lib.hid (cutB_tw hq)
    have hp : Hid (prs (cutB s i q) = 0) := by show _ = _; rw [hc.out, prs_mdL]; exact k3
    clear k3 k4
    have K1 := Lib.hid k1
    have K2 := Lib.hid k2
    clear k1 k2
    have jy := byt_at s i h
    go_enter Tryz.func83, Tryz.ntmps83
    go_wp2
    go_quiet (fail)
    have HSq := Lib.hid (HS.out.up (below_drewN w nq))
    have HBq := Lib.hid ((below_drewN w nq).mono (B' := b) (Nat.le_of_lt HS.out.lt))
    go_wp2_with (first
      | (go_at_call 100; refine (ltr_is _ _ K1).mono ?_; rintro e WK1 ⟨rfl, rfl⟩)
      | (go_at_call 102; refine (cpl_is _ _ K2).mono ?_; rintro e WK2 ⟨rfl, rfl⟩)
      | (go_at_call 103; refine (caps_bad b base s i i acc _ (HV.out.below HBq.out) HSq.out hi hs hq hp).mono ?_; rintro e W5 ⟨rfl, hs1, hb1⟩; have HS1 := Lib.hid hs1; have HB1 := Lib.hid hb1; clear hs1 hb1))
    go_ret
    exact ⟨rfl, ⟨_, HS1.out⟩, HBq.out.trans HB1.out⟩
  · rw [k4] at ht; cases ht
  · rw [k5] at ht
    injection ht with e1
    subst e1
    obtain ⟨q, hq⟩ : ∃ q, Hid (i + tw dig (s.data.toList.drop i) = q) := ⟨_, rfl⟩
    obtain ⟨z1, z2⟩ := cut_digs h k3 hq
    have hlz : (cutB s i q).data.toList.length = (cutB s i q).size := by simp
    have h0 : 4 < (cutB s i q).size ∨ 1 < (cutB s i q).size ∧ byt (cutB s i q) 0 = 48 := by
      rcases numO_cases (l := (cutB s i q).data.toList) (by rw [z2]; exact tw_all) (by omega) with ⟨v, hh, _⟩ | ⟨_, hh⟩
      · rw [z2, k4] at hh; cases hh
      · rw [hlz, ← byt_head z1] at hh; exact hh
    have H0 := Lib.hid h0
    clear k4 k5 z2 hlz h0
    have K1 := Lib.hid k1
    have K2 := Lib.hid k2
    have K3 := Lib.hid k3
    clear k1 k2 k3
    have jy := byt_at s i h
    go_enter Tryz.func83, Tryz.ntmps83
    go_wp2
    go_quiet (fail)
    have HSq := Lib.hid (HS.out.up (below_drewN w nq))
    have HBq := Lib.hid ((below_drewN w nq).mono (B' := b) (Nat.le_of_lt HS.out.lt))
    go_wp2_with (first
      | (go_at_call 100; refine (ltr_is _ _ K1).mono ?_; rintro e WK1 ⟨rfl, rfl⟩)
      | (go_at_call 102; refine (cpl_is _ _ K2).mono ?_; rintro e WK2 ⟨rfl, rfl⟩)
      | (go_at_call 104; refine (dig_is _ _ K3).mono ?_; rintro e WK3 ⟨rfl, rfl⟩)
      | (go_at_call 105; refine (digs_bad b base s i i acc _ (HV.out.below HBq.out) HSq.out hi hs hq z1 H0.out).mono ?_; rintro e W5 ⟨rfl, hs1, hb1⟩; have HS1 := Lib.hid hs1; have HB1 := Lib.hid hb1; clear hs1 hb1))
    go_ret
    exact ⟨rfl, ⟨_, HS1.out⟩, HBq.out.trans HB1.out⟩
  · rw [k5] at ht; cases ht
  · rw [k5] at ht; cases ht
  · rw [k5] at ht
    injection ht with e1
    subst e1
    clear k5
    have K1 := Lib.hid k1
    have K2 := Lib.hid k2
    have K3 := Lib.hid k3
    have K4 := Lib.hid k4
    clear k1 k2 k3 k4
    have jy := byt_at s i h
    go_enter Tryz.func83, Tryz.ntmps83
    go_wp2
    go_quiet (fail)
    have HSq := Lib.hid (HS.out.up (below_drewN w nq))
    have HBq := Lib.hid ((below_drewN w nq).mono (B' := b) (Nat.le_of_lt HS.out.lt))
    go_wp2_with (first
      | (go_at_call 100; refine (ltr_is _ _ K1).mono ?_; rintro e WK1 ⟨rfl, rfl⟩)
      | (go_at_call 102; refine (cpl_is _ _ K2).mono ?_; rintro e WK2 ⟨rfl, rfl⟩)
      | (go_at_call 104; refine (dig_is _ _ K3).mono ?_; rintro e WK3 ⟨rfl, rfl⟩)
      | (go_at_call 106; refine (pun_is _ _ K4).mono ?_; rintro e WK4 ⟨rfl, rfl⟩))
    go_ret
    exact ⟨rfl, ⟨_, HSq.out⟩, HBq.out⟩
end Go.Proofs.YtlokcmbkkfjlkaaGreatDoor
