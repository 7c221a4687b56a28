/- Contracts: the scanner's digits and next. -/
import Derived.Test.YtlokcmbkkfjlkaaGreatDoorLscn
namespace Go.Proofs.YtlokcmbkkfjlkaaGreatDoor
open Go.RowKit
open Go.Sort (grow)
set_option linter.unusedVariables false
set_option linter.unusedSimpArgs false

theorem byt_head {s : ByteArray} (h : 1 ≤ s.size) : byt s 0 = 48 ↔ s.data.toList.head? = some 48 := by
  have hl : 0 < s.data.toList.length := by simp; omega
  unfold byt
  rw [List.getD_eq_getElem?_getD, List.head?_eq_getElem?, List.getElem?_eq_getElem hl]
  simp only [Option.getD_some, Option.some.injEq]
  constructor
  · intro e
    apply UInt8.toNat_inj.1
    have : (48 : UInt8).toNat = 48 := rfl
    omega
  · intro e
    rw [e]
    rfl
set_option maxHeartbeats 1000000 in
set_option maxRecDepth 8000 in
theorem digs_ok (b base : Nat) (s : ByteArray) (i st : Nat) (acc : List T4) (w : World) (hS : Sc w b base s i st acc) (hi : i ≤ s.size) (hs : s.size ≤ 1024) (hlen : Hid (acc.length ≤ 2000)) {k : Nat} (hk : Hid (i + tw dig (s.data.toList.drop i) = k)) {v : Int}
    (hv : Hid (Lib.atoiAll (cutB s i k).data.toList = .ok v)) (h4 : (cutB s i k).size ≤ 4) (h1 : 1 ≤ (cutB s i k).size) (h0 : 1 < (cutB s i k).size → byt (cutB s i k) 0 ≠ 48) :
    Calls Tryz.prog 105 #[.pointer (some ⟨b, 0, none⟩)] w fun e w' => e = .returned (.int .i64 0) ∧ Sc w' b base s k st (acc ++ [(3, mkB [], v, (st : Int))]) ∧ Below b w w' := by
  have HS := Lib.hid hS
  obtain ⟨T, hT⟩ : ∃ T, Hid (cutB s i k = T) := ⟨_, rfl⟩
  rw [hT.out] at h4 h1 h0
  have hp : Hid (Lib.atoiAll T.data.toList = .ok v) := by show _ = _; rw [← hT.out]; exact hv.out
  have hz : ¬ 4 < (T.size : Int) := by omega
  have jt := byt_at T 0 (by omega)
  clear hS hv
  have he : mkB [] = ⟨#[]⟩ := rfl
  rw [he]
  clear he
  by_cases h1c : 1 < (T.size : Int)
  · have hb : (byt T 0 == 48) = false := by rw [beq_eq_false_iff_ne]; exact h0 (by omega)
    clear h0
    go_enter Tryz.func105, Tryz.ntmps105
    go_wp2_with (first
      | (go_at_call 79; refine (run_sc dig _ b base s i st acc _ HS.out hi hs egDig HKd hk hT).mono ?_; rintro e W1 ⟨rfl, hs1, hb1⟩; have HS1 := Lib.hid hs1; have HB1 := Lib.hid hb1; clear hs1 hb1)
      | (go_at_call 119; refine (atoi_ok T (by omega) _ hp).mono ?_; rintro e W2 ⟨rfl, hb2⟩; have HB2 := Lib.hid hb2; clear hb2)
      | (go_at_call 82; refine (add_is b base s k st acc _ (HS1.out.up HB2.out) hlen _ _ _).mono ?_; rintro e W3 ⟨rfl, hs2, hb2⟩; have HS2 := Lib.hid hs2; have HB3 := Lib.hid hb2; clear hs2 hb2))
    go_ret
    exact ⟨rfl, HS2.out, (HB1.out.trans (HB2.out.mono (Nat.le_of_lt HS1.out.lt))).trans HB3.out⟩
  · clear h0
    go_enter Tryz.func105, Tryz.ntmps105
    go_wp2_with (first
      | (go_at_call 79; refine (run_sc dig _ b base s i st acc _ HS.out hi hs egDig HKd hk hT).mono ?_; rintro e W1 ⟨rfl, hs1, hb1⟩; have HS1 := Lib.hid hs1; have HB1 := Lib.hid hb1; clear hs1 hb1)
      | (go_at_call 119; refine (atoi_ok T (by omega) _ hp).mono ?_; rintro e W2 ⟨rfl, hb2⟩; have HB2 := Lib.hid hb2; clear hb2)
      | (go_at_call 82; refine (add_is b base s k st acc _ (HS1.out.up HB2.out) hlen _ _ _).mono ?_; rintro e W3 ⟨rfl, hs2, hb2⟩; have HS2 := Lib.hid hs2; have HB3 := Lib.hid hb2; clear hs2 hb2))
    go_ret
    exact ⟨rfl, HS2.out, (HB1.out.trans (HB2.out.mono (Nat.le_of_lt HS1.out.lt))).trans HB3.out⟩
set_option maxHeartbeats 1000000 in
set_option maxRecDepth 8000 in
theorem digs_bad (b base : Nat) (s : ByteArray) (i st : Nat) (acc : List T4) (w : World) (hV : VB b w) (hS : Sc w b base s i st acc) (hi : i ≤ s.size) (hs : s.size ≤ 1024) {k : Nat} (hk : Hid (i + tw dig (s.data.toList.drop i) = k))
    (h1 : 1 ≤ (cutB s i k).size) (h0 : 4 < (cutB s i k).size ∨ 1 < (cutB s i k).size ∧ byt (cutB s i k) 0 = 48) :
    Calls Tryz.prog 105 #[.pointer (some ⟨b, 0, none⟩)] w fun e w' => e = .returned (.int .i64 8) ∧ Sc w' b base s k st acc ∧ Below b w w' := by
  have HS := Lib.hid hS
  have HV := Lib.hid hV
  have hsz : (cutB s i k).size ≤ 1024 := by rw [cutB_size (by have := hk.out; omega) (by have := hk.out; have := tw_size dig hi; omega)]; have := hk.out; have := tw_size dig hi; omega
  obtain ⟨T, hT⟩ : ∃ T, Hid (cutB s i k = T) := ⟨_, rfl⟩
  rw [hT.out] at h1 h0 hsz
  have jt := byt_at T 0 (by omega)
  clear hS hV
  by_cases ha : ∃ u, Lib.atoiAll T.data.toList = .ok u
  · obtain ⟨u, hu0⟩ := ha
    have hp := Lib.hid hu0
    clear hu0
    by_cases h4 : 4 < (T.size : Int)
    · clear h0
      go_enter Tryz.func105, Tryz.ntmps105
      go_wp2_with (first
        | (go_at_call 79; refine (run_sc dig _ b base s i st acc _ HS.out hi hs egDig HKd hk hT).mono ?_; rintro e W1 ⟨rfl, hs1, hb1⟩; have HS1 := Lib.hid hs1; have HB1 := Lib.hid hb1; clear hs1 hb1)
        | (go_at_call 119; refine (atoi_ok T (by omega) _ hp).mono ?_; rintro e W2 ⟨rfl, hb2⟩; have HB2 := Lib.hid hb2; clear hb2))
      go_ret
      exact ⟨rfl, HS1.out.up HB2.out, HB1.out.trans (HB2.out.mono (Nat.le_of_lt HS1.out.lt))⟩
    · have h1c : 1 < (T.size : Int) := by omega
      have hb : (byt T 0 == 48) = true := by rw [beq_iff_eq]; omega
      clear h0
      go_enter Tryz.func105, Tryz.ntmps105
      go_wp2_with (first
        | (go_at_call 79; refine (run_sc dig _ b base s i st acc _ HS.out hi hs egDig HKd hk hT).mono ?_; rintro e W1 ⟨rfl, hs1, hb1⟩; have HS1 := Lib.hid hs1; have HB1 := Lib.hid hb1; clear hs1 hb1)
        | (go_at_call 119; refine (atoi_ok T (by omega) _ hp).mono ?_; rintro e W2 ⟨rfl, hb2⟩; have HB2 := Lib.hid hb2; clear hb2))
      go_ret
      exact ⟨rfl, HS1.out.up HB2.out, HB1.out.trans (HB2.out.mono (Nat.le_of_lt HS1.out.lt))⟩
  · have hp : Hid (∀ u, ¬ Lib.atoiAll T.data.toList = .ok u) := fun u hu => ha ⟨u, hu⟩
    clear ha h0
    go_enter Tryz.func105, Tryz.ntmps105
    go_wp2_with (first
      | (go_at_call 79; refine (run_sc dig _ b base s i st acc _ HS.out hi hs egDig HKd hk hT).mono ?_; rintro e W1 ⟨rfl, hs1, hb1⟩; have HS1 := Lib.hid hs1; have HB1 := Lib.hid hb1; clear hs1 hb1)
      | (go_at_call 119; refine (atoi_bad T (by omega) _ (HV.out.below HB1.out).here hp).mono ?_; rintro e W2 ⟨m, q, rfl, hb2⟩; have HB2 := Lib.hid hb2; clear hb2))
    go_ret
    exact ⟨rfl, HS1.out.up HB2.out, HB1.out.trans (HB2.out.mono (Nat.le_of_lt HS1.out.lt))⟩

/-- One token at a place that is no space: the ways. -/
theorem tk_cases {s : ByteArray} {i : Nat} (h : i < s.size) (hsp : spc (byt s i) = false) :
    (ltr (byt s i) = true ∧ 12 < tw prt (s.data.toList.drop i) ∧ tkAt s i = .bad 9) ∨
    (ltr (byt s i) = true ∧ tw prt (s.data.toList.drop i) ≤ 12 ∧ tkAt s i = .tok 1 ((s.data.toList.drop i).take (tw prt (s.data.toList.drop i))) 0 (tw prt (s.data.toList.drop i))) ∨
    (ltr (byt s i) = false ∧ cpl (byt s i) = true ∧ mdL ((s.data.toList.drop i).take (tw cpl (s.data.toList.drop i))) = 0 ∧ tkAt s i = .bad 8) ∨
    (ltr (byt s i) = false ∧ cpl (byt s i) = true ∧ 1 ≤ mdL ((s.data.toList.drop i).take (tw cpl (s.data.toList.drop i))) ∧ tkAt s i = .tok 2 ((s.data.toList.drop i).take (tw cpl (s.data.toList.drop i))) (mdL ((s.data.toList.drop i).take (tw cpl (s.data.toList.drop i)))) (tw cpl (s.data.toList.drop i))) ∨
    (ltr (byt s i) = false ∧ cpl (byt s i) = false ∧ dig (byt s i) = true ∧ numO ((s.data.toList.drop i).take (tw dig (s.data.toList.drop i))) = none ∧ tkAt s i = .bad 8) ∨
    (ltr (byt s i) = false ∧ cpl (byt s i) = false ∧ dig (byt s i) = true ∧ ∃ v : Nat, numO ((s.data.toList.drop i).take (tw dig (s.data.toList.drop i))) = some v ∧ tkAt s i = .tok 3 [] v (tw dig (s.data.toList.drop i))) ∨
    (ltr (byt s i) = false ∧ cpl (byt s i) = false ∧ dig (byt s i) = false ∧ pun (byt s i) = true ∧ tkAt s i = .tok 4 ((s.data.toList.drop i).take 1) 0 1) ∨
    (ltr (byt s i) = false ∧ cpl (byt s i) = false ∧ dig (byt s i) = false ∧ pun (byt s i) = false ∧ tkAt s i = .bad 8) := by
  have hm := mdL_nn ((s.data.toList.drop i).take (tw cpl (s.data.toList.drop i)))
  unfold tkAt tk1
  rw [if_neg (by simp [hsp])]
  cases h1 : ltr (byt s i) with
  | true =>
    rw [if_pos rfl]
    by_cases h2 : 12 < tw prt (s.data.toList.drop i)
    · exact .inl ⟨rfl, h2, by rw [if_pos h2]⟩
    · exact .inr (.inl ⟨rfl, by omega, by rw [if_neg h2]⟩)
  | false =>
    rw [if_neg (by simp)]
    right; right
    cases h2 : cpl (byt s i) with
    | true =>
      rw [if_pos rfl]
      by_cases h3 : mdL ((s.data.toList.drop i).take (tw cpl (s.data.toList.drop i))) = 0
      · exact .inl ⟨rfl, rfl, h3, by rw [if_pos h3]⟩
      · exact .inr (.inl ⟨rfl, rfl, by omega, by rw [if_neg h3]⟩)
    | false =>
      rw [if_neg (by simp)]
      right; right
      cases h3 : dig (byt s i) with
      | true =>
        rw [if_pos rfl]
        cases h4 : numO ((s.data.toList.drop i).take (tw dig (s.data.toList.drop i))) with
        | none => exact .inl ⟨rfl, rfl, rfl, rfl, rfl⟩
        | some v => exact .inr (.inl ⟨rfl, rfl, rfl, v, rfl, rfl⟩)
      | false =>
        rw [if_neg (by simp)]
        right; right
        cases h4 : pun (byt s i) with
        | true => exact .inl ⟨rfl, rfl, rfl, rfl, by rw [if_pos rfl]⟩
        | false => exact .inr ⟨rfl, rfl, rfl, rfl, by rw [if_neg (by simp)]⟩
theorem tw_all {p : Int → Bool} {s : ByteArray} {i : Nat} : ∀ c ∈ (s.data.toList.drop i).take (tw p (s.data.toList.drop i)), p (c.toNat : Int) = true := tw_mem
theorem tw_take_len {p : Int → Bool} (l : List UInt8) : (l.take (tw p l)).length = tw p l := by
  have := tw_le p l
  rw [List.length_take]
  omega
end Go.Proofs.YtlokcmbkkfjlkaaGreatDoor
