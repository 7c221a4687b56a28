/- Contracts: the scanner's all; Tokens. -/
import Derived.Test.YtlokcmbkkfjlkaaGreatDoorLnext
namespace Go.Proofs.YtlokcmbkkfjlkaaGreatDoor
open Go.RowKit
open Go.Sort (grow)
set_option linter.unusedVariables false
set_option linter.unusedSimpArgs false

theorem tw_spec (p : Int → Bool) (s : ByteArray) : ∀ (d i : Nat), s.size - i = d → i ≤ s.size → (∀ q, i ≤ q → q < i + tw p (s.data.toList.drop i) → p (byt s q) = true) ∧ (i + tw p (s.data.toList.drop i) < s.size → p (byt s (i + tw p (s.data.toList.drop i))) = false)
  | 0, i, hd, hi => by
    rw [tw_end (by omega)]
    exact ⟨fun q h1 h2 => by omega, fun h => by omega⟩
  | d + 1, i, hd, hi => by
    cases hp : p (byt s i) with
    | false =>
      rw [tw_none (by omega) hp]
      exact ⟨fun q h1 h2 => by omega, fun _ => hp⟩
    | true =>
      obtain ⟨h1, h2⟩ := tw_spec p s d (i + 1) (by omega) (by omega)
      rw [tw_here (by omega) hp]
      refine ⟨fun q h3 h4 => ?_, fun h => ?_⟩
      · by_cases e : q = i
        · subst e; exact hp
        · exact h1 q (by omega) (by omega)
      · rw [show i + (tw p (s.data.toList.drop (i + 1)) + 1) = i + 1 + tw p (s.data.toList.drop (i + 1)) by omega]
        exact h2 (by omega)
theorem Scn.start {w : World} {b : Nat} {s : ByteArray} {i st : Nat} {V : Value} (h : Scn w b s i st V) (j : Nat) : Scn (w.setCell ⟨b, 2, none⟩ (.int .i64 j)) b s i j V := by
  obtain ⟨h0, h1, h2, h3, h4, h5⟩ := h
  refine ⟨by simpa using h0, ?_, ?_, ?_, ?_, fun o => ?_⟩ <;> simp [go_sem, h1, h2, h3, h4, h5]
theorem Sc.start {w : World} {b base : Nat} {s : ByteArray} {i st : Nat} {acc : List T4} (h : Sc w b base s i st acc) (j : Nat) : Sc (w.setCell ⟨b, 2, none⟩ (.int .i64 j)) b base s i j acc := by
  obtain ⟨h1, h2, V, h3, h4⟩ := h
  exact ⟨h1, Nat.le_trans h2 (by simp [World.setCell]), V, h3.start j, h4.frm ((Frm.refl _ _).set _ _) h1⟩
theorem tk_not_sp {s : ByteArray} {i : Nat} (h : i < s.size) (hsp : spc (byt s i) = false) : tkAt s i ≠ .sp := by
  rcases tk_cases h hsp with ⟨_, _, k⟩ | ⟨_, _, k⟩ | ⟨_, _, _, k⟩ | ⟨_, _, _, k⟩ | ⟨_, _, _, _, k⟩ | ⟨_, _, _, _, _, k⟩ | ⟨_, _, _, _, k⟩ | ⟨_, _, _, _, k⟩ <;> rw [k] <;> simp
/-- What is known of the walk over a text at the place i. -/
structure Way (s : ByteArray) (i : Nat) (acc : List T4) : Prop where
  le : i ≤ s.size
  few : acc.length ≤ i
  all : lexAt s 0 = (lexAt s i).put acc
theorem Way.zero (s : ByteArray) : Way s 0 [] := ⟨by omega, by simp, by rw [LR.put_nil]⟩
theorem Way.sps {s : ByteArray} {i : Nat} {acc : List T4} (h : Way s i acc) {j : Nat} (hj : i + tw spc (s.data.toList.drop i) = j) : Way s j acc ∧ (j < s.size → spc (byt s j) = false) := by
  have hz := tw_size spc h.le
  obtain ⟨h1, h2⟩ := tw_spec spc s _ i rfl h.le
  refine ⟨⟨by omega, by have := h.few; omega, ?_⟩, fun hlt => ?_⟩
  · rw [h.all, lex_sps hz h1, hj]
  · rw [← hj] at hlt ⊢
    exact h2 hlt
theorem Way.tok {s : ByteArray} {i : Nat} {acc : List T4} (h : Way s i acc) (hi : i < s.size) {k : Int} {t : List UInt8} {n : Int} {q : Nat} (ht : tkAt s i = .tok k t n q) : Way s (i + q) (acc ++ [(k, mkB t, n, (i : Int))]) := by
  obtain ⟨h1, h2⟩ := tkAt_len hi ht
  refine ⟨h2, by have := h.few; simp; omega, ?_⟩
  rw [h.all, lex_tok hi ht, LR.put_put]
theorem Way.bad {s : ByteArray} {i : Nat} {acc : List T4} (h : Way s i acc) (hi : i < s.size) {e : Int} (ht : tkAt s i = .bad e) : lexAt s 0 = .no i e := by rw [h.all, lex_bad hi ht]; rfl
theorem Way.done {s : ByteArray} {i : Nat} {acc : List T4} (h : Way s i acc) (hi : i = s.size) : lexAt s 0 = .ok (acc ++ [(5, mkB [], 0, (s.size : Int))]) := by subst hi; rw [h.all, lex_end]; rfl
theorem tk_bad_ne {s : ByteArray} {i : Nat} (h : i < s.size) (hsp : spc (byt s i) = false) {e : Int} (ht : tkAt s i = .bad e) : e = 8 ∨ e = 9 := by
  rcases tk_cases h hsp with ⟨_, _, k⟩ | ⟨_, _, k⟩ | ⟨_, _, _, k⟩ | ⟨_, _, _, k⟩ | ⟨_, _, _, _, k⟩ | ⟨_, _, _, _, _, k⟩ | ⟨_, _, _, _, k⟩ | ⟨_, _, _, _, k⟩ <;> rw [k] at ht <;> first | (injection ht with e1; omega) | cases ht
set_option maxHeartbeats 4000000 in
set_option maxRecDepth 8000 in
theorem all_ok (b base : Nat) (s : ByteArray) (w : World) (hV : VB b w) (hS : Sc w b base s 0 0 []) (hs : s.size ≤ 1024) {l : List T4} (hl : Hid (lexAt s 0 = .ok l)) :
    Calls Tryz.prog 55 #[.pointer (some ⟨b, 0, none⟩)] w fun e w' => e = .returned (.int .i64 0) ∧ (∃ j st, Sc w' b base s j st l) ∧ Below b w w' := by
  have HS := Lib.hid hS
  have HV := Lib.hid hV
  clear hS hV
  go_enter Tryz.func55, Tryz.ntmps55
  go_wp2
  go_loopw [3] (fun u wr => ∃ (i st : Nat) (acc : List T4), Hid (Way s i acc) ∧ Hid (Sc wr b base s i st acc) ∧ Hid (Below b w wr)) (fun _ wr => s.size - (match wr.cell? ⟨b, 1, none⟩ with | some v => (intOf v).toNat | _ => 0))
  case atStart => exact ⟨0, 0, [], Way.zero s, HS.out, Below.refl _ _⟩
  case round =>
    obtain ⟨i, st, acc, hW, hS, hB⟩ := hrel
    obtain ⟨j, hj⟩ : ∃ j, Hid (i + tw spc (s.data.toList.drop i) = j) := ⟨_, rfl⟩
    obtain ⟨T, hT⟩ : ∃ T, Hid (cutB s i j = T) := ⟨_, rfl⟩
    obtain ⟨hW2, hsp⟩ := hW.out.sps hj.out
    have HW2 := Lib.hid hW2
    have hi := hW.out.le
    have hm : Hid (wr.cell? ⟨b, 1, none⟩ = some (.int .i64 i)) := by obtain ⟨_, _, V, h3, _⟩ := hS.out; exact h3.c1
    have hij : i ≤ j := by have := hj.out; omega
    by_cases hlt : j < s.size
    · have hsp2 := Lib.hid (hsp hlt)
      have hne : Hid (((j : Int) == (s.size : Int)) = false) := by show _ = _; rw [beq_eq_false_iff_ne]; omega
      clear hsp hW2
      cases ht : tkAt s j with
      | sp => exact absurd ht (tk_not_sp hlt hsp2.out)
      | bad e =>
        have := HW2.out.bad hlt ht
        rw [hl.out] at this
        cases this
      | tok k t n q =>
        have HT := Lib.hid ht
        have HW3 := Lib.hid (HW2.out.tok hlt ht)
        have hq := (tkAt_len hlt ht).1
        have hfew : Hid (acc.length ≤ 2000) := by have := HW2.out.few; show _ ≤ _; omega
        clear ht
        go_wp2_with (first
          | (go_at_call 79; refine (run_sc spc _ b base s i st acc _ hS.out hi hs egSpace HKs hj hT).mono ?_; rintro e W1 ⟨rfl, hs1, hb1⟩; have HS1 := Lib.hid hs1; have HB1 := Lib.hid hb1; have HS2 := Lib.hid (hs1.start j); have HB2 := Lib.hid ((Below.refl b W1).setCell (p := ⟨b, 2, none⟩) (Nat.le_refl _) (.int .i64 j)); obtain ⟨_, _, V1, ⟨g0, c0, c1, c2, c3, fz⟩, _⟩ := hs1; clear hb1)
          | (go_at_call 81; obtain ⟨_, _, V1, sc2, _⟩ := HS2.out; refine (ended_is b s j _ sc2.c0 sc2.c1 hne).mono ?_; rintro e W2 ⟨rfl, n2, rfl⟩; have HS3 := Lib.hid (HS2.out.up (below_drewN _ n2)); have HB3 := Lib.hid (HB2.out.trans ((below_drewN _ n2).mono (B' := b) (Nat.le_of_lt HS2.out.lt))); clear sc2)
          | (go_at_call 83; refine (next_ok b base s j acc _ (HV.out.below ((hB.out.trans HB1.out).trans HB3.out)) HS3.out hlt hs hfew hsp2.out HT.out).mono ?_; rintro e W4 ⟨rfl, hs4, hb4⟩; have HS4 := Lib.hid hs4; have HB4 := Lib.hid hb4; clear hs4 hb4))
        go_roundw
        case rel => exact ⟨j + q, j, _, HW3, HS4, ((hB.out.trans HB1.out).trans HB3.out).trans HB4.out⟩
        case measure =>
          obtain ⟨_, _, V4, h4, _⟩ := HS4.out
          rw [h4.c1, hm.out]
          simp only [intOf, Int.toNat_natCast]
          omega
    · have hjs : j = s.size := by have := hW2.le; omega
      have hne : Hid (((j : Int) == (s.size : Int)) = true) := by show _ = _; rw [beq_iff_eq]; rw [hjs]
      have hfin := hW2.done hjs
      rw [hl.out] at hfin
      injection hfin with hfin
      have HFin := Lib.hid hfin
      have hfew : Hid (acc.length ≤ 2000) := by have := hW2.few; show _ ≤ _; omega
      have HJ := Lib.hid hjs
      clear hsp hW2 hfin hjs
      go_wp2_with (first
        | (go_at_call 79; refine (run_sc spc _ b base s i st acc _ hS.out hi hs egSpace HKs hj hT).mono ?_; rintro e W1 ⟨rfl, hs1, hb1⟩; have HS1 := Lib.hid hs1; have HB1 := Lib.hid hb1; have HS2 := Lib.hid (hs1.start j); have HB2 := Lib.hid ((Below.refl b W1).setCell (p := ⟨b, 2, none⟩) (Nat.le_refl _) (.int .i64 j)); obtain ⟨_, _, V1, ⟨g0, c0, c1, c2, c3, fz⟩, _⟩ := hs1; clear hb1)
        | (go_at_call 81; obtain ⟨_, _, V1, sc2, _⟩ := HS2.out; refine (ended_is b s j _ sc2.c0 sc2.c1 hne).mono ?_; rintro e W2 ⟨rfl, n2, rfl⟩; have HS3 := Lib.hid (HS2.out.up (below_drewN _ n2)); have HB3 := Lib.hid (HB2.out.trans ((below_drewN _ n2).mono (B' := b) (Nat.le_of_lt HS2.out.lt))); clear sc2)
        | (go_at_call 82; refine (add_is b base s j j acc _ HS3.out hfew _ _ _).mono ?_; rintro e W4 ⟨rfl, hs4, hb4⟩; have HS4 := Lib.hid hs4; have HB4 := Lib.hid hb4; clear hs4 hb4))
      go_ret
      refine ⟨rfl, ⟨j, j, ?_⟩, ((hB.out.trans HB1.out).trans HB3.out).trans HB4.out⟩
      rw [HFin.out, ← HJ.out]
      exact HS4.out
set_option maxHeartbeats 4000000 in
set_option maxRecDepth 8000 in
theorem all_bad (b base : Nat) (s : ByteArray) (w : World) (hV : VB b w) (hS : Sc w b base s 0 0 []) (hs : s.size ≤ 1024) {i0 : Nat} {e0 : Int} (hl : Hid (lexAt s 0 = .no i0 e0)) :
    Calls Tryz.prog 55 #[.pointer (some ⟨b, 0, none⟩)] w fun e w' => e = .returned (.int .i64 e0) ∧ (∃ j acc, Sc w' b base s j i0 acc) ∧ Below b w w' := by
  have HS := Lib.hid hS
  have HV := Lib.hid hV
  clear hS hV
  go_enter Tryz.func55, Tryz.ntmps55
  go_wp2
  go_loopw [3] (fun u wr => ∃ (i st : Nat) (acc : List T4), Hid (Way s i acc) ∧ Hid (Sc wr b base s i st acc) ∧ Hid (Below b w wr)) (fun _ wr => s.size - (match wr.cell? ⟨b, 1, none⟩ with | some v => (intOf v).toNat | _ => 0))
  case atStart => exact ⟨0, 0, [], Way.zero s, HS.out, Below.refl _ _⟩
  case round =>
    obtain ⟨i, st, acc, hW, hS, hB⟩ := hrel
    obtain ⟨j, hj⟩ : ∃ j, Hid (i + tw spc (s.data.toList.drop i) = j) := ⟨_, rfl⟩
    obtain ⟨T, hT⟩ : ∃ T, Hid (cutB s i j = T) := ⟨_, rfl⟩
    obtain ⟨hW2, hsp⟩ := hW.out.sps hj.out
    have HW2 := Lib.hid hW2
    have hi := hW.out.le
    have hm : Hid (wr.cell? ⟨b, 1, none⟩ = some (.int .i64 i)) := by obtain ⟨_, _, V, h3, _⟩ := hS.out; exact h3.c1
    have hij : i ≤ j := by have := hj.out; omega
    by_cases hlt : j < s.size
    · have hsp2 := Lib.hid (hsp hlt)
      have hne : Hid (((j : Int) == (s.size : Int)) = false) := by show _ = _; rw [beq_eq_false_iff_ne]; omega
      clear hsp hW2
      cases ht : tkAt s j with
      | sp => exact absurd ht (tk_not_sp hlt hsp2.out)
      | bad e =>
        have hb0 := HW2.out.bad hlt ht
        rw [hl.out] at hb0
        injection hb0 with e1 e2
        have h89 := tk_bad_ne hlt hsp2.out ht
        have HT := Lib.hid ht
        have E1 := Lib.hid e1
        have E2 := Lib.hid e2
        clear ht e1 e2
        rcases h89 with rfl | rfl
        all_goals (
          go_wp2_with (first
            | (go_at_call 79; refine (run_sc spc _ b base s i st acc _ hS.out hi hs egSpace HKs hj hT).mono ?_; rintro e W1 ⟨rfl, hs1, hb1⟩; have HS1 := Lib.hid hs1; have HB1 := Lib.hid hb1; have HS2 := Lib.hid (hs1.start j); have HB2 := Lib.hid ((Below.refl b W1).setCell (p := ⟨b, 2, none⟩) (Nat.le_refl _) (.int .i64 j)); obtain ⟨_, _, V1, ⟨g0, c0, c1, c2, c3, fz⟩, _⟩ := hs1; clear hb1)
            | (go_at_call 81; obtain ⟨_, _, V1, sc2, _⟩ := HS2.out; refine (ended_is b s j _ sc2.c0 sc2.c1 hne).mono ?_; rintro e W2 ⟨rfl, n2, rfl⟩; have HS3 := Lib.hid (HS2.out.up (below_drewN _ n2)); have HB3 := Lib.hid (HB2.out.trans ((below_drewN _ n2).mono (B' := b) (Nat.le_of_lt HS2.out.lt))); clear sc2)
            | (go_at_call 83; refine (next_bad b base s j acc _ (HV.out.below ((hB.out.trans HB1.out).trans HB3.out)) HS3.out hlt hs hsp2.out HT.out).mono ?_; rintro e W4 ⟨rfl, ⟨j4, hs4⟩, hb4⟩; have HS4 := Lib.hid hs4; have HB4 := Lib.hid hb4; clear hs4 hb4))
          go_ret
          exact ⟨by rw [E2.out]; rfl, ⟨j4, acc, by rw [E1.out]; exact HS4.out⟩, ((hB.out.trans HB1.out).trans HB3.out).trans HB4.out⟩)
      | tok k t n q =>
        have HT := Lib.hid ht
        have HW3 := Lib.hid (HW2.out.tok hlt ht)
        have hq := (tkAt_len hlt ht).1
        have hfew : Hid (acc.length ≤ 2000) := by have := HW2.out.few; show _ ≤ _; omega
        clear ht
        go_wp2_with (first
          | (go_at_call 79; refine (run_sc spc _ b base s i st acc _ hS.out hi hs egSpace HKs hj hT).mono ?_; rintro e W1 ⟨rfl, hs1, hb1⟩; have HS1 := Lib.hid hs1; have HB1 := Lib.hid hb1; have HS2 := Lib.hid (hs1.start j); have HB2 := Lib.hid ((Below.refl b W1).setCell (p := ⟨b, 2, none⟩) (Nat.le_refl _) (.int .i64 j)); obtain ⟨_, _, V1, ⟨g0, c0, c1, c2, c3, fz⟩, _⟩ := hs1; clear hb1)
          | (go_at_call 81; obtain ⟨_, _, V1, sc2, _⟩ := HS2.out; refine (ended_is b s j _ sc2.c0 sc2.c1 hne).mono ?_; rintro e W2 ⟨rfl, n2, rfl⟩; have HS3 := Lib.hid (HS2.out.up (below_drewN _ n2)); have HB3 := Lib.hid (HB2.out.trans ((below_drewN _ n2).mono (B' := b) (Nat.le_of_lt HS2.out.lt))); clear sc2)
          | (go_at_call 83; refine (next_ok b base s j acc _ (HV.out.below ((hB.out.trans HB1.out).trans HB3.out)) HS3.out hlt hs hfew hsp2.out HT.out).mono ?_; rintro e W4 ⟨rfl, hs4, hb4⟩; have HS4 := Lib.hid hs4; have HB4 := Lib.hid hb4; clear hs4 hb4))
        go_roundw
        case rel => exact ⟨j + q, j, _, HW3, HS4, ((hB.out.trans HB1.out).trans HB3.out).trans HB4.out⟩
        case measure =>
          obtain ⟨_, _, V4, h4, _⟩ := HS4.out
          rw [h4.c1, hm.out]
          simp only [intOf, Int.toNat_natCast]
          omega
    · have hjs : j = s.size := by have := hW2.le; omega
      have hne : Hid (((j : Int) == (s.size : Int)) = true) := by show _ = _; rw [beq_iff_eq]; rw [hjs]
      have hfin := hW2.done hjs
      rw [hl.out] at hfin
      cases hfin
/-- What a call answers that returns tokens, a place and an error. -/
def LT (x : List T4) (a e : Int) (w : World) (e' : Ending) (w' : World) : Prop := ∃ A m c, e' = .returned (.tuple #[.slice A m c, .int .i64 a, .int .i64 e]) ∧ InT w' A m c x ∧ Below w.heap.size w w'
theorem InT.none (w : World) : InT w none 0 0 [] := ⟨rfl, TRd.nil _ _, Nat.le_refl _, by omega⟩
theorem lex_len : ∀ (n i : Nat) (l : List UInt8) (x : List T4), l.length ≤ n → lexL i l = .ok x → x.length ≤ l.length + 1
  | n, i, [], x, _, h => by
    rw [lexL_nil] at h
    injection h with h
    subst h
    simp
  | 0, i, c :: r, x, hn, _ => by simp at hn
  | n + 1, i, c :: r, x, hn, h => by
    cases ht : tk1 (c.toNat : Int) (c :: r) with
    | sp =>
      have hs : lexL i (c :: r) = lexL (i + 1) r := by
        unfold lexL
        rw [List.length_cons]
        simp only [lexF, ht]
      rw [hs] at h
      have := lex_len n (i + 1) r x (by simpa using hn) h
      simp; omega
    | bad e =>
      rw [lexL_bad ht] at h
      cases h
    | tok k t m q =>
      have hq := (tk1_len ht).1
      rw [lexL_tok ht] at h
      cases h2 : lexL (i + q) ((c :: r).drop q) with
      | no i e => rw [h2] at h; cases h
      | ok y =>
        rw [h2] at h
        injection h with h
        subst h
        have := lex_len n _ _ y (by simp at *; omega) h2
        simp at *
        omega
theorem tk1_bad {c : UInt8} {r : List UInt8} {e : Int} (h : tk1 (c.toNat : Int) (c :: r) = .bad e) : e = 8 ∨ e = 9 := by
  unfold tk1 at h
  split at h
  · cases h
  · split at h
    · split at h
      · injection h with h; omega
      · cases h
    · split at h
      · split at h
        · injection h with h; omega
        · cases h
      · split at h
        · cases hn : numO ((c :: r).take (tw dig (c :: r))) with
          | none => rw [hn] at h; injection h with h; omega
          | some v => rw [hn] at h; cases h
        · split at h
          · cases h
          · injection h with h; omega
theorem lex_err : ∀ (n i : Nat) (l : List UInt8) (j : Nat) (e : Int), l.length ≤ n → lexL i l = .no j e → e = 8 ∨ e = 9
  | n, i, [], j, e, _, h => by
    rw [lexL_nil] at h
    cases h
  | 0, i, c :: r, j, e, hn, _ => by simp at hn
  | n + 1, i, c :: r, j, e, hn, h => by
    cases ht : tk1 (c.toNat : Int) (c :: r) with
    | sp =>
      have hs : lexL i (c :: r) = lexL (i + 1) r := by
        unfold lexL
        rw [List.length_cons]
        simp only [lexF, ht]
      rw [hs] at h
      exact lex_err n (i + 1) r j e (by simpa using hn) h
    | bad e1 =>
      rw [lexL_bad ht] at h
      injection h with _ h
      subst h
      exact tk1_bad ht
    | tok k t m q =>
      have hq := (tk1_len ht).1
      rw [lexL_tok ht] at h
      cases h2 : lexL (i + q) ((c :: r).drop q) with
      | ok y => rw [h2] at h; cases h
      | no i2 e2 =>
        rw [h2] at h
        injection h with h3 h4
        subst h4
        exact lex_err n _ _ _ _ (by simp at *; omega) h2
theorem VX.here {w : World} (h : VX w) (o : Obj) : VB w.heap.size (w.alloc o) := h.all.below (newB w o)
set_option maxHeartbeats 4000000 in
set_option maxRecDepth 8000 in
theorem tokens_is (s : ByteArray) (w : World) (hV : VX w) {x : List T4} {a e : Int} (hr : Hid (lexR s = (x, a, e))) : Calls Tryz.prog 33 #[.string s] w (LT x a e w) := by
  have HV := Lib.hid hV
  clear hV
  by_cases h : 1024 < (s.size : Int)
  · have hx := hr.out
    unfold lexR at hx
    rw [if_pos (by omega)] at hx
    simp only [Prod.mk.injEq] at hx
    obtain ⟨rfl, rfl, rfl⟩ := hx
    clear hr
    go_enter Tryz.func33, Tryz.ntmps33
    go_wp2
    exact bodyPost_ret (v := .tuple #[.slice none 0 0, .int .i64 0, .int .i64 3]) (by simp [results, Tryz.results33, go_sem]) rfl ⟨_, _, _, rfl, InT.none _, Below.refl _ _⟩
  · have hs : s.size ≤ 1024 := by omega
    have hx := hr.out
    unfold lexR at hx
    rw [if_neg (by omega)] at hx
    clear hr
    have HS0 : ∀ T, Sc (w.alloc (.cells #[.string s, .int .i64 0, .int .i64 0, .slice none 0 0] T)) w.heap.size (w.heap.size + 1) s 0 0 [] := fun T =>
      ⟨by omega, by simp, .slice none 0 0, ⟨by simp, by simp, by simp, by simp, by simp, fun o => by simp⟩, OwnT.nil _ _⟩
    have HS0 := Lib.hid HS0
    cases hl : lexAt s 0 with
    | ok l =>
      rw [hl] at hx
      simp only [lexA, Prod.mk.injEq] at hx
      obtain ⟨rfl, rfl, rfl⟩ := hx
      have HL := Lib.hid hl
      clear hl
      go_enter Tryz.func33, Tryz.ntmps33
      go_wp2_with (first
        | (go_at_call 55; refine (all_ok w.heap.size (w.heap.size + 1) s _ (HV.out.here _) (HS0.out _) hs HL).mono ?_; rintro e W1 ⟨rfl, ⟨j, st, hs1⟩, hb1⟩; have HB1 := Lib.hid ((newB w _).trans hb1); obtain ⟨_, _, V1, ⟨g0, c0, c1, c2, c3, fz⟩, ho⟩ := hs1; obtain ⟨A, c, rfl, hfit, hrd, _⟩ := ho.form; have HR := Lib.hid hrd; clear hb1 ho))
      have hz := lex_len _ 0 _ l (Nat.le_refl _) HL.out
      have e : (s.data.toList.drop 0).length = s.size := by simp
      exact bodyPost_ret (v := .tuple #[.slice A l.length c, .int .i64 0, .int .i64 0]) (by simp [results, Tryz.results33, go_sem]) rfl ⟨_, _, _, rfl, ⟨rfl, HR.out, hfit, by omega⟩, HB1.out⟩
    | no i0 e0 =>
      rw [hl] at hx
      simp only [lexA, Prod.mk.injEq] at hx
      obtain ⟨rfl, rfl, rfl⟩ := hx
      have h89 := lex_err _ 0 _ _ _ (Nat.le_refl _) hl
      have HL := Lib.hid hl
      clear hl
      rcases h89 with rfl | rfl
      all_goals (
        go_enter Tryz.func33, Tryz.ntmps33
        go_wp2_with (first
          | (go_at_call 55; refine (all_bad w.heap.size (w.heap.size + 1) s _ (HV.out.here _) (HS0.out _) hs HL).mono ?_; rintro e W1 ⟨rfl, ⟨j, acc, hs1⟩, hb1⟩; have HB1 := Lib.hid ((newB w _).trans hb1); obtain ⟨_, _, V1, ⟨g0, c0, c1, c2, c3, fz⟩, _⟩ := hs1; clear hb1))
        go_quiet (fail)
        go_wp2
        first
          | exact bodyPost_ret (v := .tuple #[.slice none 0 0, .int .i64 (i0 : Int), .int .i64 8]) (by simp [results, Tryz.results33, go_sem]) rfl ⟨_, _, _, rfl, InT.none _, HB1.out.trans ((below_drewN _ _).mono (Nat.le_of_lt g0))⟩
          | exact bodyPost_ret (v := .tuple #[.slice none 0 0, .int .i64 (i0 : Int), .int .i64 9]) (by simp [results, Tryz.results33, go_sem]) rfl ⟨_, _, _, rfl, InT.none _, HB1.out.trans ((below_drewN _ _).mono (Nat.le_of_lt g0))⟩)
end Go.Proofs.YtlokcmbkkfjlkaaGreatDoor
