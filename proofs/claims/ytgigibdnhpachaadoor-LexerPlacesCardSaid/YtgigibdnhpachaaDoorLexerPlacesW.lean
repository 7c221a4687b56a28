/- LexerPlaces walked. -/
import Derived.Test.YtgigibdnhpachaaDoorLawake
import Derived.Test.YtgigibdnhpachaaDoorLref
import Derived.Test.YtgigibdnhpachaaDoorLtok
import Derived.Test.YtgigibdnhpachaaDoorLexb
namespace Go.Proofs.YtgigibdnhpachaaDoor
set_option linter.unusedVariables false
set_option linter.unusedSimpArgs false
open Go.RowKit
/-- What the tokens of a text say of their places. -/
theorem toks_place {s : ByteArray} : ∀ {l : List T4} {i : Nat}, Toks s i l → l ≠ [] ∧ (∃ a : Nat, i ≤ a ∧ a ≤ s.size ∧ (l.getD 0 default).2.2.2 = (a : Int)) ∧
    (∀ k, k + 1 < l.length → (l.getD k default).1 ≠ 5 ∧ ∃ a b : Nat, (l.getD k default).2.2.2 = (a : Int) ∧ (l.getD (k + 1) default).2.2.2 = (b : Int) ∧ a < b ∧ b ≤ s.size ∧
      ((l.getD k default).1 = 1 → 1 ≤ (l.getD k default).2.1.size ∧ (l.getD k default).2.1.size ≤ 12 ∧ a + (l.getD k default).2.1.size ≤ s.size ∧ cutB s a (a + (l.getD k default).2.1.size) = (l.getD k default).2.1)) ∧
    l.getD (l.length - 1) default = (5, mkB [], 0, (s.size : Int))
  | [], i, h => by cases h
  | t :: r, i, h => by
    obtain ⟨a, h1, h2, h3, h4⟩ := h
    rcases h4 with ⟨rfl, rfl, rfl⟩ | ⟨hlt, hsp, k, u, n, q, ht, rfl, hr⟩
    · exact ⟨by simp, ⟨_, h1, h2, rfl⟩, fun k hk => by simp at hk, rfl⟩
    · obtain ⟨g1, ⟨b, g2, g3, g4⟩, g5, g6⟩ := toks_place hr
      obtain ⟨q1, q2⟩ := tkAt_len hlt ht
      obtain ⟨_, _, w1, w2⟩ := tk_again hlt ht
      refine ⟨by simp, ⟨a, h1, h2, rfl⟩, fun m hm => ?_, ?_⟩
      · cases m with
        | zero =>
          refine ⟨w1, a, b, rfl, ?_, by omega, g3, fun hk => ?_⟩
          · simpa using g4
          · obtain ⟨z1, z2, z3, z4⟩ := w2 hk
            simp only [List.getD_cons_zero, mkB_size]
            refine ⟨z1, z2, z4, ?_⟩
            unfold cutB
            rw [show a + u.length - a = u.length by omega, z3]
        | succ m =>
          have := g5 m (by simpa using hm)
          simpa using this
      · rw [List.length_cons]
        have : 0 < r.length := List.length_pos_iff.2 g1
        obtain ⟨m, hm⟩ : ∃ m, r.length = m + 1 := ⟨r.length - 1, by omega⟩
        rw [hm] at g6 ⊢
        simpa using g6
theorem eqTok_self (k u h : Int) (s : ByteArray) (w : World) : (binOp .eql 32 (tk k s u h) (tk k s u h)).run Tryd.prog w = .ok (.bool true) w := by
  rw [eqTok, eqS_self]
  simp
theorem lexR_zero {s : ByteArray} {x : List T4} {a : Int} (h : lexR s = (x, a, 0)) : s.size ≤ 1024 ∧ lexAt s 0 = .ok x := by
  unfold lexR at h
  split at h
  · simp only [Prod.mk.injEq] at h
    exact absurd h.2.2 (by decide)
  · cases hl : lexAt s 0 with
    | ok l =>
      rw [hl] at h
      simp only [lexA, Prod.mk.injEq] at h
      rw [h.1]
      exact ⟨by omega, rfl⟩
    | no i e =>
      rw [hl] at h
      simp only [lexA, Prod.mk.injEq] at h
      have := lex_err _ 0 _ _ _ (Nat.le_refl _) hl
      omega
theorem lexR_err {s : ByteArray} {x : List T4} {a e : Int} (h : lexR s = (x, a, e)) (he : e ≠ 0) : x = [] := by
  unfold lexR at h
  split at h
  · simp only [Prod.mk.injEq] at h
    exact h.1.symm
  · cases hl : lexAt s 0 with
    | ok l =>
      rw [hl] at h
      simp only [lexA, Prod.mk.injEq] at h
      exact absurd h.2.2.symm he
    | no i e =>
      rw [hl] at h
      simp only [lexA, Prod.mk.injEq] at h
      exact h.1.symm
set_option maxHeartbeats 4000000 in
set_option maxRecDepth 8000 in
theorem LexerPlaces_walk (s0 : ByteArray) (w : World) (hV : VX w) (w0 : s0.size ≤ 140737488351232) :
    Calls Tryd.prog 7 #[.string s0] w fun e w' => e = .returned (.bool true) ∧ Below w.heap.size w w' := by
  have HV := Lib.hid hV
  clear hV w0
  obtain ⟨x, a, e, hx⟩ : ∃ x a e, Hid (lexR s0 = (x, a, e)) := ⟨_, _, _, rfl⟩
  by_cases he : e = 0
  · subst he
    obtain ⟨hs, hl⟩ := lexR_zero hx.out
    have hp := toks_place (toks_lex hl)
    have hx1 : 1 ≤ x.length := List.length_pos_iff.2 hp.1
    have HP := Lib.hid hp
    obtain ⟨N, hN⟩ : ∃ N, Hid (x.length = N) := ⟨_, rfl⟩
    have hN1 : 1 ≤ N := by rw [← hN.out]; exact hx1
    clear hl hp hx1
    go_enter Tryd.func7, Tryd.ntmps7
    go_wp2_with (first
      | (go_at_call 9; refine (tokens_is _ _ HV.out hx).mono ?_; rintro e W1 ⟨A1, m1, c1, rfl, hr1, hb1⟩; obtain rfl : m1 = N := hr1.len.symm.trans hN.out; have hbig := hr1.big; have HR1 := Lib.hid hr1; have HB1 := Lib.hid hb1; clear hr1 hb1))
    go_loopw [9] (fun q wr => ∃ (k : Nat), k + 1 ≤ m1 ∧ q = .int .i64 k ∧ Hid (Below W1.heap.size W1 wr)) (fun q _ => m1 - (intOf q).toNat)
    case atStart => exact ⟨0, by omega, rfl, Below.refl _ _⟩
    case round =>
      obtain ⟨k, hk, rfl, hB⟩ := hrel
      have e5 : IntKind.i64.wrap ((k : Int) + 1) = (k : Int) + 1 := by rw [IntKind.wrap_i64]; omega
      by_cases hlt : (k : Int) + 1 < (m1 : Int)
      · obtain ⟨g, o, k1, s1, u1, h1, rfl, hg, hxx, c1, c2, c3, c4⟩ := (HR1.out.rd.below hB.out).at_ (i := k) (by have := HR1.out.len; omega)
        obtain ⟨g', o', k2, s2, u2, h2, hA, hg', hyy, d1, d2, d3, d4⟩ := (HR1.out.rd.below hB.out).at_ (i := k + 1) (by have := HR1.out.len; omega)
        obtain ⟨rfl, rfl⟩ : g = g' ∧ o = o' := by simpa using hA
        clear hA
        have hq := HP.out.2.2.1 k (by have := hN.out; omega)
        rw [hxx.out, hyy.out] at hq
        simp only at hq
        obtain ⟨hk5, p, r, rfl, rfl, hpr, hrs, hkind⟩ := hq
        have hk5b : (k1 == 5) = false := by rw [beq_eq_false_iff_ne]; exact hk5
        have f1 : decide ((p : Int) < 0) = false := decide_eq_false (by omega)
        have f2 : decide (r ≤ p) = false := decide_eq_false (by omega)
        have f8 : IntKind.i64.wrap ((s0.size : Int) - (p : Int)) = (s0.size : Int) - (p : Int) := by rw [IntKind.wrap_i64]; omega
        by_cases hk1 : k1 = 1
        · subst hk1
          obtain ⟨z1, z2, z3, z4⟩ := hkind rfl
          have f3 : decide ((s1.size : Int) < 1) = false := decide_eq_false (by omega)
          have f4 : decide (12 < (s1.size : Int)) = false := decide_eq_false (by omega)
          have f5 : decide ((s0.size : Int) - (p : Int) < (s1.size : Int)) = false := decide_eq_false (by omega)
          have f6 : IntKind.i64.wrap ((p : Int) + (s1.size : Int)) = (p : Int) + (s1.size : Int) := by rw [IntKind.wrap_i64]; omega
          have hsl0 := hsl_is s0 (i := p) (q := p + s1.size) (by omega) z3 (show Hid (cutB s0 p (p + s1.size) = s1) from z4)
          have hsl : ∀ W : World, (Instr.slice 9 (.string s0) (some (.int .i64 (p : Int))) (some (.int .i64 ((p : Int) + (s1.size : Int)))) none).run Tryd.prog W = .ok (.string s1) W := fun W => by
            have := hsl0 W
            rwa [Int.natCast_add] at this
          have f7 : (s1.toList != s1.toList) = false := by simp
          clear hkind z1 z2 z3 z4 hsl0 hk5
          go_wp2
          try simp only [List.append]
          refine wp_region_quiet_pairs (by kernel_rfl) (by kernel_rfl) (by kernel_rfl) ?_
          repeat (go_big_quiet_step (fail))
          refine wpQuiet_nil ?_
          intro _ hw'
          obtain ⟨nq, hw''⟩ := hw'
          subst hw''
          go_wp2
          go_roundw
          case rel => exact ⟨k + 1, by omega, by go_num, hB.out.trans ((below_drewN _ _).mono hB.out.size)⟩
          case measure => simp [intOf]; omega
        · have hk1b : (k1 == 1) = false := by rw [beq_eq_false_iff_ne]; exact hk1
          clear hkind hk5 hk1
          go_wp2
          try simp only [List.append]
          refine wp_region_quiet_pairs (by kernel_rfl) (by kernel_rfl) (by kernel_rfl) ?_
          repeat (go_big_quiet_step (fail))
          refine wpQuiet_nil ?_
          intro _ hw'
          obtain ⟨nq, hw''⟩ := hw'
          subst hw''
          go_wp2
          go_roundw
          case rel => exact ⟨k + 1, by omega, by go_num, hB.out.trans ((below_drewN _ _).mono hB.out.size)⟩
          case measure => simp [intOf]; omega
      · obtain rfl : m1 = k + 1 := by omega
        have hq := HP.out.2.2.2
        rw [hN.out, show k + 1 - 1 = k by omega] at hq
        have HQ : Hid (x.getD k default = (5, ⟨#[]⟩, 0, (s0.size : Int))) := hq
        have e6 : IntKind.i64.wrap (((k + 1 : Nat) : Int) - 1) = (k : Int) := by rw [IntKind.wrap_i64]; omega
        have e7 : IntKind.i64.wrap ((k : Int) + 1 - 1) = (k : Int) := by rw [IntKind.wrap_i64]; omega
        have e8 : IntKind.i64.wrap (k : Int) = (k : Int) := by rw [IntKind.wrap_i64]; omega
        have e9 : (k : Int) < (k : Int) + 1 := by omega
        have heq := fun W => eqTok_self 5 0 (s0.size : Int) ⟨#[]⟩ W
        clear hq
        go_wp2_with (first
          | (go_at_call 11; refine (awake_any _ (HV.out.below (nx HB1.out hB.out))).mono ?_; rintro e W3 ⟨rfl, hb3⟩; have HB3 := Lib.hid (nx (nx HB1.out hB.out) hb3); obtain ⟨g, o, k1, s1, u1, h1, rfl, hg, hxx, c1, c2, c3, c4⟩ := ((HR1.out.rd.below hB.out).below hb3).at_ (i := k) (by have := HR1.out.len; omega); have hq := HQ.out; rw [hxx.out] at hq; simp only [Prod.mk.injEq] at hq; obtain ⟨rfl, rfl, rfl, rfl⟩ := hq; clear hb3))
        go_ret
        exact ⟨by simp, HB3.out⟩
  · have hx0 := lexR_err hx.out he
    subst hx0
    have he1 : (e != 0) = true := by rw [bne_iff_ne]; exact he
    have he2 : (e == 0) = false := by rw [beq_eq_false_iff_ne]; exact he
    clear he
    go_enter Tryd.func7, Tryd.ntmps7
    go_wp2_with (first
      | (go_at_call 9; refine (tokens_is _ _ HV.out hx).mono ?_; rintro e W1 ⟨A1, m1, c1, rfl, hr1, hb1⟩; obtain rfl : m1 = 0 := hr1.len.symm; have HB1 := Lib.hid hb1; clear hr1 hb1)
      | (go_at_call 10; refine (refTokens_is _ _ hx).mono ?_; rintro e W2 ⟨A2, m2, c2, rfl, hr2, hb2⟩; have HB2 := Lib.hid (nx HB1.out hb2); clear hr2 hb2)
      | (go_at_call 11; refine (awake_any _ (HV.out.below HB2.out)).mono ?_; rintro e W3 ⟨rfl, hb3⟩; have HB3 := Lib.hid (nx HB2.out hb3); clear hb3))
    go_ret
    exact ⟨by simp, HB3.out⟩
end Go.Proofs.YtgigibdnhpachaaDoor
