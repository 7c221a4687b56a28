/- LexerPads walked. -/
import Derived.Test.YtgigibdnhpachaaDoorLawake
import Derived.Test.YtgigibdnhpachaaDoorLdig
namespace Go.Proofs.YtgigibdnhpachaaDoor
set_option linter.unusedVariables false
set_option linter.unusedSimpArgs false
open Go.RowKit
open Go.Sort (grow)
theorem conv_one (W : World) (b : Nat) (x : Int) (h : W.cell? ⟨b, 0, none⟩ = some (.int .u8 x)) :
    (convert 33 9 (.slice (some ⟨b, 0, none⟩) 1 1)).run Tryd.prog W = .ok (.string (strOfNums [x])) W :=
  run_convert_bytes_arg W 33 5 Tryd.underlying33 Tryd.underlying5 b 0 1 1 [x] rfl (fun i hi => by
    obtain rfl : i = 0 := by simpa using hi
    simpa using h) 9 Tryd.underlying9
theorem toks_at {s : ByteArray} : ∀ {l : List T4} {i : Nat}, Toks s i l → ∀ t ∈ l, 0 ≤ t.2.2.2 ∧ t.2.2.2 ≤ (s.size : Int)
  | [], i, h, t, ht => by cases ht
  | u :: r, i, h, t, ht => by
    obtain ⟨a, h1, h2, h3, h4⟩ := h
    rcases List.mem_cons.1 ht with rfl | ht
    · rcases h4 with ⟨_, rfl, rfl⟩ | ⟨_, _, k, u', n, q, _, rfl, _⟩ <;> simp <;> omega
    · rcases h4 with ⟨rfl, _, _⟩ | ⟨_, _, k, u', n, q, _, _, h5⟩
      · cases ht
      · exact toks_at h5 t ht
theorem lex_pos : ∀ (f i : Nat) (l : List UInt8) (j : Nat) (e : Int), l.length ≤ f → lexL i l = .no j e → j ≤ i + l.length
  | f, i, [], j, e, _, h => by rw [lexL_nil] at h; cases h
  | 0, i, c :: r, j, e, hl, _ => by simp at hl
  | f + 1, i, c :: r, j, e, hl, h => by
    simp only [List.length_cons] at hl ⊢
    cases ht : tk1 (c.toNat : Int) (c :: r) with
    | sp =>
      have hs : lexL i (c :: r) = lexL (i + 1) r := by
        unfold lexL
        rw [List.length_cons]
        simp only [lexF, ht]
      rw [hs] at h
      have := lex_pos f (i + 1) r j e (by omega) h
      omega
    | bad e1 =>
      rw [lexL_bad ht] at h
      injection h with h _
      omega
    | tok k t m q =>
      have hq := tk1_len ht
      simp only [List.length_cons] at hq
      rw [lexL_tok ht] at h
      cases h2 : lexL (i + q) ((c :: r).drop q) with
      | ok y => rw [h2] at h; cases h
      | no i2 e2 =>
        rw [h2] at h
        injection h with h3 h4
        subst h3
        have := lex_pos f _ _ _ _ (by simp; omega) h2
        simp at this
        omega
/-- What is known of an answer. -/
theorem lexR_facts {s : ByteArray} (hs : s.size ≤ 1024) {x : List T4} {a e : Int} (h : lexR s = (x, a, e)) :
    0 ≤ a ∧ a ≤ 1024 ∧ (∀ t ∈ x, 0 ≤ t.2.2.2 ∧ t.2.2.2 ≤ 1024) := by
  unfold lexR at h
  rw [if_neg (by omega)] at h
  cases hl : lexAt s 0 with
  | ok l =>
    rw [hl] at h
    simp only [lexA, Prod.mk.injEq] at h
    obtain ⟨rfl, rfl, rfl⟩ := h
    refine ⟨by omega, by omega, fun t ht => ?_⟩
    have := toks_at (toks_lex hl) t ht
    omega
  | no i m =>
    rw [hl] at h
    simp only [lexA, Prod.mk.injEq] at h
    obtain ⟨rfl, rfl, rfl⟩ := h
    have := lex_pos _ _ _ _ _ (Nat.le_refl _) hl
    have e : (s.data.toList.drop 0).length = s.size := by simp
    exact ⟨by omega, by omega, fun t ht => by cases ht⟩
theorem neTok_no (k u h : Int) (s : ByteArray) (w : World) : (binOp .neq 32 (tk k s u h) (tk k s u h)).run Tryd.prog w = .ok (.bool false) w := by
  rw [neTok, eqS_self]
  simp
set_option maxHeartbeats 4000000 in
set_option maxRecDepth 8000 in
theorem LexerPads_walk (s0 : ByteArray) (a1 : Int) (w : World) (hV : VX w) (w0 : s0.size ≤ 140737488351232) (w1 : (Lit.int .i64 a1).wf = true) :
    Calls Tryd.prog 6 #[.string s0, .int .i64 a1] w fun e w' => e = .returned (.bool true) ∧ Below w.heap.size w w' := by
  have HV := Lib.hid hV
  clear hV w0 w1
  by_cases hout : a1 < 0 ∨ 50 < a1 ∨ 974 < (s0.size : Int)
  · have hc : a1 < 0 ∨ (¬ a1 < 0 ∧ 50 < a1) ∨ (¬ a1 < 0 ∧ ¬ 50 < a1 ∧ 974 < (s0.size : Int)) := by omega
    clear hout
    rcases hc with h | ⟨h, h2⟩ | ⟨h, h2, h3⟩
    all_goals (
      go_enter Tryd.func6, Tryd.ntmps6
      go_wp2_with (first
        | (go_at_call 11; refine (awake_any _ HV.out).mono ?_; rintro e W1 ⟨rfl, hb1⟩; have HB1 := Lib.hid hb1; clear hb1))
      go_ret
      exact ⟨rfl, HB1.out⟩)
  · obtain ⟨n, rfl⟩ := Int.eq_ofNat_of_zero_le (show 0 ≤ a1 by omega)
    have hn : n ≤ 50 := by omega
    have hsz : s0.size ≤ 974 := by omega
    have hlz : s0.data.toList.length = s0.size := by simp
    have HLZ := Lib.hid hlz
    clear hlz
    obtain ⟨x, a, e, hx⟩ : ∃ x a e, Hid (lexR s0 = (x, a, e)) := ⟨_, _, _, rfl⟩
    clear hout
    have cv9 : ∀ (W : World) (b : Nat), W.cell? ⟨b, 0, none⟩ = some (.int .u8 9) → (convert 33 9 (.slice (some ⟨b, 0, none⟩) 1 1)).run Tryd.prog W = .ok (.string ⟨#[9]⟩) W := fun W b h => conv_one W b 9 h
    have cv10 : ∀ (W : World) (b : Nat), W.cell? ⟨b, 0, none⟩ = some (.int .u8 10) → (convert 33 9 (.slice (some ⟨b, 0, none⟩) 1 1)).run Tryd.prog W = .ok (.string ⟨#[10]⟩) W := fun W b h => conv_one W b 10 h
    have cv13 : ∀ (W : World) (b : Nat), W.cell? ⟨b, 0, none⟩ = some (.int .u8 13) → (convert 33 9 (.slice (some ⟨b, 0, none⟩) 1 1)).run Tryd.prog W = .ok (.string ⟨#[13]⟩) W := fun W b h => conv_one W b 13 h
    have cv32 : ∀ (W : World) (b : Nat), W.cell? ⟨b, 0, none⟩ = some (.int .u8 32) → (convert 33 9 (.slice (some ⟨b, 0, none⟩) 1 1)).run Tryd.prog W = .ok (.string ⟨#[32]⟩) W := fun W b h => conv_one W b 32 h
    go_enter Tryd.func6, Tryd.ntmps6
    go_wp2
    go_loopw [5, 6] (fun V q wr => ∃ (j : Nat) (T : ByteArray) (p : List UInt8), V = .string T ∧ q = .int .i64 j ∧ j ≤ n ∧ Hid (p.length = j ∧ T.data.toList = p ++ s0.data.toList ∧ ∀ c ∈ p, spc (c.toNat : Int) = true) ∧ Hid (Below w.heap.size w wr)) (fun _ q _ => n - (intOf q).toNat)
    case atStart => exact ⟨0, s0, [], rfl, rfl, by omega, ⟨rfl, rfl, fun c hc => by cases hc⟩, Below.refl _ _⟩
    case round =>
      obtain ⟨j, T, p, rfl, rfl, hjn, hT, hB⟩ := hrel
      have hTz : T.size ≤ 1024 := by
        have h1 : T.data.toList.length = T.size := by simp
        have h2 := HLZ.out
        rw [hT.out.2.1, List.length_append, h2, hT.out.1] at h1
        omega
      by_cases hj : (j : Int) < (n : Int)
      · obtain ⟨m, hm⟩ : ∃ m, Hid (j % 4 = m) := ⟨_, rfl⟩
        have e0 : (j : Int) % 4 = (m : Int) := by have := hm.out; omega
        have hm4 : m = 0 ∨ m = 1 ∨ m = 2 ∨ m = 3 := by have := hm.out; omega
        have step : ∀ c : UInt8, spc (c.toNat : Int) = true → Hid ((c :: p).length = j + 1 ∧ ((⟨#[c]⟩ : ByteArray) ++ T).data.toList = c :: p ++ s0.data.toList ∧ ∀ d ∈ c :: p, spc (d.toNat : Int) = true) := fun c hc =>
          ⟨by rw [List.length_cons, hT.out.1], by rw [ba_app, hT.out.2.1]; rfl, fun d hd => by
            rcases List.mem_cons.1 hd with rfl | hd
            · exact hc
            · exact hT.out.2.2 d hd⟩
        have Step := Lib.hid step
        have e9 : ∀ c : UInt8, ¬ 9223372036854775807 < (⟨#[c]⟩ : ByteArray).size + T.size := fun c => by
          have h0 : (⟨#[c]⟩ : ByteArray).size = 1 := rfl
          rw [h0]; omega
        have e9a := e9 9
        have e9b := e9 10
        have e9c := e9 13
        have e9d := e9 32
        clear step e9 hm
        rcases hm4 with rfl | rfl | rfl | rfl
        · go_wp2
          go_roundw
          case rel => exact ⟨j + 1, _, _, rfl, by go_num, by omega, Step.out 9 (by decide), nxA (nxA hB.out _) _⟩
          case measure => simp [intOf]; omega
        · go_wp2
          go_roundw
          case rel => exact ⟨j + 1, _, _, rfl, by go_num, by omega, Step.out 10 (by decide), nxA (nxA hB.out _) _⟩
          case measure => simp [intOf]; omega
        · go_wp2
          go_roundw
          case rel => exact ⟨j + 1, _, _, rfl, by go_num, by omega, Step.out 13 (by decide), nxA (nxA hB.out _) _⟩
          case measure => simp [intOf]; omega
        · go_wp2
          go_roundw
          case rel => exact ⟨j + 1, _, _, rfl, by go_num, by omega, Step.out 32 (by decide), nxA (nxA hB.out _) _⟩
          case measure => simp [intOf]; omega
      · obtain rfl : j = n := by omega
        have hfx := lexR_facts (by omega) hx.out
        have hpd := lexR_pads hT.out.2.1 hT.out.2.2 (by omega) hTz
        rw [hx.out, hT.out.1] at hpd
        simp only at hpd
        have ha1 := hfx.1
        have ha2 := hfx.2.1
        have hat := Lib.hid hfx.2.2
        have ew : IntKind.i64.wrap (a + (j : Int)) = a + (j : Int) := by rw [IntKind.wrap_i64]; omega
        clear hfx
        by_cases he : e = 0
        · subst he
          rw [if_pos rfl] at hpd
          have hy := Lib.hid hpd.1
          clear hpd cv9 cv10 cv13 cv32
          obtain ⟨y, hyx⟩ : ∃ y, Hid (x.map (mv j) = y) := ⟨_, rfl⟩
          rw [hyx.out] at hy
          obtain ⟨N, hN⟩ : ∃ N, Hid (x.length = N) := ⟨_, rfl⟩
          have hNy : Hid (y.length = N) := by show _ = _; rw [← hyx.out, List.length_map]; exact hN.out
          go_wp2_with (first
            | (go_at_call 9; (with_reducible refine (tokens_is s0 _ (HV.out.below hB.out) hx).mono ?_); rintro e W1 ⟨A1, m1, c1, rfl, hr1, hb1⟩; obtain rfl : m1 = N := hr1.len.symm.trans hN.out; have hbig := hr1.big; have HR1 := Lib.hid hr1; have HB1 := Lib.hid (nx hB.out hb1); clear hr1 hb1)
            | (go_at_call 9; (with_reducible refine (tokens_is T _ (HV.out.below HB1.out) hy).mono ?_); rintro e W2 ⟨A2, m2, c2, rfl, hr2, hb2⟩; obtain rfl : m2 = m1 := hr2.len.symm.trans hNy.out; have HR2 := Lib.hid hr2; have HR3 := Lib.hid (HR1.out.below hb2); have HB2 := Lib.hid (nx HB1.out hb2); clear hr2 hb2)
            | (go_at_call 11; refine (awake_any _ (HV.out.below HB2.out)).mono ?_; rintro e W3 ⟨rfl, hb3⟩; have HR4 := Lib.hid (HR2.out.below hb3); have HR5 := Lib.hid (HR3.out.below hb3); have HB3 := Lib.hid (nx HB2.out hb3); clear hb3))
          go_loopw [13] (fun q wr' => ∃ (k : Nat), k ≤ m2 ∧ q = .int .i64 k ∧ Hid (Below W3.heap.size W3 wr')) (fun q _ => m2 - (intOf q).toNat)
          case atStart => exact ⟨0, by omega, rfl, Below.refl _ _⟩
          case round =>
            obtain ⟨k, hk, rfl, hB4⟩ := hrel
            by_cases hkl : (k : Int) < (m2 : Int)
            · obtain ⟨g, o, k1, s1, u1, h1, rfl, hg, hxx, c1, c2, c3, c4⟩ := (HR5.out.rd.below hB4.out).at_ (i := k) (by have := HR5.out.len; omega)
              obtain ⟨g', o', k1', s1', u1', h1', rfl, hg', hyy, d1, d2, d3, d4⟩ := (HR4.out.rd.below hB4.out).at_ (i := k) (by have := HR4.out.len; omega)
              have hrel : (k1', s1', u1', h1') = (k1, s1, u1, h1 + (j : Int)) := by
                have h2 := hyy.out
                rw [← hyx.out] at h2
                have hkx : k < x.length := by have := HR5.out.len; omega
                have h3 := hxx.out
                rw [List.getD_eq_getElem?_getD, List.getElem?_eq_getElem hkx] at h3
                rw [List.getD_eq_getElem?_getD, List.getElem?_map, List.getElem?_eq_getElem hkx] at h2
                simp only [Option.getD_some, Option.map_some] at h2 h3
                rw [h3] at h2
                exact h2.symm
              simp only [Prod.mk.injEq] at hrel
              obtain ⟨rfl, rfl, rfl, rfl⟩ := hrel
              have hbd : 0 ≤ h1 ∧ h1 ≤ 1024 := by
                have hkx : k < x.length := by have := HR5.out.len; omega
                have h3 := hxx.out
                rw [List.getD_eq_getElem?_getD, List.getElem?_eq_getElem hkx] at h3
                simp only [Option.getD_some] at h3
                have := hat.out _ (List.getElem_mem hkx)
                rw [h3] at this
                exact this
              have eh : IntKind.i64.wrap (h1 + (j : Int)) = h1 + (j : Int) := by rw [IntKind.wrap_i64]; omega
              have hne := fun W => neTok_no k1' u1' (h1 + (j : Int)) s1' W
              go_wp2
              go_quiet (fail)
              go_wp2
              go_roundw
              case rel => exact ⟨k + 1, by omega, by go_num, (nxA hB4.out _).trans ((below_drewN _ _).mono (nxA hB4.out _).size)⟩
              case measure => simp [intOf]; omega
            · go_wp2
              go_ret
              exact ⟨rfl, nx HB3.out hB4.out⟩
        · have hx0 : x = [] := by
            rcases hpd.2 with h0 | h0
            · exact absurd h0 he
            · exact h0
          subst hx0
          rw [if_neg he] at hpd
          have hy := Lib.hid hpd.1
          have he1 : (e != 0) = true := by rw [bne_iff_ne]; exact he
          have he2 : (e == 0) = false := by rw [beq_eq_false_iff_ne]; exact he
          have hnil : ([] : List T4).map (mv j) = [] := rfl
          rw [hnil] at hy
          clear hpd cv9 cv10 cv13 cv32 hat hnil he
          go_wp2_with (first
            | (go_at_call 9; (with_reducible refine (tokens_is s0 _ (HV.out.below hB.out) hx).mono ?_); rintro e W1 ⟨A1, m1, c1, rfl, hr1, hb1⟩; obtain rfl : m1 = 0 := hr1.len.symm; have HB1 := Lib.hid (nx hB.out hb1); clear hr1 hb1)
            | (go_at_call 9; (with_reducible refine (tokens_is T _ (HV.out.below HB1.out) hy).mono ?_); rintro e W2 ⟨A2, m2, c2, rfl, hr2, hb2⟩; obtain rfl : m2 = 0 := hr2.len.symm; have HB2 := Lib.hid (nx HB1.out hb2); clear hr2 hb2)
            | (go_at_call 11; refine (awake_any _ (HV.out.below HB2.out)).mono ?_; rintro e W3 ⟨rfl, hb3⟩; have HB3 := Lib.hid (nx HB2.out hb3); clear hb3))
          go_loopw [13] (fun q wr' => q = .int .i64 0 ∧ Hid (W3 = wr')) (fun q _ => 0)
          case atStart => exact ⟨rfl, rfl⟩
          case round =>
            obtain ⟨rfl, hw⟩ := hrel
            have hw' := hw.out
            subst hw'
            go_wp2
            go_ret
            exact ⟨rfl, HB3.out⟩
end Go.Proofs.YtgigibdnhpachaaDoor
