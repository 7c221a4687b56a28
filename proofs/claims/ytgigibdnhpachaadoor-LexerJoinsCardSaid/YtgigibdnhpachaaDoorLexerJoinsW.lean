/- LexerJoins walked. -/
import Derived.Test.YtgigibdnhpachaaDoorLtext
import Derived.Test.YtgigibdnhpachaaDoorLexerPlacesW
namespace Go.Proofs.YtgigibdnhpachaaDoor
set_option linter.unusedVariables false
set_option linter.unusedSimpArgs false
open Go.RowKit
open Go.Sort (grow)
/-- The ends of the tokens: where the bytes of each end. -/
theorem toks_ends {s : ByteArray} : ∀ {l : List T4} {i : Nat}, Toks s i l → ∀ k, k + 1 < l.length → ∃ a b : Nat, (l.getD k default).2.2.2 = (a : Int) ∧ (l.getD (k + 1) default).2.2.2 = (b : Int) ∧ a < b ∧ b ≤ s.size ∧ a < trimE s a b
  | [], i, h, k, hk => by cases h
  | t :: r, i, h, k, hk => by
    have h0 := h
    obtain ⟨a, h1, h2, h3, h4⟩ := h
    rcases h4 with ⟨rfl, rfl, rfl⟩ | ⟨hlt, hsp, k', u, n, q, ht, rfl, hr⟩
    · simp at hk
    · cases k with
      | succ k =>
        have := toks_ends hr k (by simpa using hk)
        simpa using this
      | zero =>
        obtain ⟨⟨t2, r2, rfl, b, hb, hb1, hb2, hb3⟩, _⟩ := lex_jn hr
        obtain ⟨q1, q2⟩ := tkAt_len hlt ht
        obtain ⟨w1, _, _, _⟩ := tk_again hlt ht
        have hlast : spc (byt s (a + q - 1)) = false := by
          obtain ⟨c, hc, hcb⟩ := byt_drop (s := s) (i := a + q - 1) (by omega)
          rw [← hcb]
          refine w1 c ?_
          have h0 : (s.data.toList.drop a)[q - 1]? = some c := by
            rw [List.getElem?_drop, show a + (q - 1) = a + q - 1 by omega]
            have : (s.data.toList.drop (a + q - 1))[0]? = some c := by rw [hc]; rfl
            rw [List.getElem?_drop, Nat.add_zero] at this
            exact this
          have h5 : ((s.data.toList.drop a).take q)[q - 1]? = some c := by rw [List.getElem?_take, if_pos (by omega)]; exact h0
          exact List.mem_of_getElem? h5
        have htr : trimE s a b = a + q := trimE_is (by omega) hlast (b - (a + q)) b (by omega) hb3
        exact ⟨a, b, rfl, by simpa using hb, by omega, hb2, by omega⟩
/-- The answer for the joined text. -/
theorem lexR_jn {s t : ByteArray} {x : List T4} (hx : Toks s 0 x) (ht : t.data.toList = jnT s x) (h : t.size ≤ 1024) : ∃ m, lexR t = (m, 0, 0) ∧ Sam x m := by
  obtain ⟨m, h1, h2⟩ := (lex_jn hx).2 0
  refine ⟨m, ?_, h2⟩
  unfold lexR
  rw [if_neg (by omega)]
  unfold lexAt
  rw [List.drop_zero, ht, h1]
  rfl
set_option maxHeartbeats 4000000 in
set_option maxRecDepth 8000 in
theorem LexerJoins_walk (s0 : ByteArray) (w : World) (hV : VX w) (w0 : s0.size ≤ 140737488351232) :
    Calls Tryd.prog 5 #[.string s0] w fun e w' => e = .returned (.bool true) ∧ Below w.heap.size w w' := by
  have HV := Lib.hid hV
  clear hV w0
  obtain ⟨x, a, e, hx⟩ : ∃ x a e, Hid (lexR s0 = (x, a, e)) := ⟨_, _, _, rfl⟩
  obtain ⟨N, hN⟩ : ∃ N, Hid (x.length = N) := ⟨_, rfl⟩
  by_cases he : e = 0
  · subst he
    obtain ⟨hs, hl⟩ := lexR_zero hx.out
    have htk := Lib.hid (toks_lex hl)
    have hx1 : 1 ≤ x.length := List.length_pos_iff.2 (toks_place htk.out).1
    have hx2 : x.length ≤ s0.size + 1 := by
      have := lex_len _ 0 _ x (Nat.le_refl _) hl
      simpa using this
    have hN1 : 1 ≤ N ∧ N ≤ 1025 := by have := hN.out; omega
    clear hl hx1 hx2
    go_enter Tryd.func5, Tryd.ntmps5
    go_wp2_with (first
      | (go_at_call 9; refine (tokens_is _ _ HV.out hx).mono ?_; rintro e W1 ⟨A1, m1, c1, rfl, hr1, hb1⟩; obtain rfl : m1 = N := hr1.len.symm.trans hN.out; have HR1 := Lib.hid hr1; have HB1 := Lib.hid hb1; clear hr1 hb1)
      | (go_at_call 10; refine (refTokens_is _ _ hx).mono ?_; rintro e W2 ⟨A2, m2, c2, rfl, hr2, hb2⟩; obtain rfl : m2 = m1 := hr2.len.symm.trans hN.out; have HR2 := Lib.hid hr2; have HR3 := Lib.hid (HR1.out.below hb2); have HB2 := Lib.hid (nx HB1.out hb2); clear hr2 hb2)
      | (go_at_call 11; refine (awake_any _ (HV.out.below HB2.out)).mono ?_; rintro e W3 ⟨rfl, hb3⟩; have HR4 := Lib.hid (HR2.out.below hb3); have HR5 := Lib.hid (HR3.out.below hb3); have HB3 := Lib.hid (nx HB2.out hb3); clear hb3)
      | (go_at_call 12; refine (same_yes _ _ _ _ _ _ _ _ HR5.out HR4.out).mono ?_; rintro e W4 ⟨rfl, hb4⟩; have HR6 := Lib.hid (HR5.out.below hb4); have HB4 := Lib.hid (nx HB3.out hb4); clear hb4))
    go_loopw [9, 10] (fun V q wr => ∃ (k : Nat) (T : ByteArray), V = .string T ∧ q = .int .i64 k ∧ k + 1 ≤ m2 ∧ Hid (T.data.toList = jnT s0 (x.take (k + 1))) ∧ T.size ≤ k * 1025 ∧ Hid (Below W4.heap.size W4 wr)) (fun _ q _ => m2 - (intOf q).toNat)
    case atStart => exact ⟨0, ⟨#[]⟩, rfl, rfl, by omega, (by
      show _ = _
      have h1 := (toks_place htk.out).1
      cases hx0 : x with
      | nil => exact absurd hx0 h1
      | cons t r => simp [jnT]), by simp [ByteArray.size], Below.refl _ _⟩
    case round =>
      obtain ⟨k, T, rfl, rfl, hk, hT, hTz, hB⟩ := hrel
      have e5 : IntKind.i64.wrap ((k : Int) + 1) = (k : Int) + 1 := by rw [IntKind.wrap_i64]; omega
      by_cases hlt : (k : Int) + 1 < (m2 : Int)
      · obtain ⟨p, r, hp, hr, hpr, hrs, hE⟩ := toks_ends htk.out k (by have := hN.out; omega)
        have HP := Lib.hid hp
        have HRr := Lib.hid hr
        have HE := Lib.hid hE
        obtain ⟨U, hU⟩ : ∃ U, Hid (mkB (src s0 p r) = U) := ⟨_, rfl⟩
        have hUz : U.size ≤ 1024 := by have := src_len (s := s0) (a := p) (b := r); rw [← hU.out, mkB_size]; omega
        have hT2 : Hid ((T ++ U ++ (⟨#[32]⟩ : ByteArray)).data.toList = jnT s0 (x.take (k + 1 + 1))) := by
          show _ = _
          rw [jnT_take (by have := hN.out; omega), ba_app, ba_app, hT.out, ← hU.out, mkB_data, hp, hr]
          simp
        have e7 : ¬ 9223372036854775807 < T.size + U.size := by omega
        have h32 : (⟨#[32]⟩ : ByteArray).size = 1 := rfl
        have e8 : ¬ 9223372036854775807 < (T ++ U).size + (⟨#[32]⟩ : ByteArray).size := by rw [ba_app_size, h32]; omega
        have hz2 : (T ++ U ++ (⟨#[32]⟩ : ByteArray)).size ≤ (k + 1) * 1025 := by rw [ba_app_size, ba_app_size, h32]; omega
        clear hp hr hE h32
        go_wp2_with (first
          | (go_at_call 15; refine (text_is s0 _ _ _ x k _ (HR6.out.below hB.out) (by omega) hs HP HRr hpr hrs HE hU).mono ?_; rintro e W5 ⟨rfl, hb5⟩; have HB5 := Lib.hid (hB.out.trans (hb5.mono hB.out.size)); clear hb5))
        go_roundw
        case rel => exact ⟨k + 1, _, rfl, by go_num, by omega, hT2, hz2, HB5⟩
        case measure => simp [intOf]; omega
      · obtain rfl : m2 = k + 1 := by omega
        have hfull : T.data.toList = jnT s0 x := by rw [hT.out, List.take_of_length_le (by have := hN.out; omega)]
        by_cases hbig : 1024 < (T.size : Int)
        · go_wp2
          go_ret
          exact ⟨rfl, nx HB4.out hB.out⟩
        · obtain ⟨y, hy0, hsam⟩ := lexR_jn htk.out hfull (by omega)
          have hy := Lib.hid hy0
          have HSam := Lib.hid hsam
          have hNy : Hid (y.length = k + 1) := by show _ = _; rw [hsam.1]; exact hN.out
          clear hy0 hsam hfull
          go_wp2_with (first
            | (go_at_call 9; refine (tokens_is _ _ (HV.out.below (nx HB4.out hB.out)) hy).mono ?_; rintro e W6 ⟨A3, m3, c3, rfl, hr3, hb3⟩; obtain rfl : m3 = k + 1 := hr3.len.symm.trans hNy.out; have HR7 := Lib.hid hr3; have HR8 := Lib.hid ((HR6.out.below hB.out).below hb3); have HB6 := Lib.hid (nx (nx HB4.out hB.out) hb3); clear hr3 hb3))
          go_loopw [14] (fun q wr' => ∃ (r : Nat), r ≤ k + 1 ∧ q = .int .i64 r ∧ Hid (Below W6.heap.size W6 wr')) (fun q _ => k + 1 - (intOf q).toNat)
          case atStart => exact ⟨0, by omega, rfl, Below.refl _ _⟩
          case round =>
            obtain ⟨r, hr, rfl, hB7⟩ := hrel
            by_cases hrl : (r : Int) < (k : Int) + 1
            · obtain ⟨g, o, k1, s1, u1, h1, rfl, hg, hxx, c1, c2, c3, c4⟩ := (HR8.out.rd.below hB7.out).at_ (i := r) (by have := HR8.out.len; omega)
              obtain ⟨g', o', k2, s2, u2, h2, rfl, hg', hyy, d1, d2, d3, d4⟩ := (HR7.out.rd.below hB7.out).at_ (i := r) (by have := HR7.out.len; omega)
              have hq := HSam.out.2 r (by have := hN.out; omega)
              rw [hxx.out, hyy.out] at hq
              simp only at hq
              obtain ⟨rfl, rfl, rfl⟩ := hq
              have f1 : (k2 != k2) = false := by simp
              have f2 : (s2.toList != s2.toList) = false := by simp
              have f3 : (u2 != u2) = false := by simp
              have f4 : (r : Int) < ((k + 1 : Nat) : Int) := by omega
              clear c4 d4
              go_wp2
              go_quiet (fail)
              go_wp2
              go_roundw
              case rel => exact ⟨r + 1, by omega, by go_num, hB7.out.trans ((below_drewN _ _).mono hB7.out.size)⟩
              case measure => simp [intOf]; omega
            · go_wp2
              go_ret
              exact ⟨rfl, nx HB6.out hB7.out⟩
  · have hx0 := lexR_err hx.out he
    subst hx0
    have he1 : (e != 0) = true := by rw [bne_iff_ne]; exact he
    have he2 : (e == 0) = false := by rw [beq_eq_false_iff_ne]; exact he
    clear he hN
    go_enter Tryd.func5, Tryd.ntmps5
    go_wp2_with (first
      | (go_at_call 9; refine (tokens_is _ _ HV.out hx).mono ?_; rintro e W1 ⟨A1, m1, c1, rfl, hr1, hb1⟩; have HR1 := Lib.hid hr1; have HB1 := Lib.hid hb1; clear hr1 hb1)
      | (go_at_call 10; refine (refTokens_is _ _ hx).mono ?_; rintro e W2 ⟨A2, m2, c2, rfl, hr2, hb2⟩; have HR2 := Lib.hid hr2; have HR3 := Lib.hid (HR1.out.below hb2); have HB2 := Lib.hid (nx HB1.out hb2); clear hr2 hb2)
      | (go_at_call 11; refine (awake_any _ (HV.out.below HB2.out)).mono ?_; rintro e W3 ⟨rfl, hb3⟩; have HR4 := Lib.hid (HR2.out.below hb3); have HR5 := Lib.hid (HR3.out.below hb3); have HB3 := Lib.hid (nx HB2.out hb3); clear hb3)
      | (go_at_call 12; refine (same_yes _ _ _ _ _ _ _ _ HR5.out HR4.out).mono ?_; rintro e W4 ⟨rfl, hb4⟩; have HB4 := Lib.hid (nx HB3.out hb4); clear hb4))
    go_ret
    exact ⟨rfl, HB4.out⟩
end Go.Proofs.YtgigibdnhpachaaDoor
