/- RequestSpaces walked. -/
import Derived.Test.YtlokcmbkkfjlkaaGreatDoorRspc
import Derived.Test.YtlokcmbkkfjlkaaGreatDoorRaw
import Derived.Test.YtlokcmbkkfjlkaaGreatDoorRsm
import Derived.Test.YtlokcmbkkfjlkaaGreatDoorLref
namespace Go.Proofs.YtlokcmbkkfjlkaaGreatDoor
set_option linter.unusedVariables false
set_option linter.unusedSimpArgs false
open Go.RowKit
theorem lexR_zero {s : ByteArray} {x : List T4} {a : Int} (h : lexR s = (x, a, 0)) : s.size ≤ 1024 ∧ lexAt s 0 = .ok x := by
  unfold lexR at h
  split at h
  · simp only [Prod.mk.injEq] at h
    exact absurd h.2.2 (by decide)
  · cases hl : lexAt s 0 with
    | ok l =>
      rw [hl] at h
      simp only [lexA, Prod.mk.injEq] at h
      rw [h.1]
      exact ⟨by omega, rfl⟩
    | no i e =>
      rw [hl] at h
      simp only [lexA, Prod.mk.injEq] at h
      have := lex_err _ 0 _ _ _ (Nat.le_refl _) hl
      omega
theorem pad_is {n : Int} (h : n = 1 ∨ n = 2 ∨ n = 3) : ∃ P : ByteArray, P.data.toList = List.replicate n.toNat 32 ∧ P.size ≤ 3 ∧ ∀ W : World, (Instr.slice 9 (.string ⟨#[32, 32, 32]⟩) none (some (.int .i64 n)) none).run Tryz.prog W = .ok (.string P) W := by
  rcases h with rfl | rfl | rfl
  · exact ⟨⟨#[32]⟩, rfl, by decide, fun W => by kernel_rfl⟩
  · exact ⟨⟨#[32, 32]⟩, rfl, by decide, fun W => by kernel_rfl⟩
  · exact ⟨⟨#[32, 32, 32]⟩, rfl, by decide, fun W => by kernel_rfl⟩
set_option maxHeartbeats 8000000 in
set_option maxRecDepth 100000 in
theorem RequestSpaces_walk (s0 : ByteArray) (a1 : Int) (w : World) (hV : VR w) (w0 : s0.size ≤ 140737488351232) (w1 : (Lit.int .i64 a1).wf = true) :
    Calls Tryz.prog 9 #[.string s0, .int .i64 a1] w fun e w' => e = .returned (.bool true) ∧ Below w.heap.size w w' := by
  have HV := Lib.hid hV
  clear hV w0 w1
  obtain ⟨x, a, e, hx⟩ : ∃ x a e, Hid (lexR s0 = (x, a, e)) := ⟨_, _, _, rfl⟩
  by_cases he : e = 0
  · subst he
    by_cases hn1 : a1 < 1
    · go_enter Tryz.func9, Tryz.ntmps9
      go_wp2_with (first
        | (go_at_call 25; refine (refTokens_is _ _ hx).mono ?_; rintro e W1 ⟨A1, m1, c1, rfl, hr1, hb1⟩; have HB1 := Lib.hid hb1; clear hr1 hb1)
        | (go_at_call 10; refine (awake_any _ (HV.out.below HB1.out)).mono ?_; rintro e W2 ⟨rfl, hb2⟩; have HB2 := Lib.hid (nx HB1.out hb2); clear hb2))
      go_ret
      exact ⟨rfl, HB2.out⟩
    · by_cases hn3 : 3 < a1
      · go_enter Tryz.func9, Tryz.ntmps9
        go_wp2_with (first
          | (go_at_call 25; refine (refTokens_is _ _ hx).mono ?_; rintro e W1 ⟨A1, m1, c1, rfl, hr1, hb1⟩; have HB1 := Lib.hid hb1; clear hr1 hb1)
          | (go_at_call 10; refine (awake_any _ (HV.out.below HB1.out)).mono ?_; rintro e W2 ⟨rfl, hb2⟩; have HB2 := Lib.hid (nx HB1.out hb2); clear hb2))
        go_ret
        exact ⟨rfl, HB2.out⟩
      · obtain ⟨P, hP0, hPz, hpd⟩ := pad_is (n := a1) (by omega)
        have HP := Lib.hid hP0
        have hnn : 1 ≤ a1.toNat := by omega
        have HNN := Lib.hid hnn
        clear hP0 hnn
        obtain ⟨hs, hl⟩ := lexR_zero hx.out
        have htk := Lib.hid (toks_lex hl)
        obtain ⟨N, hN⟩ : ∃ N, Hid (x.length = N) := ⟨_, rfl⟩
        have hx1 : 1 ≤ x.length := List.length_pos_iff.2 (toks_next htk.out).2.1
        have hx2 : x.length ≤ s0.size + 1 := by
          have := lex_len _ 0 _ x (Nat.le_refl _) hl
          simpa using this
        have hNb : 1 ≤ N ∧ N ≤ 1025 := by have := hN.out; omega
        obtain ⟨hN1, hN2⟩ := hNb
        have hpr : Hid (pR s0 = pQ x) := by
          show _ = _
          unfold pR
          rw [hx.out]
          rfl
        clear hl hx1 hx2
        go_enter Tryz.func9, Tryz.ntmps9
        go_wp2_with (first
          | (go_at_call 25; refine (refTokens_is _ _ hx).mono ?_; rintro e W1 ⟨A1, m1, c1, rfl, hr1, hb1⟩; obtain rfl : N = m1 := hN.out.symm.trans hr1.len; have HR1 := Lib.hid hr1; have HB1 := Lib.hid hb1; clear hr1 hb1))
        go_loopw [8, 9] (fun V q wr => ∃ (k : Nat) (T : ByteArray), V = .string T ∧ q = .int .i64 k ∧ k + 1 ≤ N ∧ Hid (T.data.toList = spT s0 a1.toNat (x.take (k + 1))) ∧ T.size ≤ k * 1030 ∧ Hid (Below W1.heap.size W1 wr)) (fun _ q _ => N - (intOf q).toNat)
        case atStart => exact ⟨0, ⟨#[]⟩, rfl, rfl, by omega, (by
          show _ = _
          have h1 := (toks_next htk.out).2.1
          cases hx0 : x with
          | nil => exact absurd hx0 h1
          | cons t r => simp [spT]), by simp [ByteArray.size], Below.refl _ _⟩
        case round =>
          obtain ⟨k, T, rfl, rfl, hk, hT, hTz, hB⟩ := hrel
          have e5 : IntKind.i64.wrap ((k : Int) + 1) = (k : Int) + 1 := by rw [IntKind.wrap_i64]; omega
          by_cases hlt : (k : Int) + 1 < (N : Int)
          · obtain ⟨g, o, k1, s1, u1, h1, rfl, hg, hxx, c1', c2, c3, c4⟩ := (HR1.out.rd.below hB.out).at_ (i := k) (by have := HR1.out.len; omega)
            obtain ⟨g', o', k2, s2, u2, h2, hA, hg', hyy, d1, d2, d3, d4⟩ := (HR1.out.rd.below hB.out).at_ (i := k + 1) (by have := HR1.out.len; omega)
            obtain ⟨rfl, rfl⟩ : g = g' ∧ o = o' := by simpa using hA
            obtain ⟨p, r, hp, hr, hpr', hrs⟩ := (toks_next htk.out).2.2 k (by have := hN.out; omega)
            have hTk := spT_take (s := s0) (n := a1.toNat) (l := x) (k := k) (by have := hN.out; omega)
            rw [hp, hr] at hTk
            rw [hxx.out] at hp
            rw [hyy.out] at hr
            obtain rfl : h1 = (p : Int) := hp
            obtain rfl : h2 = (r : Int) := hr
            obtain ⟨U, hU⟩ : ∃ U, Hid (cutB s0 p r = U) := ⟨_, rfl⟩
            have hsl := hsl_is s0 hpr' hrs hU
            have hUd : U.data.toList = gap s0 p r := by
              rw [← hU.out]
              unfold cutB gap
              rw [mkB_data]
            have hUz : U.size ≤ 1024 := by
              have h1 : U.data.toList.length = U.size := by simp
              rw [hUd] at h1
              have := gap_len (s := s0) (a := p) (b := r)
              omega
            have hT2 : Hid ((T ++ U ++ P).data.toList = spT s0 a1.toNat (x.take (k + 1 + 1))) := by
              show _ = _
              rw [hTk, ba_app, ba_app, hT.out, hUd, HP.out]
              simp
            have e7 : ¬ 9223372036854775807 < T.size + U.size := by omega
            have e8 : ¬ 9223372036854775807 < T.size + U.size + P.size := by omega
            have e9 : ¬ 9223372036854775807 < (T ++ U).size + P.size := by rw [ba_app_size]; omega
            have hz2 : (T ++ U ++ P).size ≤ (k + 1) * 1030 := by rw [ba_app_size, ba_app_size]; omega
            have f1 : 0 ≤ (k : Int) + 1 := by omega
            have f2 : ((k : Int) + 1).toNat = k + 1 := by omega
            have HZ2 := Lib.hid hz2
            clear hTk hUd hUz hA hpr' hrs hz2 hTz c1' c2 c3 d1 d2 d3
            go_wp2
            go_quiet (fail)
            clear f1 f2
            go_wp2
            go_roundw
            case rel => exact ⟨k + 1, _, rfl, by go_num, by omega, hT2, HZ2.out, bdN hB.out _⟩
            case measure => simp [intOf]; omega
          · obtain rfl : N = k + 1 := by omega
            have hfull : T.data.toList = spT s0 a1.toNat x := by rw [hT.out, List.take_of_length_le (by have := hN.out; omega)]
            have HB2 := Lib.hid (nx HB1.out hB.out)
            by_cases hbig : 1024 < (T.size : Int)
            · go_wp2_with (first
                | (go_at_call 10; refine (awake_any _ (HV.out.below HB2.out)).mono ?_; rintro e W3 ⟨rfl, hb3⟩; have HB3 := Lib.hid (nx HB2.out hb3); clear hb3))
              go_ret
              exact ⟨rfl, HB3.out⟩
            · obtain ⟨y, hy0, hsam⟩ := lexR_sp HNN.out htk.out hfull (by omega)
              have hpt : pR T = pQ y := by
                unfold pR
                rw [hy0]
                rfl
              have hsim := pQ_sim hsam
              rw [← hpt, ← hpr.out] at hsim
              clear hy0 hsam hfull hpt
              cases hR : pR s0 with
              | no p0 er =>
                cases hR2 : pR T with
                | ok z => rw [hR, hR2] at hsim; exact hsim.elim
                | no p2 er2 =>
                  rw [hR, hR2] at hsim
                  obtain rfl : er = er2 := hsim
                  have hx1 := Lib.hid hR
                  have hx2 := Lib.hid hR2
                  have MP := Lib.hid trivial
                  clear hR hR2
                  go_wp2_with (first
                    | (go_at_call 15; clear MP; refine (parse_is _ _ (HV.out.below HB2.out).1 hx1).mono ?_; rintro e W3 ⟨rfl, hb3⟩; have HK := Lib.hid (Blk.new W3 zr7 30 rfl); have HB3 := Lib.hid (nx HB2.out hb3); clear hb3)
                    | (go_at_call 15; refine (parse_is _ _ (HV.out.below (nx HB3.out (newB _ _))).1 hx2).mono ?_; rintro e W4 ⟨rfl, hb4⟩; have HJ := Lib.hid (HK.out.up hb4 HK.out.lt); have HK2 := Lib.hid (Blk.new W4 zr7 30 rfl); have HB4 := Lib.hid (nx HB3.out (dn1 hb4)); clear hb4)
                    | (go_at_call 10; refine (awake_any _ (HV.out.below (nx HB4.out (newB _ _)))).mono ?_; rintro e W5 ⟨rfl, hb5⟩; have hj := (HJ.out.grow _).up hb5 (HJ.out.grow _).lt; have hk := HK2.out.up hb5 HK2.out.lt; obtain ⟨x0, x1, x2, x3, x4, x5, x6⟩ := hj.s7; obtain ⟨y0, y1, y2, y3, y4, y5, y6⟩ := hk.s7; have HB5 := Lib.hid (nx HB4.out (dn1 hb5)); clear hb5 hj hk)
                    | (go_at_call 17; refine (sameR_is (e := .nd 0 z3 []) 0 ⟨#[]⟩ 0 0 none 0 0 0 ⟨#[]⟩ 0 0 none 0 0 0 0 _ (tin_zero _ _) (tin_zero _ _)).mono ?_; rintro e W6 ⟨rfl, hb6⟩; have HB6 := Lib.hid (nx HB5.out hb6); clear hb6))
                  go_ret
                  exact ⟨by simp, HB6.out⟩
              | ok z =>
                cases hR2 : pR T with
                | no p2 er2 => rw [hR, hR2] at hsim; exact hsim.elim
                | ok z2 =>
                  rw [hR, hR2] at hsim
                  obtain rfl : z = z2 := hsim
                  obtain ⟨E, p, t⟩ := z
                  have hx1 := Lib.hid hR
                  have hx2 := Lib.hid hR2
                  have MP := Lib.hid trivial
                  clear hR hR2
                  go_wp2_with (first
                    | (go_at_call 15; clear MP; refine (parse_is _ _ (HV.out.below HB2.out).1 hx1).mono ?_; rintro e W3 ⟨⟨k', s', m', u', A', n', c', rfl, ht⟩, hb3⟩; have HK := Lib.hid (Blk.new W3 [.int .i64 k', .string s', .int .i64 m', .int .i64 u', .slice A' n' c', .int .i64 p, .int .i64 t] 30 rfl); have HT3 : Hid (TIn (Lo W3.heap.size) W3 ⟨k', s', m', u', A', n', c'⟩ E) := ht; have HB3 := Lib.hid (nx HB2.out hb3); clear hb3 ht)
                    | (go_at_call 15; refine (parse_is _ _ (HV.out.below (nx HB3.out (newB _ _))).1 hx2).mono ?_; rintro e W4 ⟨⟨k2, s2, m2, u2, A2, n2, c2, rfl, ht⟩, hb4⟩; have HJ := Lib.hid (HK.out.up hb4 HK.out.lt); have HT4 := Lib.hid ((HT3.out.grow _).up hb4); have HK2 := Lib.hid (Blk.new W4 [.int .i64 k2, .string s2, .int .i64 m2, .int .i64 u2, .slice A2 n2 c2, .int .i64 p, .int .i64 t] 30 rfl); have HT4b : Hid (TIn (Lo W4.heap.size) W4 ⟨k2, s2, m2, u2, A2, n2, c2⟩ E) := ht; have HB4 := Lib.hid (nx HB3.out (dn1 hb4)); clear hb4 ht)
                    | (go_at_call 10; refine (awake_any _ (HV.out.below (nx HB4.out (newB _ _)))).mono ?_; rintro e W5 ⟨rfl, hb5⟩; have hj := (HJ.out.grow _).up hb5 (HJ.out.grow _).lt; have hk := HK2.out.up hb5 HK2.out.lt; obtain ⟨x0, x1, x2, x3, x4, x5, x6⟩ := hj.s7; obtain ⟨y0, y1, y2, y3, y4, y5, y6⟩ := hk.s7; have HT5 := Lib.hid ((HT4.out.grow _).up hb5); have HT5b := Lib.hid ((HT4b.out.grow _).up hb5); have HB5 := Lib.hid (nx HB4.out (dn1 hb5)); clear hb5 hj hk)
                    | (go_at_call 17; refine (sameR_is (e := E) k' s' m' u' A' n' c' k2 s2 m2 u2 A2 n2 c2 p t _ HT5.out HT5b.out).mono ?_; rintro e W6 ⟨rfl, hb6⟩; have HB6 := Lib.hid (nx HB5.out hb6); clear hb6))
                  go_ret
                  exact ⟨by simp, HB6.out⟩
  · have he1 : (e != 0) = true := by rw [bne_iff_ne]; exact he
    have he2 : (e == 0) = false := by rw [beq_eq_false_iff_ne]; exact he
    clear he
    go_enter Tryz.func9, Tryz.ntmps9
    go_wp2_with (first
      | (go_at_call 25; refine (refTokens_is _ _ hx).mono ?_; rintro e W1 ⟨A1, m1, c1, rfl, hr1, hb1⟩; have HB1 := Lib.hid hb1; clear hr1 hb1)
      | (go_at_call 10; refine (awake_any _ (HV.out.below HB1.out)).mono ?_; rintro e W2 ⟨rfl, hb2⟩; have HB2 := Lib.hid (nx HB1.out hb2); clear hb2))
    go_ret
    exact ⟨rfl, HB2.out⟩
end Go.Proofs.YtlokcmbkkfjlkaaGreatDoor
