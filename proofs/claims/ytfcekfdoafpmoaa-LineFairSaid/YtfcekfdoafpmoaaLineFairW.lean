/- LineFair walked. (Written by mkfair11.py.) -/
import Derived.Test.YtfcekfdoafpmoaaJf
namespace Go.Proofs.Ytfcekfdoafpmoaa
open Go.RowKit
set_option linter.unusedVariables false
set_option linter.unusedSimpArgs false

set_option maxHeartbeats 40000000 in
set_option maxRecDepth 20000 in
theorem LineFair_walk (A0 : Option Addr) (n0 c0 : Nat) (x0 : List Int) (w : World) (w0 : InI w A0 n0 c0 x0) :
    Calls Try.prog 7 #[.slice A0 n0 c0] w fun e w' => e = .returned (.bool true) ∧ Below w.heap.size w w' := by
  have HI := Lib.hid w0
  have hn : Hid (x0.length = n0) := w0.len
  clear w0
  have mixed : Try.prog.follows .mixedOrders = true := by kernel_rfl
  by_cases h300 : (n0 : Int) ≤ 300
  · have HK0 : Hid (Blk (w.alloc (.cells #[.int .i64 0, .int .i64 0, .int .i64 0, .int .i64 0, .int .i64 0, .int .i64 0, .int .i64 0, .int .i64 0] 46)) w.heap.size (ivL [0, 0, 0, 0, 0, 0, 0, 0])) := Lib.hid (Blk.new w [.int .i64 0, .int .i64 0, .int .i64 0, .int .i64 0, .int .i64 0, .int .i64 0, .int .i64 0, .int .i64 0] 46 rfl)
    go_enter Try.func7, Try.ntmps7
    go_wp2_with (go_at_call 25; refine (light_yesJ A0 n0 c0 _ h300).mono ?_; rintro e W1 ⟨rfl, rfl⟩)
    go_loopw [3, 5] (fun V i wr => ∃ (j : Nat) (A : Option Addr) (m c : Nat) (L : List Wt) (F : List Int), j ≤ n0 ∧ i = .int .i64 j ∧ V = .slice A m c ∧ Hid (InW wr A m c L) ∧ Hid (LoB (w.heap.size + 1) A) ∧ Hid (Fa L F) ∧ Hid (Blk wr w.heap.size (ivL F)) ∧ Hid (Below w.heap.size w wr)) (fun _ i _ => n0 - (intOf i).toNat)
    case atStart => exact ⟨0, none, 0, 0, [], [0, 0, 0, 0, 0, 0, 0, 0], by omega, rfl, rfl, Lib.hid ⟨rfl, WRd.nil _ _, Nat.le_refl _⟩, Lib.hid (LoB.none _), Lib.hid Fa.start, HK0, Lib.hid (newB _ _)⟩
    case round =>
      obtain ⟨j, A, m, c, L, F, hj, rfl, rfl, hIn, hLo, hFa, hAr, hB⟩ := hrel
      have hHR : Hid (WRd wr A L) := Lib.hid hIn.out.rd
      have hmL : Hid (L.length = m) := Lib.hid hIn.out.len
      have hm8 : Hid (m ≤ 1000) := Lib.hid (by have := hFa.out.vl.1; have := hmL.out; omega)
      by_cases hlt : (j : Int) < (n0 : Int)
      · obtain ⟨b, o, rfl, hb, hcell⟩ := (HI.out.rd.below hB.out).at_ (i := j) (by rw [hn.out]; omega)
        obtain ⟨s, hs⟩ : ∃ s, Hid (x0.getD j 0 = s) := ⟨_, Lib.hid rfl⟩
        have hwfs : (Lit.int .i64 s).wf = true := by
          have hjl : j < x0.length := by rw [hn.out]; omega
          have h1 : x0.getD j 0 ∈ x0 := by rw [List.getD_eq_getElem?_getD, List.getElem?_eq_getElem hjl]; exact List.getElem_mem hjl
          have h2 := HI.out.wf _ h1
          rw [hs.out] at h2
          exact h2
        rw [hs.out] at hcell
        obtain ⟨nn, hnn⟩ : ∃ nn, Hid (s % 400 = nn) := ⟨_, Lib.hid rfl⟩
        have hnn0 : 0 ≤ nn := by rw [← hnn.out]; exact Int.emod_nonneg _ (by omega)
        have hnn4 : nn < 400 := by rw [← hnn.out]; exact Int.emod_lt_of_pos _ (by omega)
        have e2 : Int.tdiv nn 5 = nn / 5 := Int.tdiv_eq_ediv_of_nonneg hnn0
        have hd0 : 0 ≤ nn / 5 ∧ nn / 5 < 80 := by omega
        have e3 : IntKind.i64.wrap (nn / 5) = nn / 5 := by rw [IntKind.wrap_i64]; omega
        have hwf5 : Hid ((Lit.int .i64 (nn / 5)).wf = true) := Lib.hid (wf_small (by omega) (by omega))
        have ej : IntKind.i64.wrap ((j : Int) + 1) = (j : Int) + 1 := by rw [IntKind.wrap_i64]; omega
        have hj0 : (0 : Int) ≤ (j : Int) := by omega
        obtain ⟨p1, p2, p3, hp⟩ : ∃ p1 p2 p3, Hid (pcN (nn / 5) = (p1, p2, p3)) := ⟨_, _, _, Lib.hid rfl⟩
        obtain ⟨X, put, hX⟩ : ∃ X put, Hid (stpW L nn = (X, put)) := ⟨_, _, Lib.hid rfl⟩
        have hBs : w.heap.size + 1 ≤ wr.heap.size := hAr.out.lt
        have HS := Lib.hid (step_is A m c L nn wr hIn.out (Lib.hid hFa.out.vl) hnn0 hnn4 hX hLo.out hBs)
        clear hBs hd0
        cases put with
        | false =>
          have HFE := Lib.hid (hFa.out.no hX.out)
          clear hFa
          go_wp2_with (first
            | (go_at_call 26; (with_reducible refine (mod_is s 400 _ hwfs (by omega) (by omega) hnn).mono ?_); rintro e W1 ⟨rfl, rfl⟩)
            | (go_at_call 27; (with_reducible refine HS.out.mono ?_); rintro e W2 ⟨⟨A2, q, c2, rfl, hi2, hlo2⟩, hb2⟩; have hXl : Hid (X.length = q) := Lib.hid hi2.len; have hqc : q ≤ c2 := hi2.fit; have HX2 := Lib.hid hi2.rd; have HLo2 := Lib.hid hlo2; have HR2 := Lib.hid (hHR.out.below hb2); have HA2 := Lib.hid (hAr.out.up hb2 hAr.out.lt); have HB2 := Lib.hid (nx hB.out hb2); clear hi2 hlo2 hb2)
            | (go_at_call 28; (with_reducible refine (proc_fn (nn / 5) _ hwf5 hp).mono ?_); rintro e W3 ⟨rfl, hb3⟩; have HX3 := Lib.hid (HX2.out.below hb3); have HR3 := Lib.hid (HR2.out.below hb3); have HA3 := Lib.hid (HA2.out.up hb3 HA2.out.lt); have HB3 := Lib.hid (nx HB2.out hb3); have HP3 := Lib.hid (Blk.new W3 [.int .i64 p1, .int .i64 p2, .int .i64 p3] 24 rfl); clear hb3 HX2 HR2 HA2 HB2))
          obtain ⟨WE, hWE⟩ : ∃ WE, Hid (W3.alloc (.cells #[.int .i64 p1, .int .i64 p2, .int .i64 p3] 24) = WE) := ⟨_, rfl⟩
          have HXE : Hid (WRd WE A2 X) := Lib.hid (by rw [← hWE.out]; exact HX3.out.below (newB _ _))
          have HAE : Hid (Blk WE w.heap.size (ivL F)) := Lib.hid (by rw [← hWE.out]; exact HA3.out.grow _)
          have HBE : Hid (Below w.heap.size w WE) := Lib.hid (by rw [← hWE.out]; exact nxA HB3.out _)
          obtain ⟨G, hG⟩ : ∃ G, Hid (F = G) := ⟨_, Lib.hid rfl⟩
          rw [hG.out] at HAE HFE
          rw [hWE.out]
          clear HX3 HA3 HB3 HP3 HR3 hAr hIn hHR
          go_loopw [11] (fun i wr => i = .int .i64 0 ∧ Hid (WE = wr)) (fun i _ => 0)
          case atStart => exact ⟨rfl, Lib.hid rfl⟩
          case round =>
            obtain ⟨rfl, hww⟩ := hrel
            have hww := hww.out
            subst hww
            go_wp2
            have hq8 : q ≤ 8 := by have h1 := HFE.out.vl.1; rw [hXl.out] at h1; exact h1
            go_loopw [15] (fun i wr => ∃ (a : Nat), a ≤ q ∧ i = .int .i64 a ∧ Hid (Below WE.heap.size WE wr)) (fun i _ => q - (intOf i).toNat)
            case atStart => exact ⟨0, by omega, rfl, Lib.hid (Below.refl _ _)⟩
            case round =>
              obtain ⟨a, ha, rfl, hB6⟩ := hrel
              by_cases hlt6 : (a : Int) < (q : Int)
              · obtain ⟨g, o2, x, y, z, m', v, p', u, rfl, hg, hx, t1, t2, t3, t4, t5, t6, t7⟩ := (HXE.out.below hB6.out).at_ (i := a) (by rw [hXl.out]; omega)
                have ea : IntKind.i64.wrap ((a : Int) + 1) = (a : Int) + 1 := by rw [IntKind.wrap_i64]; omega
                have haq : (a : Int) < (q : Int) := hlt6
                have HZ6 : Hid (Z7 wr g (o2 + a * 7) ((x, y, z), (m', v), p', u)) := Lib.hid ⟨t1, t2, t3, t4, t5, t6, t7⟩
                have haq2 : a < q := by omega
                clear t1 t2 t3 t4 t5 t6 t7
                obtain ⟨WR, hWR⟩ : ∃ W, W = wr := ⟨_, rfl⟩
                subst hWR
                go_wp2
                go_loopw [16] (fun i wr => ∃ (k : Nat), k ≤ 8 ∧ i = .int .i64 k ∧ Hid (Below WR.heap.size WR wr)) (fun i _ => 8 - (intOf i).toNat)
                case atStart => exact ⟨0, by omega, rfl, Lib.hid (Below.refl _ _)⟩
                case round =>
                  obtain ⟨k, hk, rfl, hB7⟩ := hrel
                  obtain ⟨WS, hWS⟩ : ∃ W, W = wr := ⟨_, rfl⟩
                  subst hWS
                  by_cases hlt7 : (k : Int) < 8
                  · obtain ⟨s1, s2, s3, hqk⟩ : ∃ s1 s2 s3, Hid (pcN (k : Int) = (s1, s2, s3)) := ⟨_, _, _, Lib.hid rfl⟩
                    have hwfk : Hid ((Lit.int .i64 (k : Int)).wf = true) := Lib.hid (wf_small (by omega) (by omega))
                    have ek : IntKind.i64.wrap ((k : Int) + 1) = (k : Int) + 1 := by rw [IntKind.wrap_i64]; omega
                    have hk0 : (0 : Int) ≤ (k : Int) := by omega
                    have hk8 : k < 8 := by omega
                    have hk8d : (k : Int) < 8 := hlt7
                    obtain ⟨t1, t2, t3, t4, t5, t6, t7⟩ := HZ6.out.below hB7.out
                    have d1 := fun P : NxW WS => NxW.cell t1 P
                    have d2 := fun P : NxW WS => NxW.cell t2 P
                    have d3 := fun P : NxW WS => NxW.cell t3 P
                    have d7 := fun P : NxW WS => NxW.cell t7 P
                    have HAS := Lib.hid ((HAE.out.up hB6.out HAE.out.lt).up hB7.out (Nat.lt_of_lt_of_le HAE.out.lt hB6.out.size))
                    have d8 := fun P : NxW WS => NxW.cell (HAS.out.iv (k := k) (by rw [HFE.out.len]; exact hk8)) P
                    have HC := Lib.hid (fun P : NxW WS => Calls.nx_of P (proc_fn (k : Int) P.W hwfk hqk))
                    clear t1 t2 t3 t4 t5 t6 t7
                    by_cases he : x = s1 ∧ y = s2 ∧ z = s3
                    · have hee : ∀ W : World, (binOp .eql 24 (.agg #[.int .i64 x, .int .i64 y, .int .i64 z]) (.agg #[.int .i64 s1, .int .i64 s2, .int .i64 s3])).run Try.prog W = .ok (.bool true) W := fun W => by rw [eqPr]; simp [he]
                      have hck : u = G.getD k 0 ∧ G.getD k 0 ≤ 3 := by
                        have h1 := HFE.out.check (j := a) (m := k) (by rw [hXl.out]; exact haq2) hk8 (by rw [hx.out, hqk.out]; obtain ⟨e1, e2, e3⟩ := he; rw [e1, e2, e3])
                        rw [hx.out] at h1
                        exact h1
                      obtain ⟨hck1, hck2⟩ := hck
                      rw [← hck1] at d8 hck2
                      have hn3 : ¬ 3 < u := by omega
                      have hn3d : decide (3 < u) = false := decide_eq_false hn3
                      clear hck1 he
                      go_wp2
                      refine wp_region_below mixed (by kernel_rfl) ?_
                      repeat (go_big_quiet_step (first
                        | (go_at_call 28; exact HC.out _)))
                      refine wpQuiet_nil ?_
                      intro _ hw'
                      obtain ⟨⟨W8, hb8⟩, hw''⟩ := hw'
                      subst hw''
                      go_wp2
                      go_roundw
                      case rel => exact ⟨k + 1, by omega, by go_num, Lib.hid (nx hB7.out hb8)⟩
                      case measure => simp [intOf]; omega
                    · have hee : ∀ W : World, (binOp .eql 24 (.agg #[.int .i64 x, .int .i64 y, .int .i64 z]) (.agg #[.int .i64 s1, .int .i64 s2, .int .i64 s3])).run Try.prog W = .ok (.bool false) W := fun W => by rw [eqPr]; simp [he]
                      clear he
                      go_wp2
                      refine wp_region_below mixed (by kernel_rfl) ?_
                      repeat (go_big_quiet_step (first
                        | (go_at_call 28; exact HC.out _)))
                      refine wpQuiet_nil ?_
                      intro _ hw'
                      obtain ⟨⟨W8, hb8⟩, hw''⟩ := hw'
                      subst hw''
                      go_wp2
                      go_roundw
                      case rel => exact ⟨k + 1, by omega, by go_num, Lib.hid (nx hB7.out hb8)⟩
                      case measure => simp [intOf]; omega
                  · have hk8 : k = 8 := by omega
                    subst hk8
                    go_wp2
                    go_roundw
                    case rel => exact ⟨a + 1, by omega, by go_num, Lib.hid (nx hB6.out hB7.out)⟩
                    case measure => simp [intOf]; omega
              · go_wp2
                go_roundw
                case rel => exact ⟨j + 1, A2, q, c2, X, G, by omega, by go_num, rfl, Lib.hid ⟨hXl.out, HXE.out.below hB6.out, hqc⟩, HLo2, HFE, Lib.hid (HAE.out.up hB6.out HAE.out.lt), Lib.hid (nx HBE.out hB6.out)⟩
                case measure => simp [intOf]; omega
        | true =>
          have HFE0 := Lib.hid (hFa.out.yes hX.out)
          have hFl : Hid (F.length = 8) := Lib.hid hFa.out.len
          have hFb : Hid (∀ k, k < 8 → 0 ≤ F.getD k 0 ∧ F.getD k 0 ≤ 3) := Lib.hid hFa.out.bd
          have hcl1 : Hid ((clW nn).1 = (p1, p2, p3)) := Lib.hid hp.out
          obtain ⟨cw, hcw⟩ : ∃ cw, Hid (clW nn = cw) := ⟨_, Lib.hid rfl⟩
          rw [hcw.out] at HFE0 hcl1
          have hxm8 : Hid (X.length ≤ 8) := Lib.hid HFE0.out.vl.1
          clear hFa
          go_wp2_with (first
            | (go_at_call 26; (with_reducible refine (mod_is s 400 _ hwfs (by omega) (by omega) hnn).mono ?_); rintro e W1 ⟨rfl, rfl⟩)
            | (go_at_call 27; (with_reducible refine HS.out.mono ?_); rintro e W2 ⟨⟨A2, q, c2, rfl, hi2, hlo2⟩, hb2⟩; have hXl : Hid (X.length = q) := Lib.hid hi2.len; have hqc : q ≤ c2 := hi2.fit; have HX2 := Lib.hid hi2.rd; have HLo2 := Lib.hid hlo2; have HR2 := Lib.hid (hHR.out.below hb2); have HA2 := Lib.hid (hAr.out.up hb2 hAr.out.lt); have HB2 := Lib.hid (nx hB.out hb2); clear hi2 hlo2 hb2)
            | (go_at_call 28; (with_reducible refine (proc_fn (nn / 5) _ hwf5 hp).mono ?_); rintro e W3 ⟨rfl, hb3⟩; have HX3 := Lib.hid (HX2.out.below hb3); have HR3 := Lib.hid (HR2.out.below hb3); have HA3 := Lib.hid (HA2.out.up hb3 HA2.out.lt); have HB3 := Lib.hid (nx HB2.out hb3); have HP3 := Lib.hid (Blk.new W3 [.int .i64 p1, .int .i64 p2, .int .i64 p3] 24 rfl); clear hb3 HX2 HR2 HA2 HB2))
          have hqm : Hid (q ≤ 1000) := Lib.hid (by have h1 := hxm8.out; rw [hXl.out] at h1; omega)
          have hgp : w.heap.size < W3.heap.size := HA3.out.lt
          have hP4 := HP3.out.lt
          go_loopw [11] (fun kv wr2 => ∃ k : Nat, k ≤ 8 ∧ kv = .int .i64 k ∧ Hid (Blk wr2 w.heap.size (ivL (stF L X cw F k))) ∧ Hid (WRd wr2 A L) ∧ Hid (WRd wr2 A2 X) ∧ Hid (Blk wr2 W3.heap.size [.int .i64 p1, .int .i64 p2, .int .i64 p3]) ∧ Hid (Below w.heap.size w wr2)) (fun kv _ => 8 - (intOf kv).toNat)
          case atStart => exact ⟨0, by omega, rfl, Lib.hid (by rw [stF_zero hFl.out]; exact HA3.out.grow _), Lib.hid (HR3.out.below (newB _ _)), Lib.hid (HX3.out.below (newB _ _)), HP3, Lib.hid (nxA HB3.out _)⟩
          case round =>
            obtain ⟨k, hk, rfl, hArk, hRk, hXk, hPk, hBk⟩ := hrel
            obtain ⟨WK, hWK⟩ : ∃ W, W = wr := ⟨_, rfl⟩
            subst hWK
            by_cases hlt2 : (k : Int) < 8
            · have hk8 : k < 8 := by omega
              have hk0 : (0 : Int) ≤ (k : Int) := by omega
              have ek : IntKind.i64.wrap ((k : Int) + 1) = (k : Int) + 1 := by rw [IntKind.wrap_i64]; omega
              have hwfk : Hid ((Lit.int .i64 (k : Int)).wf = true) := Lib.hid (wf_small (by omega) (by omega))
              obtain ⟨s1, s2, s3, hqk⟩ : ∃ s1 s2 s3, Hid (pcN (k : Int) = (s1, s2, s3)) := ⟨_, _, _, Lib.hid rfl⟩
              have hcell := hArk.out.iv (k := k) (by rw [stF_len]; exact hk8)
              rw [stF_at hk8, if_neg (Nat.lt_irrefl k)] at hcell
              obtain ⟨fk, hfk⟩ : ∃ fk, Hid (F.getD k 0 = fk) := ⟨_, Lib.hid rfl⟩
              have hfb := hFb.out k hk8
              rw [hfk.out] at hcell hfb
              have hfz := hArk.out.fz k
              have hne1 : W3.heap.size ≠ w.heap.size := by omega
              by_cases he : s1 = p1 ∧ s2 = p2 ∧ s3 = p3
              · have hee : ∀ W : World, (binOp .eql 24 (.agg #[.int .i64 s1, .int .i64 s2, .int .i64 s3]) (.agg #[.int .i64 p1, .int .i64 p2, .int .i64 p3])).run Try.prog W = .ok (.bool true) W := fun W => by rw [eqPr]; simp [he]
                have HSUC : Hid ((stF L X cw F k).set k 0 = stF L X cw F (k + 1)) := Lib.hid (by
                  rw [stF_succ hk8, countW, if_pos]
                  obtain ⟨h1, h2, h3⟩ := he
                  rw [hqk.out, hcl1.out, h1, h2, h3])
                clear he hcell hfz
                go_wp2_with (go_at_call 28; (with_reducible refine (proc_fn (k : Int) _ hwfk hqk).mono ?_); rintro e W4 ⟨rfl, hb4⟩; have HA4 := Lib.hid (hArk.out.up hb4 hArk.out.lt); have HX4 := Lib.hid (hXk.out.below hb4); have HR4 := Lib.hid (hRk.out.below hb4); have HP4 := Lib.hid (hPk.out.up hb4 hPk.out.lt); have HB4 := Lib.hid (nx hBk.out hb4); clear hb4; have z0 := HP4.out.cell 0 rfl; have z1 := HP4.out.cell 1 rfl; have z2 := HP4.out.cell 2 rfl; have y0 := HA4.out.iv (k := k) (by rw [stF_len]; exact hk8); rw [stF_at hk8, if_neg (Nat.lt_irrefl k), hfk.out] at y0; have yf := HA4.out.fz k; have ylt := HA4.out.lt; have zlt := HP4.out.lt)
                have HA5 := HA4.out.ivset k 0
                rw [HSUC.out] at HA5
                go_roundw
                case rel => exact ⟨k + 1, by omega, by go_num, Lib.hid (HA5.grow _), Lib.hid ((HR4.out.set hLo.out (Nat.lt_succ_self _) k _).below (newB _ _)), Lib.hid ((HX4.out.set HLo2.out (Nat.lt_succ_self _) k _).below (newB _ _)), Lib.hid ((HP4.out.aside hne1 k _).grow _), Lib.hid (nxA (HB4.out.setCell (p := ⟨w.heap.size, k, none⟩) (Nat.le_refl _) _) _)⟩
                case measure => simp [intOf]; omega
              · have hee : ∀ W : World, (binOp .eql 24 (.agg #[.int .i64 s1, .int .i64 s2, .int .i64 s3]) (.agg #[.int .i64 p1, .int .i64 p2, .int .i64 p3])).run Try.prog W = .ok (.bool false) W := fun W => by rw [eqPr]; simp [he]
                have hqp : ¬ pcN (k : Int) = cw.1 := fun e => by
                  rw [hqk.out, hcl1.out] at e
                  exact he (by simpa using e)
                obtain ⟨fa, hfa⟩ : ∃ fa, Hid (findW X (s1, s2, s3) = fa) := ⟨_, Lib.hid rfl⟩
                obtain ⟨fb, hfb2⟩ : ∃ fb, Hid (findW X (p1, p2, p3) = fb) := ⟨_, Lib.hid rfl⟩
                obtain ⟨fl, hfl⟩ : ∃ fl, Hid (findW L (s1, s2, s3) = fl) := ⟨_, Lib.hid rfl⟩
                have hcnt : Hid (countW L X cw (fL F) (pcN (k : Int)) = if fb < fa ∧ 0 ≤ fl then fk + 1 else fk) := Lib.hid (by
                  rw [countW, if_neg hqp, hqk.out, hcl1.out, hfa.out, hfb2.out, hfl.out, ← hqk.out, fL_pcN F hk8, hfk.out])
                clear he hcell hfz hqp
                go_upto_region 19 with (go_at_call 28; (with_reducible refine (proc_fn (k : Int) _ hwfk hqk).mono ?_); rintro e W4 ⟨rfl, hb4⟩; have HA4 := Lib.hid (hArk.out.up hb4 hArk.out.lt); have HX4 := Lib.hid (hXk.out.below hb4); have HR4 := Lib.hid (hRk.out.below hb4); have HP4 := Lib.hid (hPk.out.up hb4 hPk.out.lt); have HB4 := Lib.hid (nx hBk.out hb4); clear hb4; have z0 := HP4.out.cell 0 rfl; have z1 := HP4.out.cell 1 rfl; have z2 := HP4.out.cell 2 rfl; have zlt := HP4.out.lt)
                obtain ⟨WQ, hWQ⟩ : ∃ WQ, Hid (W4.alloc (.cells #[.int .i64 s1, .int .i64 s2, .int .i64 s3] 24) = WQ) := ⟨_, rfl⟩
                have HXQ : Hid (WRd WQ A2 X) := Lib.hid (by rw [← hWQ.out]; exact HX4.out.below (newB _ _))
                have HRQ : Hid (WRd WQ A L) := Lib.hid (by rw [← hWQ.out]; exact HR4.out.below (newB _ _))
                have HAQ : Hid (Blk WQ w.heap.size (ivL (stF L X cw F k))) := Lib.hid (by rw [← hWQ.out]; exact HA4.out.grow _)
                have HPQ : Hid (Blk WQ W3.heap.size [.int .i64 p1, .int .i64 p2, .int .i64 p3]) := Lib.hid (by rw [← hWQ.out]; exact HP4.out.grow _)
                have HQQ : Hid (Blk WQ W4.heap.size [.int .i64 s1, .int .i64 s2, .int .i64 s3]) := Lib.hid (by rw [← hWQ.out]; exact Blk.new W4 [.int .i64 s1, .int .i64 s2, .int .i64 s3] _ rfl)
                have HBQ : Hid (Below w.heap.size w WQ) := Lib.hid (by rw [← hWQ.out]; exact nxA HB4.out _)
                rw [hWQ.out]
                clear z0 z1 z2 HX4 HR4 HA4 HP4 HB4 zlt
                have d1 := fun P : NxW WQ => NxW.cell (HQQ.out.cell 0 rfl) P
                have d2 := fun P : NxW WQ => NxW.cell (HQQ.out.cell 1 rfl) P
                have d3 := fun P : NxW WQ => NxW.cell (HQQ.out.cell 2 rfl) P
                have d4 := fun P : NxW WQ => NxW.cell (HPQ.out.cell 0 rfl) P
                have d5 := fun P : NxW WQ => NxW.cell (HPQ.out.cell 1 rfl) P
                have d6 := fun P : NxW WQ => NxW.cell (HPQ.out.cell 2 rfl) P
                have HC1 := Lib.hid (fun P : NxW WQ => Calls.nx_of P (refFind_is A2 q c2 X s1 s2 s3 P.W (HXQ.out.below P.hb) hXl hqm hfa))
                have HC2 := Lib.hid (fun P : NxW WQ => Calls.nx_of P (refFind_is A2 q c2 X p1 p2 p3 P.W (HXQ.out.below P.hb) hXl hqm hfb2))
                refine wp_region_below mixed (by kernel_rfl) ?_
                repeat (go_big_quiet_step (first
                  | (go_at_call 21; (with_reducible exact HC1.out _))
                  | (go_at_call 21; (with_reducible exact HC2.out _))))
                refine wpQuiet_nil ?_
                intro _ hw'
                obtain ⟨⟨W6, hb6⟩, hw''⟩ := hw'
                subst hw''
                clear d1 d2 d3 d4 d5 d6
                have HX6 := Lib.hid (HXQ.out.below hb6)
                have HR6 := Lib.hid (HRQ.out.below hb6)
                have HA6 := Lib.hid (HAQ.out.up hb6 HAQ.out.lt)
                have HP6 := Lib.hid (HPQ.out.up hb6 HPQ.out.lt)
                have HQ6 := Lib.hid (HQQ.out.up hb6 HQQ.out.lt)
                have HB6 := Lib.hid (nx HBQ.out hb6)
                have z0 := HQ6.out.cell 0 rfl
                have z1 := HQ6.out.cell 1 rfl
                have z2 := HQ6.out.cell 2 rfl
                clear hb6
                by_cases h1 : fb < fa
                · have h1d : decide (fb < fa) = true := decide_eq_true h1
                  by_cases h2 : 0 ≤ fl
                  · have HSUC : Hid ((stF L X cw F k).set k (fk + 1) = stF L X cw F (k + 1)) := Lib.hid (by rw [stF_succ hk8, hcnt.out, if_pos ⟨h1, h2⟩])
                    have ef : IntKind.i64.wrap (fk + 1) = fk + 1 := by rw [IntKind.wrap_i64]; omega
                    go_wp2_with (go_at_call 21; (with_reducible refine (refFind_is A m c L s1 s2 s3 _ HR6.out hmL hm8 hfl).mono ?_); rintro e W7 ⟨rfl, hb7⟩; have HA7 := Lib.hid (HA6.out.up hb7 HA6.out.lt); have HX7 := Lib.hid (HX6.out.below hb7); have HR7 := Lib.hid (HR6.out.below hb7); have HP7 := Lib.hid (HP6.out.up hb7 HP6.out.lt); have HB7 := Lib.hid (nx HB6.out hb7); clear hb7; have y0 := HA7.out.iv (k := k) (by rw [stF_len]; exact hk8); rw [stF_at hk8, if_neg (Nat.lt_irrefl k), hfk.out] at y0; have yf := HA7.out.fz k; have ylt := HA7.out.lt)
                    have HA8 := HA7.out.ivset k (fk + 1)
                    rw [HSUC.out] at HA8
                    go_roundw
                    case rel => exact ⟨k + 1, by omega, by go_num, Lib.hid HA8, Lib.hid (HR7.out.set hLo.out (Nat.lt_succ_self _) k _), Lib.hid (HX7.out.set HLo2.out (Nat.lt_succ_self _) k _), Lib.hid (HP7.out.aside hne1 k _), Lib.hid (HB7.out.setCell (p := ⟨w.heap.size, k, none⟩) (Nat.le_refl _) _)⟩
                    case measure => simp [intOf]; omega
                  · have HSUC : Hid (stF L X cw F (k + 1) = stF L X cw F k) := Lib.hid (stF_same hk8 (by rw [hcnt.out, if_neg (fun h => h2 h.2), hfk.out]))
                    have h2d : decide (0 ≤ fl) = false := decide_eq_false h2
                    go_wp2_with (go_at_call 21; (with_reducible refine (refFind_is A m c L s1 s2 s3 _ HR6.out hmL hm8 hfl).mono ?_); rintro e W7 ⟨rfl, hb7⟩; have HA7 := Lib.hid (HA6.out.up hb7 HA6.out.lt); have HX7 := Lib.hid (HX6.out.below hb7); have HR7 := Lib.hid (HR6.out.below hb7); have HP7 := Lib.hid (HP6.out.up hb7 HP6.out.lt); have HB7 := Lib.hid (nx HB6.out hb7); clear hb7)
                    go_roundw
                    case rel => exact ⟨k + 1, by omega, by go_num, Lib.hid (by rw [HSUC.out]; exact HA7.out), HR7, HX7, HP7, HB7⟩
                    case measure => simp [intOf]; omega
                · have HSUC : Hid (stF L X cw F (k + 1) = stF L X cw F k) := Lib.hid (stF_same hk8 (by rw [hcnt.out, if_neg (fun h => h1 h.1), hfk.out]))
                  have h1d : decide (fb < fa) = false := decide_eq_false h1
                  go_wp2
                  go_roundw
                  case rel => exact ⟨k + 1, by omega, by go_num, Lib.hid (by rw [HSUC.out]; exact HA6.out), HR6, HX6, HP6, HB6⟩
                  case measure => simp [intOf]; omega
            · have hk8 : k = 8 := by omega
              subst hk8
              obtain ⟨WE, hWE⟩ : ∃ W, W = WK := ⟨_, rfl⟩
              subst hWE
              obtain ⟨G, hG⟩ : ∃ G, Hid (stF L X cw F 8 = G) := ⟨_, Lib.hid rfl⟩
              have HAE := hArk
              have HXE := hXk
              have HBE := hBk
              have HFE := HFE0
              rw [hG.out] at HAE HFE
              clear hArk hRk hXk hPk hBk HX3 HR3 HA3 HB3 HP3 hP4 hgp
              go_wp2
              have hq8 : q ≤ 8 := by have h1 := HFE.out.vl.1; rw [hXl.out] at h1; exact h1
              go_loopw [15] (fun i wr => ∃ (a : Nat), a ≤ q ∧ i = .int .i64 a ∧ Hid (Below WE.heap.size WE wr)) (fun i _ => q - (intOf i).toNat)
              case atStart => exact ⟨0, by omega, rfl, Lib.hid (Below.refl _ _)⟩
              case round =>
                obtain ⟨a, ha, rfl, hB6⟩ := hrel
                by_cases hlt6 : (a : Int) < (q : Int)
                · obtain ⟨g, o2, x, y, z, m', v, p', u, rfl, hg, hx, t1, t2, t3, t4, t5, t6, t7⟩ := (HXE.out.below hB6.out).at_ (i := a) (by rw [hXl.out]; omega)
                  have ea : IntKind.i64.wrap ((a : Int) + 1) = (a : Int) + 1 := by rw [IntKind.wrap_i64]; omega
                  have haq : (a : Int) < (q : Int) := hlt6
                  have HZ6 : Hid (Z7 wr g (o2 + a * 7) ((x, y, z), (m', v), p', u)) := Lib.hid ⟨t1, t2, t3, t4, t5, t6, t7⟩
                  have haq2 : a < q := by omega
                  clear t1 t2 t3 t4 t5 t6 t7
                  obtain ⟨WR, hWR⟩ : ∃ W, W = wr := ⟨_, rfl⟩
                  subst hWR
                  go_wp2
                  go_loopw [16] (fun i wr => ∃ (k : Nat), k ≤ 8 ∧ i = .int .i64 k ∧ Hid (Below WR.heap.size WR wr)) (fun i _ => 8 - (intOf i).toNat)
                  case atStart => exact ⟨0, by omega, rfl, Lib.hid (Below.refl _ _)⟩
                  case round =>
                    obtain ⟨k, hk, rfl, hB7⟩ := hrel
                    obtain ⟨WS, hWS⟩ : ∃ W, W = wr := ⟨_, rfl⟩
                    subst hWS
                    by_cases hlt7 : (k : Int) < 8
                    · obtain ⟨s1, s2, s3, hqk⟩ : ∃ s1 s2 s3, Hid (pcN (k : Int) = (s1, s2, s3)) := ⟨_, _, _, Lib.hid rfl⟩
                      have hwfk : Hid ((Lit.int .i64 (k : Int)).wf = true) := Lib.hid (wf_small (by omega) (by omega))
                      have ek : IntKind.i64.wrap ((k : Int) + 1) = (k : Int) + 1 := by rw [IntKind.wrap_i64]; omega
                      have hk0 : (0 : Int) ≤ (k : Int) := by omega
                      have hk8 : k < 8 := by omega
                      have hk8d : (k : Int) < 8 := hlt7
                      obtain ⟨t1, t2, t3, t4, t5, t6, t7⟩ := HZ6.out.below hB7.out
                      have d1 := fun P : NxW WS => NxW.cell t1 P
                      have d2 := fun P : NxW WS => NxW.cell t2 P
                      have d3 := fun P : NxW WS => NxW.cell t3 P
                      have d7 := fun P : NxW WS => NxW.cell t7 P
                      have HAS := Lib.hid ((HAE.out.up hB6.out HAE.out.lt).up hB7.out (Nat.lt_of_lt_of_le HAE.out.lt hB6.out.size))
                      have d8 := fun P : NxW WS => NxW.cell (HAS.out.iv (k := k) (by rw [HFE.out.len]; exact hk8)) P
                      have HC := Lib.hid (fun P : NxW WS => Calls.nx_of P (proc_fn (k : Int) P.W hwfk hqk))
                      clear t1 t2 t3 t4 t5 t6 t7
                      by_cases he : x = s1 ∧ y = s2 ∧ z = s3
                      · have hee : ∀ W : World, (binOp .eql 24 (.agg #[.int .i64 x, .int .i64 y, .int .i64 z]) (.agg #[.int .i64 s1, .int .i64 s2, .int .i64 s3])).run Try.prog W = .ok (.bool true) W := fun W => by rw [eqPr]; simp [he]
                        have hck : u = G.getD k 0 ∧ G.getD k 0 ≤ 3 := by
                          have h1 := HFE.out.check (j := a) (m := k) (by rw [hXl.out]; exact haq2) hk8 (by rw [hx.out, hqk.out]; obtain ⟨e1, e2, e3⟩ := he; rw [e1, e2, e3])
                          rw [hx.out] at h1
                          exact h1
                        obtain ⟨hck1, hck2⟩ := hck
                        rw [← hck1] at d8 hck2
                        have hn3 : ¬ 3 < u := by omega
                        have hn3d : decide (3 < u) = false := decide_eq_false hn3
                        clear hck1 he
                        go_wp2
                        refine wp_region_below mixed (by kernel_rfl) ?_
                        repeat (go_big_quiet_step (first
                          | (go_at_call 28; exact HC.out _)))
                        refine wpQuiet_nil ?_
                        intro _ hw'
                        obtain ⟨⟨W8, hb8⟩, hw''⟩ := hw'
                        subst hw''
                        go_wp2
                        go_roundw
                        case rel => exact ⟨k + 1, by omega, by go_num, Lib.hid (nx hB7.out hb8)⟩
                        case measure => simp [intOf]; omega
                      · have hee : ∀ W : World, (binOp .eql 24 (.agg #[.int .i64 x, .int .i64 y, .int .i64 z]) (.agg #[.int .i64 s1, .int .i64 s2, .int .i64 s3])).run Try.prog W = .ok (.bool false) W := fun W => by rw [eqPr]; simp [he]
                        clear he
                        go_wp2
                        refine wp_region_below mixed (by kernel_rfl) ?_
                        repeat (go_big_quiet_step (first
                          | (go_at_call 28; exact HC.out _)))
                        refine wpQuiet_nil ?_
                        intro _ hw'
                        obtain ⟨⟨W8, hb8⟩, hw''⟩ := hw'
                        subst hw''
                        go_wp2
                        go_roundw
                        case rel => exact ⟨k + 1, by omega, by go_num, Lib.hid (nx hB7.out hb8)⟩
                        case measure => simp [intOf]; omega
                    · have hk8 : k = 8 := by omega
                      subst hk8
                      go_wp2
                      go_roundw
                      case rel => exact ⟨a + 1, by omega, by go_num, Lib.hid (nx hB6.out hB7.out)⟩
                      case measure => simp [intOf]; omega
                · go_wp2
                  go_roundw
                  case rel => exact ⟨j + 1, A2, q, c2, X, G, by omega, by go_num, rfl, Lib.hid ⟨hXl.out, HXE.out.below hB6.out, hqc⟩, HLo2, HFE, Lib.hid (HAE.out.up hB6.out HAE.out.lt), Lib.hid (nx HBE.out hB6.out)⟩
                  case measure => simp [intOf]; omega
      · have hvl : Hid (VL L) := Lib.hid hFa.out.vl
        go_wp2_with (first
          | (go_at_call 10; (with_reducible refine (awakeW_any _).mono ?_); rintro e W2 ⟨rfl, hb2⟩; have HR2 := Lib.hid (hHR.out.below hb2); have HB2 := Lib.hid (nx hB.out hb2); clear hb2)
          | (go_at_call 14; (with_reducible refine (refVL_is A m c L _ HR2.out hmL hm8 (r := true) (Lib.hid (iff_of_true hvl.out rfl))).mono ?_); rintro e W3 ⟨rfl, hb3⟩; have HB3 := Lib.hid (nx HB2.out hb3); clear hb3))
        go_ret
        exact ⟨rfl, HB3.out⟩
  · go_enter Try.func7, Try.ntmps7
    go_wp2_with (first
      | (go_at_call 25; refine (light_noJ A0 n0 c0 _ h300).mono ?_; rintro e W1 ⟨rfl, rfl⟩)
      | (go_at_call 10; refine (awakeW_any _).mono ?_; rintro e W2 ⟨rfl, hb2⟩; have HB2 := Lib.hid hb2; clear hb2))
    go_ret
    exact ⟨rfl, HB2.out⟩
end Go.Proofs.Ytfcekfdoafpmoaa
