/- LineFirst walked. (Written by mkfirst11.py.) -/
import Derived.Test.YtfcekfdoafpmoaaJg
namespace Go.Proofs.Ytfcekfdoafpmoaa
open Go.RowKit
set_option linter.unusedVariables false
set_option linter.unusedSimpArgs false

set_option maxHeartbeats 40000000 in
set_option maxRecDepth 20000 in
theorem LineFirst_walk (A0 : Option Addr) (n0 c0 : Nat) (x0 : List Int) (w : World) (w0 : InI w A0 n0 c0 x0) :
    Calls Try.prog 8 #[.slice A0 n0 c0] w fun e w' => e = .returned (.bool true) ∧ Below w.heap.size w w' := by
  have HI := Lib.hid w0
  have hn : Hid (x0.length = n0) := w0.len
  clear w0
  have mixed : Try.prog.follows .mixedOrders = true := by kernel_rfl
  by_cases h300 : (n0 : Int) ≤ 300
  · have HK0 : Hid (Blk (w.alloc (.cells #[.int .i64 0, .int .i64 0, .int .i64 0, .int .i64 0, .int .i64 0, .int .i64 0, .int .i64 0, .int .i64 0] 46)) w.heap.size (ivL [0, 0, 0, 0, 0, 0, 0, 0])) := Lib.hid (Blk.new w [.int .i64 0, .int .i64 0, .int .i64 0, .int .i64 0, .int .i64 0, .int .i64 0, .int .i64 0, .int .i64 0] 46 rfl)
    go_enter Try.func8, Try.ntmps8
    go_wp2_with (go_at_call 25; refine (light_yesJ A0 n0 c0 _ h300).mono ?_; rintro e W1 ⟨rfl, rfl⟩)
    go_loopw [3, 5] (fun V i wr => ∃ (j : Nat) (A : Option Addr) (m c : Nat) (L : List Wt) (F : List Int), j ≤ n0 ∧ i = .int .i64 j ∧ V = .slice A m c ∧ Hid (InW wr A m c L) ∧ Hid (LoB (w.heap.size + 1) A) ∧ Hid (Ca L F j) ∧ Hid (Blk wr w.heap.size (ivL F)) ∧ Hid (Below w.heap.size w wr)) (fun _ i _ => n0 - (intOf i).toNat)
    case atStart => exact ⟨0, none, 0, 0, [], [0, 0, 0, 0, 0, 0, 0, 0], by omega, rfl, rfl, Lib.hid ⟨rfl, WRd.nil _ _, Nat.le_refl _⟩, Lib.hid (LoB.none _), Lib.hid Ca.start, HK0, Lib.hid (newB _ _)⟩
    case round =>
      obtain ⟨j, A, m, c, L, F, hj, rfl, rfl, hIn, hLo, hFa, hAr, hB⟩ := hrel
      by_cases hlt : (j : Int) < (n0 : Int)
      · obtain ⟨b, o, rfl, hb, hcell⟩ := (HI.out.rd.below hB.out).at_ (i := j) (by rw [hn.out]; omega)
        obtain ⟨s, hs⟩ : ∃ s, Hid (x0.getD j 0 = s) := ⟨_, Lib.hid rfl⟩
        have hwfs : (Lit.int .i64 s).wf = true := by
          have hjl : j < x0.length := by rw [hn.out]; omega
          have h1 : x0.getD j 0 ∈ x0 := by rw [List.getD_eq_getElem?_getD, List.getElem?_eq_getElem hjl]; exact List.getElem_mem hjl
          have h2 := HI.out.wf _ h1
          rw [hs.out] at h2
          exact h2
        rw [hs.out] at hcell
        obtain ⟨nn, hnn⟩ : ∃ nn, Hid (s % 400 = nn) := ⟨_, Lib.hid rfl⟩
        have hnn0 : 0 ≤ nn := by rw [← hnn.out]; exact Int.emod_nonneg _ (by omega)
        have hnn4 : nn < 400 := by rw [← hnn.out]; exact Int.emod_lt_of_pos _ (by omega)
        have e2 : Int.tdiv nn 5 = nn / 5 := Int.tdiv_eq_ediv_of_nonneg hnn0
        have hd0 : 0 ≤ nn / 5 ∧ nn / 5 < 80 := by omega
        have e3 : IntKind.i64.wrap (nn / 5) = nn / 5 := by rw [IntKind.wrap_i64]; omega
        have hwf5 : (Lit.int .i64 (nn / 5)).wf = true := wf_small (by omega) (by omega)
        have ej : IntKind.i64.wrap ((j : Int) + 1) = (j : Int) + 1 := by rw [IntKind.wrap_i64]; omega
        have hj0 : (0 : Int) ≤ (j : Int) := by omega
        obtain ⟨kk, hkk, hkk8⟩ : ∃ kk : Nat, Hid (nn / 5 % 8 = (kk : Int)) ∧ kk < 8 := by
          have h1 : 0 ≤ nn / 5 % 8 := Int.emod_nonneg _ (by omega)
          have h2 : nn / 5 % 8 < 8 := Int.emod_lt_of_pos _ (by omega)
          exact ⟨(nn / 5 % 8).toNat, Lib.hid (by omega), by omega⟩
        have hkk0 : (0 : Int) ≤ (kk : Int) := by omega
        have hkk7 : (kk : Int) < 8 := by omega
        obtain ⟨X, put, hX⟩ : ∃ X put, Hid (stpW L nn = (X, put)) := ⟨_, _, Lib.hid rfl⟩
        have hBs : w.heap.size + 1 ≤ wr.heap.size := hAr.out.lt
        have HS := Lib.hid (step_is A m c L nn wr hIn.out (Lib.hid hFa.out.vl) hnn0 hnn4 hX hLo.out hBs)
        have hFl : Hid (F.length = 8) := Lib.hid hFa.out.len
        clear hBs hd0
        cases put with
        | false =>
          have HFE := Lib.hid (hFa.out.no hX.out)
          clear hFa
          go_wp2_with (first
            | (go_at_call 26; (with_reducible refine (mod_is s 400 _ hwfs (by omega) (by omega) hnn).mono ?_); rintro e W1 ⟨rfl, rfl⟩)
            | (go_at_call 27; (with_reducible refine HS.out.mono ?_); rintro e W2 ⟨⟨A2, q, c2, rfl, hi2, hlo2⟩, hb2⟩; have hXl : Hid (X.length = q) := Lib.hid hi2.len; have hqc : q ≤ c2 := hi2.fit; have HX2 := Lib.hid hi2.rd; have HLo2 := Lib.hid hlo2; have HA2 := Lib.hid (hAr.out.up hb2 hAr.out.lt); have HB2 := Lib.hid (nx hB.out hb2); clear hi2 hlo2 hb2))
          obtain ⟨WE, hWE⟩ : ∃ W, W = W2 := ⟨_, rfl⟩
          subst hWE
          obtain ⟨G, hG⟩ : ∃ G, Hid (F = G) := ⟨_, Lib.hid rfl⟩
          have HXE := HX2
          have HAE := HA2
          have HBE := HB2
          rw [hG.out] at HAE HFE
          clear hAr hIn HX2 HA2 HB2
          have hq8 : q ≤ 8 := by have h1 := HFE.out.vl.1; rw [hXl.out] at h1; exact h1
          go_loopw [10] (fun i wr => ∃ (a : Nat), a ≤ q ∧ i = .int .i64 a ∧ Hid (Below WE.heap.size WE wr)) (fun i _ => q - (intOf i).toNat)
          case atStart => exact ⟨0, by omega, rfl, Lib.hid (Below.refl _ _)⟩
          case round =>
            obtain ⟨a, ha, rfl, hB6⟩ := hrel
            by_cases hlt6 : (a : Int) < (q : Int)
            · have ea : IntKind.i64.wrap ((a : Int) + 1) = (a : Int) + 1 := by rw [IntKind.wrap_i64]; omega
              have haq : (a : Int) < (q : Int) := hlt6
              have haq2 : a < q := by omega
              have ha0 : (0 : Int) ≤ (a : Int) := by omega
              obtain ⟨WR, hWR⟩ : ∃ W, W = wr := ⟨_, rfl⟩
              subst hWR
              go_wp2
              go_loopw [11] (fun i wr => ∃ (b2 : Nat), a < b2 ∧ b2 ≤ q ∧ i = .int .i64 b2 ∧ Hid (Below WR.heap.size WR wr)) (fun i _ => q - (intOf i).toNat)
              case atStart => exact ⟨a + 1, by omega, by omega, by go_num, Lib.hid (Below.refl _ _)⟩
              case round =>
                obtain ⟨b2, hab, hbq, rfl, hB7⟩ := hrel
                obtain ⟨WS, hWS⟩ : ∃ W, W = wr := ⟨_, rfl⟩
                subst hWS
                by_cases hlt7 : (b2 : Int) < (q : Int)
                · have hbq2 : b2 < q := by omega
                  have hb0 : (0 : Int) ≤ (b2 : Int) := by omega
                  have eb : IntKind.i64.wrap ((b2 : Int) + 1) = (b2 : Int) + 1 := by rw [IntKind.wrap_i64]; omega
                  have HXS := HXE.out.below (nx hB6.out hB7.out)
                  obtain ⟨g, o2, x, y, z, m', v, p', u, hA1, hg, hx, t1, t2, t3, t4, t5, t6, t7⟩ := HXS.at_ (i := a) (by rw [hXl.out]; omega)
                  obtain ⟨g2, o3, x', y', z', m2, v2, p2, u2, hA2, hg2, hx2, r1, r2, r3, r4, r5, r6, r7⟩ := HXS.at_ (i := b2) (by rw [hXl.out]; omega)
                  subst hA1
                  obtain ⟨rfl, rfl⟩ : g = g2 ∧ o2 = o3 := by simpa using hA2
                  obtain ⟨k1, hk1, hk18⟩ := HFE.out.nu (a := a) (by rw [hXl.out]; omega)
                  obtain ⟨k2, hk2, hk28⟩ := HFE.out.nu (a := b2) (by rw [hXl.out]; omega)
                  have hmx := HFE.out.mem _ (getD_memW (l := X) (i := a) (by rw [hXl.out]; omega))
                  have hmx2 := HFE.out.mem _ (getD_memW (l := X) (i := b2) (by rw [hXl.out]; omega))
                  have hck : Hid (p' = p2 → G.getD k1 0 ≤ G.getD k2 0) := Lib.hid (fun e => HFE.out.check hab (by rw [hXl.out]; exact hbq2) (by rw [hx.out, hx2.out]; exact e) hk1 hk2)
                  rw [hx.out] at hk1 hmx
                  rw [hx2.out] at hk2 hmx2
                  have HC1 := Lib.hid (fun P : NxW WS => Calls.nx_of P (number_is x y z P.W (Lib.hid hmx) (Lib.hid hk1)))
                  have HC2 := Lib.hid (fun P : NxW WS => Calls.nx_of P (number_is x' y' z' P.W (Lib.hid hmx2) (Lib.hid hk2)))
                  have HAS := Lib.hid ((HAE.out.up hB6.out HAE.out.lt).up hB7.out (Nat.lt_of_lt_of_le HAE.out.lt hB6.out.size))
                  have j1 := HAS.out.iv (k := k1) (by rw [HFE.out.len]; exact hk18)
                  have j2 := HAS.out.iv (k := k2) (by rw [HFE.out.len]; exact hk28)
                  obtain ⟨y1, hy1⟩ : ∃ y1, Hid (G.getD k1 0 = y1) := ⟨_, Lib.hid rfl⟩
                  obtain ⟨y2, hy2⟩ : ∃ y2, Hid (G.getD k2 0 = y2) := ⟨_, Lib.hid rfl⟩
                  rw [hy1.out, hy2.out] at hck
                  rw [hy1.out] at j1
                  rw [hy2.out] at j2
                  have d1 := fun P : NxW WS => NxW.cell t1 P
                  have d2 := fun P : NxW WS => NxW.cell t2 P
                  have d3 := fun P : NxW WS => NxW.cell t3 P
                  have d6 := fun P : NxW WS => NxW.cell t6 P
                  have s1 := fun P : NxW WS => NxW.cell r1 P
                  have s2 := fun P : NxW WS => NxW.cell r2 P
                  have s3 := fun P : NxW WS => NxW.cell r3 P
                  have s6 := fun P : NxW WS => NxW.cell r6 P
                  have d8 := fun P : NxW WS => NxW.cell j1 P
                  have d9 := fun P : NxW WS => NxW.cell j2 P
                  have q1 : (0 : Int) ≤ (k1 : Int) := by omega
                  have q2 : (k1 : Int) < 8 := by omega
                  have q3 : (0 : Int) ≤ (k2 : Int) := by omega
                  have q4 : (k2 : Int) < 8 := by omega
                  clear j1 j2 t1 t2 t3 t4 t5 t6 t7 r1 r2 r3 r4 r5 r6 r7 hk1 hk2 hmx hmx2 hx hx2
                  by_cases he : p' = p2
                  · subst he
                    have hle := hck.out rfl
                    have hgt : ¬ y2 < y1 := by omega
                    have hgtd : decide (y2 < y1) = false := decide_eq_false hgt
                    clear hle hck
                    go_wp2
                    refine wp_region_below mixed (by kernel_rfl) ?_
                    repeat (go_big_quiet_step (first
                      | (go_at_call 29; (with_reducible exact HC1.out _))
                      | (go_at_call 29; (with_reducible exact HC2.out _))))
                    refine wpQuiet_nil ?_
                    intro _ hw'
                    obtain ⟨⟨W8, hb8⟩, hw''⟩ := hw'
                    subst hw''
                    go_wp2
                    go_roundw
                    case rel => exact ⟨b2 + 1, by omega, by omega, by go_num, Lib.hid (nx hB7.out hb8)⟩
                    case measure => simp [intOf]; omega
                  · have hed : (p' == p2) = false := beq_eq_false_iff_ne.2 he
                    clear hck he
                    go_wp2
                    refine wp_region_below mixed (by kernel_rfl) ?_
                    repeat (go_big_quiet_step (first
                      | (go_at_call 29; (with_reducible exact HC1.out _))
                      | (go_at_call 29; (with_reducible exact HC2.out _))))
                    refine wpQuiet_nil ?_
                    intro _ hw'
                    obtain ⟨⟨W8, hb8⟩, hw''⟩ := hw'
                    subst hw''
                    go_wp2
                    go_roundw
                    case rel => exact ⟨b2 + 1, by omega, by omega, by go_num, Lib.hid (nx hB7.out hb8)⟩
                    case measure => simp [intOf]; omega
                · have hbe : b2 = q := by omega
                  subst hbe
                  go_wp2
                  go_roundw
                  case rel => exact ⟨a + 1, by omega, by go_num, Lib.hid (nx hB6.out hB7.out)⟩
                  case measure => simp [intOf]; omega
            · go_wp2
              go_roundw
              case rel => exact ⟨j + 1, A2, q, c2, X, G, by omega, by go_num, rfl, Lib.hid ⟨hXl.out, HXE.out.below hB6.out, hqc⟩, HLo2, HFE, Lib.hid (HAE.out.up hB6.out HAE.out.lt), Lib.hid (nx HBE.out hB6.out)⟩
              case measure => simp [intOf]; omega
        | true =>
          have HFE := Lib.hid (hFa.out.yes hX.out hkk.out)
          clear hFa
          go_wp2_with (first
            | (go_at_call 26; (with_reducible refine (mod_is s 400 _ hwfs (by omega) (by omega) hnn).mono ?_); rintro e W1 ⟨rfl, rfl⟩)
            | (go_at_call 27; (with_reducible refine HS.out.mono ?_); rintro e W2 ⟨⟨A2, q, c2, rfl, hi2, hlo2⟩, hb2⟩; have hXl : Hid (X.length = q) := Lib.hid hi2.len; have hqc : q ≤ c2 := hi2.fit; have HX2 := Lib.hid hi2.rd; have HLo2 := Lib.hid hlo2; have HA2 := Lib.hid (hAr.out.up hb2 hAr.out.lt); have HB2 := Lib.hid (nx hB.out hb2); clear hi2 hlo2 hb2; have y0 := HA2.out.iv (k := kk) (by rw [hFl.out]; exact hkk8); have yf := HA2.out.fz kk; have ylt := HA2.out.lt)
            | (go_at_call 26; (with_reducible refine (mod_is (nn / 5) 8 _ hwf5 (by omega) (by omega) hkk).mono ?_); rintro e W3 ⟨rfl, rfl⟩))
          obtain ⟨WE, hWE⟩ : ∃ WE, Hid (W2.setCell ⟨w.heap.size, kk, none⟩ (.int .i64 (j : Int)) = WE) := ⟨_, rfl⟩
          obtain ⟨G, hG⟩ : ∃ G, Hid (F.set kk (j : Int) = G) := ⟨_, Lib.hid rfl⟩
          have HXE : Hid (WRd WE A2 X) := Lib.hid (by rw [← hWE.out]; exact HX2.out.set HLo2.out (Nat.lt_succ_self _) kk _)
          have HAE : Hid (Blk WE w.heap.size (ivL G)) := Lib.hid (by rw [← hWE.out, ← hG.out]; exact HA2.out.ivset kk _)
          have HBE : Hid (Below w.heap.size w WE) := Lib.hid (by rw [← hWE.out]; exact HB2.out.setCell (p := ⟨w.heap.size, kk, none⟩) (Nat.le_refl _) _)
          rw [hG.out] at HFE
          rw [hWE.out]
          clear hAr hIn HX2 HA2 HB2 y0 yf ylt
          have hq8 : q ≤ 8 := by have h1 := HFE.out.vl.1; rw [hXl.out] at h1; exact h1
          go_loopw [10] (fun i wr => ∃ (a : Nat), a ≤ q ∧ i = .int .i64 a ∧ Hid (Below WE.heap.size WE wr)) (fun i _ => q - (intOf i).toNat)
          case atStart => exact ⟨0, by omega, rfl, Lib.hid (Below.refl _ _)⟩
          case round =>
            obtain ⟨a, ha, rfl, hB6⟩ := hrel
            by_cases hlt6 : (a : Int) < (q : Int)
            · have ea : IntKind.i64.wrap ((a : Int) + 1) = (a : Int) + 1 := by rw [IntKind.wrap_i64]; omega
              have haq : (a : Int) < (q : Int) := hlt6
              have haq2 : a < q := by omega
              have ha0 : (0 : Int) ≤ (a : Int) := by omega
              obtain ⟨WR, hWR⟩ : ∃ W, W = wr := ⟨_, rfl⟩
              subst hWR
              go_wp2
              go_loopw [11] (fun i wr => ∃ (b2 : Nat), a < b2 ∧ b2 ≤ q ∧ i = .int .i64 b2 ∧ Hid (Below WR.heap.size WR wr)) (fun i _ => q - (intOf i).toNat)
              case atStart => exact ⟨a + 1, by omega, by omega, by go_num, Lib.hid (Below.refl _ _)⟩
              case round =>
                obtain ⟨b2, hab, hbq, rfl, hB7⟩ := hrel
                obtain ⟨WS, hWS⟩ : ∃ W, W = wr := ⟨_, rfl⟩
                subst hWS
                by_cases hlt7 : (b2 : Int) < (q : Int)
                · have hbq2 : b2 < q := by omega
                  have hb0 : (0 : Int) ≤ (b2 : Int) := by omega
                  have eb : IntKind.i64.wrap ((b2 : Int) + 1) = (b2 : Int) + 1 := by rw [IntKind.wrap_i64]; omega
                  have HXS := HXE.out.below (nx hB6.out hB7.out)
                  obtain ⟨g, o2, x, y, z, m', v, p', u, hA1, hg, hx, t1, t2, t3, t4, t5, t6, t7⟩ := HXS.at_ (i := a) (by rw [hXl.out]; omega)
                  obtain ⟨g2, o3, x', y', z', m2, v2, p2, u2, hA2, hg2, hx2, r1, r2, r3, r4, r5, r6, r7⟩ := HXS.at_ (i := b2) (by rw [hXl.out]; omega)
                  subst hA1
                  obtain ⟨rfl, rfl⟩ : g = g2 ∧ o2 = o3 := by simpa using hA2
                  obtain ⟨k1, hk1, hk18⟩ := HFE.out.nu (a := a) (by rw [hXl.out]; omega)
                  obtain ⟨k2, hk2, hk28⟩ := HFE.out.nu (a := b2) (by rw [hXl.out]; omega)
                  have hmx := HFE.out.mem _ (getD_memW (l := X) (i := a) (by rw [hXl.out]; omega))
                  have hmx2 := HFE.out.mem _ (getD_memW (l := X) (i := b2) (by rw [hXl.out]; omega))
                  have hck : Hid (p' = p2 → G.getD k1 0 ≤ G.getD k2 0) := Lib.hid (fun e => HFE.out.check hab (by rw [hXl.out]; exact hbq2) (by rw [hx.out, hx2.out]; exact e) hk1 hk2)
                  rw [hx.out] at hk1 hmx
                  rw [hx2.out] at hk2 hmx2
                  have HC1 := Lib.hid (fun P : NxW WS => Calls.nx_of P (number_is x y z P.W (Lib.hid hmx) (Lib.hid hk1)))
                  have HC2 := Lib.hid (fun P : NxW WS => Calls.nx_of P (number_is x' y' z' P.W (Lib.hid hmx2) (Lib.hid hk2)))
                  have HAS := Lib.hid ((HAE.out.up hB6.out HAE.out.lt).up hB7.out (Nat.lt_of_lt_of_le HAE.out.lt hB6.out.size))
                  have j1 := HAS.out.iv (k := k1) (by rw [HFE.out.len]; exact hk18)
                  have j2 := HAS.out.iv (k := k2) (by rw [HFE.out.len]; exact hk28)
                  obtain ⟨y1, hy1⟩ : ∃ y1, Hid (G.getD k1 0 = y1) := ⟨_, Lib.hid rfl⟩
                  obtain ⟨y2, hy2⟩ : ∃ y2, Hid (G.getD k2 0 = y2) := ⟨_, Lib.hid rfl⟩
                  rw [hy1.out, hy2.out] at hck
                  rw [hy1.out] at j1
                  rw [hy2.out] at j2
                  have d1 := fun P : NxW WS => NxW.cell t1 P
                  have d2 := fun P : NxW WS => NxW.cell t2 P
                  have d3 := fun P : NxW WS => NxW.cell t3 P
                  have d6 := fun P : NxW WS => NxW.cell t6 P
                  have s1 := fun P : NxW WS => NxW.cell r1 P
                  have s2 := fun P : NxW WS => NxW.cell r2 P
                  have s3 := fun P : NxW WS => NxW.cell r3 P
                  have s6 := fun P : NxW WS => NxW.cell r6 P
                  have d8 := fun P : NxW WS => NxW.cell j1 P
                  have d9 := fun P : NxW WS => NxW.cell j2 P
                  have q1 : (0 : Int) ≤ (k1 : Int) := by omega
                  have q2 : (k1 : Int) < 8 := by omega
                  have q3 : (0 : Int) ≤ (k2 : Int) := by omega
                  have q4 : (k2 : Int) < 8 := by omega
                  clear j1 j2 t1 t2 t3 t4 t5 t6 t7 r1 r2 r3 r4 r5 r6 r7 hk1 hk2 hmx hmx2 hx hx2
                  by_cases he : p' = p2
                  · subst he
                    have hle := hck.out rfl
                    have hgt : ¬ y2 < y1 := by omega
                    have hgtd : decide (y2 < y1) = false := decide_eq_false hgt
                    clear hle hck
                    go_wp2
                    refine wp_region_below mixed (by kernel_rfl) ?_
                    repeat (go_big_quiet_step (first
                      | (go_at_call 29; (with_reducible exact HC1.out _))
                      | (go_at_call 29; (with_reducible exact HC2.out _))))
                    refine wpQuiet_nil ?_
                    intro _ hw'
                    obtain ⟨⟨W8, hb8⟩, hw''⟩ := hw'
                    subst hw''
                    go_wp2
                    go_roundw
                    case rel => exact ⟨b2 + 1, by omega, by omega, by go_num, Lib.hid (nx hB7.out hb8)⟩
                    case measure => simp [intOf]; omega
                  · have hed : (p' == p2) = false := beq_eq_false_iff_ne.2 he
                    clear hck he
                    go_wp2
                    refine wp_region_below mixed (by kernel_rfl) ?_
                    repeat (go_big_quiet_step (first
                      | (go_at_call 29; (with_reducible exact HC1.out _))
                      | (go_at_call 29; (with_reducible exact HC2.out _))))
                    refine wpQuiet_nil ?_
                    intro _ hw'
                    obtain ⟨⟨W8, hb8⟩, hw''⟩ := hw'
                    subst hw''
                    go_wp2
                    go_roundw
                    case rel => exact ⟨b2 + 1, by omega, by omega, by go_num, Lib.hid (nx hB7.out hb8)⟩
                    case measure => simp [intOf]; omega
                · have hbe : b2 = q := by omega
                  subst hbe
                  go_wp2
                  go_roundw
                  case rel => exact ⟨a + 1, by omega, by go_num, Lib.hid (nx hB6.out hB7.out)⟩
                  case measure => simp [intOf]; omega
            · go_wp2
              go_roundw
              case rel => exact ⟨j + 1, A2, q, c2, X, G, by omega, by go_num, rfl, Lib.hid ⟨hXl.out, HXE.out.below hB6.out, hqc⟩, HLo2, HFE, Lib.hid (HAE.out.up hB6.out HAE.out.lt), Lib.hid (nx HBE.out hB6.out)⟩
              case measure => simp [intOf]; omega
      · go_wp2_with (go_at_call 10; (with_reducible refine (awakeW_any _).mono ?_); rintro e W2 ⟨rfl, hb2⟩; have HB2 := Lib.hid (nx hB.out hb2); clear hb2)
        go_ret
        exact ⟨rfl, HB2.out⟩
  · go_enter Try.func8, Try.ntmps8
    go_wp2_with (first
      | (go_at_call 25; refine (light_noJ A0 n0 c0 _ h300).mono ?_; rintro e W1 ⟨rfl, rfl⟩)
      | (go_at_call 10; refine (awakeW_any _).mono ?_; rintro e W2 ⟨rfl, hb2⟩; have HB2 := Lib.hid hb2; clear hb2))
    go_ret
    exact ⟨rfl, HB2.out⟩
end Go.Proofs.Ytfcekfdoafpmoaa
