/- Contracts of the reference: Valid of grants; lists that are the same. -/
import Derived.Test.YthclgccgkdijbaaDoorHrf
namespace Go.Proofs.YthclgccgkdijbaaDoor
open Go.RowKit
set_option linter.unusedVariables false
set_option linter.unusedSimpArgs false

theorem neqHold (a b c m n x y z p q : Int) (w : World) : (binOp .neq 53 (hag a b c m n) (hag x y z p q)).run Tryd.prog w = .ok (.bool (!decide (a = x ∧ b = y ∧ c = z ∧ m = p ∧ n = q))) w := by
  have h := eqHold a b c m n x y z p q w
  simp only [binOp, Sem.run_bind] at h ⊢
  generalize (Op.equal 53 (hag a b c m n) (hag x y z p q)).run Tryd.prog w = r at h ⊢
  cases r with
  | ok v w1 =>
    simp only [Result.andThen_ok, Sem.run_pure, Result.ok.injEq, Value.bool.injEq] at h ⊢
    exact ⟨by rw [h.1], h.2⟩
  | halt h1 w1 => simp [Result.andThen] at h
set_option maxHeartbeats 2000000 in
set_option maxRecDepth 8000 in
theorem sameHolds_yes (A B : Option Addr) (n c c' : Nat) (l : List Hd) (w : World) (hA : HRd w A l) (hB : HRd w B l) (hn : Hid (l.length = n)) (hm : Hid (n ≤ 1000)) :
    Calls Tryd.prog 19 #[.slice A n c, .slice B n c'] w fun e w' => e = .returned (.bool true) ∧ Below w.heap.size w w' := by
  have HA := Lib.hid hA
  have HB := Lib.hid hB
  clear hA hB
  go_enter Tryd.func19, Tryd.ntmps19
  go_wp2
  go_loopw [5] (fun i wr => ∃ (k : Nat), k ≤ n ∧ i = .int .i64 k ∧ Hid (Below w.heap.size w wr)) (fun i _ => n - (intOf i).toNat)
  case atStart => exact ⟨0, by omega, rfl, Below.refl _ _⟩
  case round =>
    obtain ⟨k, hk, rfl, hbl⟩ := hrel
    by_cases hlt : (k : Int) < (n : Int)
    · obtain ⟨g, o, x, y, z, m, v, rfl, hg, hx, c1, c2, c3, c4, c5⟩ := (HA.out.below hbl.out).at_ (i := k) (by have := hn.out; omega)
      obtain ⟨g', o', x', y', z', m', v', rfl, hg', hx', d1, d2, d3, d4, d5⟩ := (HB.out.below hbl.out).at_ (i := k) (by have := hn.out; omega)
      have hxx := hx.out.symm.trans hx'.out
      simp only [Prod.mk.injEq] at hxx
      obtain ⟨⟨rfl, rfl, rfl⟩, rfl, rfl⟩ := hxx
      have e5 : IntKind.i64.wrap ((k : Int) + 1) = (k : Int) + 1 := by have := hm.out; rw [IntKind.wrap_i64]; omega
      have hne : ∀ W : World, (binOp .neq 53 (hag x y z m v) (hag x y z m v)).run Tryd.prog W = .ok (.bool false) W := fun W => by rw [neqHold]; simp
      go_wp2
      go_quiet (fail)
      go_wp2
      go_roundw
      case rel => exact ⟨k + 1, by omega, by go_num, bdN hbl.out _⟩
      case measure => simp [intOf]; omega
    · go_wp2
      go_ret
      exact ⟨rfl, hbl.out⟩
set_option maxHeartbeats 2000000 in
set_option maxRecDepth 8000 in
theorem sameProcs_yes (A B : Option Addr) (n c c' : Nat) (l : List P3) (w : World) (hA : PRd w A l) (hB : PRd w B l) (hn : Hid (l.length = n)) (hm : Hid (n ≤ 1000)) :
    Calls Tryd.prog 16 #[.slice A n c, .slice B n c'] w fun e w' => e = .returned (.bool true) ∧ Below w.heap.size w w' := by
  have HA := Lib.hid hA
  have HB := Lib.hid hB
  clear hA hB
  go_enter Tryd.func16, Tryd.ntmps16
  go_wp2
  go_loopw [5] (fun i wr => ∃ (k : Nat), k ≤ n ∧ i = .int .i64 k ∧ Hid (Below w.heap.size w wr)) (fun i _ => n - (intOf i).toNat)
  case atStart => exact ⟨0, by omega, rfl, Below.refl _ _⟩
  case round =>
    obtain ⟨k, hk, rfl, hbl⟩ := hrel
    by_cases hlt : (k : Int) < (n : Int)
    · obtain ⟨g, o, x, y, z, rfl, hg, hx, c1, c2, c3⟩ := (HA.out.below hbl.out).at_ (i := k) (by have := hn.out; omega)
      obtain ⟨g', o', x', y', z', rfl, hg', hx', d1, d2, d3⟩ := (HB.out.below hbl.out).at_ (i := k) (by have := hn.out; omega)
      have hxx := hx.out.symm.trans hx'.out
      simp only [Prod.mk.injEq] at hxx
      obtain ⟨rfl, rfl, rfl⟩ := hxx
      have e5 : IntKind.i64.wrap ((k : Int) + 1) = (k : Int) + 1 := by have := hm.out; rw [IntKind.wrap_i64]; omega
      have hne : ∀ W : World, (binOp .neq 26 (.agg #[.int .i64 x, .int .i64 y, .int .i64 z]) (.agg #[.int .i64 x, .int .i64 y, .int .i64 z])).run Tryd.prog W = .ok (.bool false) W := fun W => by rw [neqPr]; simp
      go_wp2
      go_quiet (fail)
      go_wp2
      go_roundw
      case rel => exact ⟨k + 1, by omega, by go_num, bdN hbl.out _⟩
      case measure => simp [intOf]; omega
    · go_wp2
      go_ret
      exact ⟨rfl, hbl.out⟩
set_option maxHeartbeats 8000000 in
set_option maxRecDepth 20000 in
theorem refValidH_is (s : ByteArray) (k u hm : Int) (A : Option Addr) (n c : Nat) (l : List Hd) (w : World) (hl : HRd w A l) (hn : Hid (l.length = n)) (hbig : Hid (n ≤ 1000)) {r : Bool} (hr : Hid (VH k u l ↔ r = true)) :
    Calls Tryd.prog 13 #[ra s k u hm, .slice A n c] w fun e w' => e = .returned (.bool r) ∧ Below w.heap.size w w' := by
  have HR := Lib.hid hl
  clear hl
  have HK0 := Lib.hid (Blk.new w [.string s, .int .i64 k, .int .i64 u, .int .i64 hm] 23 rfl)
  obtain ⟨sh, hsh⟩ : ∃ sh, Hid (shp k u = sh) := ⟨_, Lib.hid rfl⟩
  by_cases hgo : sh = false ∨ 8 < (n : Int)
  · have hend : Hid (r = false) := iffNo hr.out (fun h => by
      rcases hgo with hgo | hgo
      · have := h.1; rw [hsh.out, hgo] at this; cases this
      · have := h.2.1; have := hn.out; omega)
    clear hr
    rcases hgo with rfl | h8
    · go_enter Tryd.func13, Tryd.ntmps13
      go_wp2_with (go_at_call 37; refine (refShaped_is s k u hm _ hsh).mono ?_; rintro e W1 ⟨rfl, hb1⟩; have HB1 := Lib.hid (dn1 hb1); clear hb1)
      go_ret
      exact ⟨ret_bool hend.out.symm, HB1.out⟩
    · cases sh with
      | false =>
        go_enter Tryd.func13, Tryd.ntmps13
        go_wp2_with (go_at_call 37; refine (refShaped_is s k u hm _ hsh).mono ?_; rintro e W1 ⟨rfl, hb1⟩; have HB1 := Lib.hid (dn1 hb1); clear hb1)
        go_ret
        exact ⟨ret_bool hend.out.symm, HB1.out⟩
      | true =>
        go_enter Tryd.func13, Tryd.ntmps13
        go_wp2_with (go_at_call 37; refine (refShaped_is s k u hm _ hsh).mono ?_; rintro e W1 ⟨rfl, hb1⟩; have HB1 := Lib.hid (dn1 hb1); clear hb1)
        go_ret
        exact ⟨ret_bool hend.out.symm, HB1.out⟩
  · obtain rfl : sh = true := by
      cases sh
      · exact absurd (Or.inl rfl) hgo
      · rfl
    have h8 : ¬ 8 < (n : Int) := fun h => hgo (Or.inr h)
    have hn8 : n ≤ 8 := by omega
    clear hgo
    go_enter Tryd.func13, Tryd.ntmps13
    go_wp2_with (go_at_call 37; refine (refShaped_is s k u hm _ hsh).mono ?_; rintro e W1 ⟨rfl, hb1⟩; have HB1 := Lib.hid (dn1 hb1); have HK1 := Lib.hid (HK0.out.up hb1 HK0.out.lt); clear hb1)
    go_loopw [5] (fun i wr => ∃ (j : Nat), j ≤ n ∧ i = .int .i64 j ∧ Hid (Blk wr w.heap.size [.string s, .int .i64 k, .int .i64 u, .int .i64 hm]) ∧ Hid (Below w.heap.size w wr) ∧ Hid (∀ i, i < j → okH k u l i)) (fun i _ => n - (intOf i).toNat)
    case atStart => exact ⟨0, by omega, rfl, HK1, HB1, fun i hi => by omega⟩
    case round =>
      obtain ⟨j, hj, rfl, hK, hB, hall⟩ := hrel
      obtain ⟨WB, hWB⟩ : ∃ W, W = wr := ⟨_, rfl⟩
      subst hWB
      have mixed : Tryd.prog.follows .mixedOrders = true := by kernel_rfl
      by_cases hlt : (j : Int) < (n : Int)
      · obtain ⟨g, o, x, y, z, m, v, rfl, hg, hx, c1, c2, c3, c4, c5⟩ := (HR.out.below hB.out).at_ (i := j) (by have := hn.out; omega)
        have e5 : IntKind.i64.wrap ((j : Int) + 1) = (j : Int) + 1 := by rw [IntKind.wrap_i64]; omega
        have k1 : ∀ p : NxW WB, p.W.cell? ⟨g, o + j * 5, none⟩ = some (.int .i64 x) := NxW.cell c1
        have k2 : ∀ p : NxW WB, p.W.cell? ⟨g, o + j * 5 + 1, none⟩ = some (.int .i64 y) := NxW.cell c2
        have k3 : ∀ p : NxW WB, p.W.cell? ⟨g, o + j * 5 + 2, none⟩ = some (.int .i64 z) := NxW.cell c3
        have k4 : ∀ p : NxW WB, p.W.cell? ⟨g, o + j * 5 + 3, none⟩ = some (.int .i64 m) := NxW.cell c4
        have k5 : ∀ p : NxW WB, p.W.cell? ⟨g, o + j * 5 + 4, none⟩ = some (.int .i64 v) := NxW.cell c5
        have r1 : ∀ p : NxW WB, p.W.cell? ⟨w.heap.size, 0, none⟩ = some (.string s) := NxW.cell (hK.out.cell 0 rfl)
        have r2 : ∀ p : NxW WB, p.W.cell? ⟨w.heap.size, 1, none⟩ = some (.int .i64 k) := NxW.cell (hK.out.cell 1 rfl)
        have r3 : ∀ p : NxW WB, p.W.cell? ⟨w.heap.size, 2, none⟩ = some (.int .i64 u) := NxW.cell (hK.out.cell 2 rfl)
        have r4 : ∀ p : NxW WB, p.W.cell? ⟨w.heap.size, 3, none⟩ = some (.int .i64 hm) := NxW.cell (hK.out.cell 3 rfl)
        clear c1 c2 c3 c4 c5
        obtain ⟨b1, hb1⟩ : ∃ b1, Hid (vpB x y z = b1) := ⟨_, rfl⟩
        obtain ⟨b2, hb2⟩ : ∃ b2, Hid (fit k u m v = b2) := ⟨_, rfl⟩
        have HC1 := Lib.hid (fun p : NxW WB => Calls.nx_of p (refValid_b x y z p.W hb1))
        have HC2 := Lib.hid (fun p : NxW WB => Calls.nx_of p (refFits_is s k u hm m v p.W hb2))
        have hok : Hid (okH k u l j ↔ b1 = true ∧ b2 = true ∧ (0 < j → ltP (l.getD (j - 1) default).1 (x, y, z))) := Lib.hid (by
          unfold okH
          rw [hx.out, ← hb1.out, ← hb2.out]
          rfl)
        cases b1 with
        | false =>
          have hend : Hid (r = false) := iffNo hr.out (fun h => by have := hok.out.1 ((VH_iff.1 h).2.1 j (by have := hn.out; omega)); cases this.1)
          clear hr
          go_wp2
          refine wp_region_below mixed (by kernel_rfl) ?_
          repeat (go_big_quiet_step (first
              | (go_at_call 38; exact HC1.out _)))
          refine wpQuiet_nil ?_
          intro W2 hw'
          obtain ⟨⟨_, hb2⟩, hw''⟩ := hw'
          subst hw''
          all_goals (
            have hG2 := Lib.hid (nx hB.out hb2)
            go_wp2
            go_ret
            exact ⟨ret_bool hend.out.symm, hG2.out⟩)
        | true =>
          cases b2 with
          | false =>
            have hend : Hid (r = false) := iffNo hr.out (fun h => by have := hok.out.1 ((VH_iff.1 h).2.1 j (by have := hn.out; omega)); cases this.2.1)
            clear hr
            go_wp2
            refine wp_region_below mixed (by kernel_rfl) ?_
            repeat (go_big_quiet_step (first
                | (go_at_call 38; exact HC1.out _)
                | (go_at_call 39; exact HC2.out _)))
            refine wpQuiet_nil ?_
            intro W2 hw'
            obtain ⟨⟨_, hb2⟩, hw''⟩ := hw'
            subst hw''
            all_goals (
              have hG2 := Lib.hid (nx hB.out hb2)
              go_wp2
              go_ret
              exact ⟨ret_bool hend.out.symm, hG2.out⟩)
          | true =>
            by_cases hj0 : 0 < j
            · obtain ⟨m0, hm0⟩ : ∃ m, Hid (j = m + 1) := ⟨j - 1, by show _ = _; omega⟩
              have e6 : IntKind.i64.wrap ((j : Int) - 1) = (m0 : Int) := by have := hm0.out; rw [IntKind.wrap_i64]; omega
              have e8 : IntKind.i64.wrap (m0 : Int) = (m0 : Int) := by have := hm0.out; rw [IntKind.wrap_i64]; omega
              have e9 : (m0 : Int) < (n : Int) := by have := hm0.out; omega
              obtain ⟨g', o', x', y', z', m', v', hA, _, hx', d1, d2, d3, _, _⟩ := (HR.out.below hB.out).at_ (i := m0) (by have := hn.out; have := hm0.out; omega)
              obtain ⟨rfl, rfl⟩ : g = g' ∧ o = o' := by simpa using hA
              clear hA
              have p1 : ∀ p : NxW WB, p.W.cell? ⟨g, o + m0 * 5, none⟩ = some (.int .i64 x') := NxW.cell d1
              have p2 : ∀ p : NxW WB, p.W.cell? ⟨g, o + m0 * 5 + 1, none⟩ = some (.int .i64 y') := NxW.cell d2
              have p3 : ∀ p : NxW WB, p.W.cell? ⟨g, o + m0 * 5 + 2, none⟩ = some (.int .i64 z') := NxW.cell d3
              clear d1 d2 d3
              obtain ⟨q, hq⟩ : ∃ q, Hid (cmp3 x' y' z' x y z = q) := ⟨_, rfl⟩
              have HC3 := Lib.hid (fun p : NxW WB => Calls.nx_of p (refCompareProc_is x' y' z' x y z p.W hq))
              have hlt2 : Hid (ltP (l.getD (j - 1) default).1 (x, y, z) ↔ q < 0) := Lib.hid (by
                rw [show j - 1 = m0 by have := hm0.out; omega, hx'.out, ← hq.out]
                exact (ltP_cmp (x', y', z') (x, y, z)).symm)
              by_cases hq0 : 0 ≤ q
              · have hend : Hid (r = false) := iffNo hr.out (fun h => by have h1 := hlt2.out.1 ((hok.out.1 ((VH_iff.1 h).2.1 j (by have := hn.out; omega))).2.2 hj0); omega)
                clear hr
                go_wp2
                refine wp_region_below mixed (by kernel_rfl) ?_
                repeat (go_big_quiet_step (first
                    | (go_at_call 38; exact HC1.out _)
                    | (go_at_call 39; exact HC2.out _)
                    | (go_at_call 40; exact HC3.out _)))
                refine wpQuiet_nil ?_
                intro W2 hw'
                obtain ⟨⟨_, hb2⟩, hw''⟩ := hw'
                subst hw''
                all_goals (
                  have hG2 := Lib.hid (nx hB.out hb2)
                  go_wp2
                  go_ret
                  exact ⟨ret_bool hend.out.symm, hG2.out⟩)
              · have hall2 : Hid (∀ i, i < j + 1 → okH k u l i) := fun i hi => by
                  by_cases e : i = j
                  · subst e; exact hok.out.2 ⟨rfl, rfl, fun _ => hlt2.out.2 (by omega)⟩
                  · exact hall.out i (by omega)
                go_wp2
                refine wp_region_below mixed (by kernel_rfl) ?_
                repeat (go_big_quiet_step (first
                    | (go_at_call 38; exact HC1.out _)
                    | (go_at_call 39; exact HC2.out _)
                    | (go_at_call 40; exact HC3.out _)))
                refine wpQuiet_nil ?_
                intro W2 hw'
                obtain ⟨⟨_, hb2⟩, hw''⟩ := hw'
                subst hw''
                all_goals (
                  have hG2 := Lib.hid (nx hB.out hb2)
                  have hK2 := Lib.hid (hK.out.up hb2 hK.out.lt)
                  go_wp2
                  go_roundw
                  case rel => exact ⟨j + 1, by omega, by go_num, hK2, hG2, hall2⟩
                  case measure => simp [intOf]; omega)
            · have hall2 : Hid (∀ i, i < j + 1 → okH k u l i) := fun i hi => by
                by_cases e : i = j
                · subst e; exact hok.out.2 ⟨rfl, rfl, fun h => absurd h hj0⟩
                · exact hall.out i (by omega)
              go_wp2
              refine wp_region_below mixed (by kernel_rfl) ?_
              repeat (go_big_quiet_step (first
                  | (go_at_call 38; exact HC1.out _)
                  | (go_at_call 39; exact HC2.out _)))
              refine wpQuiet_nil ?_
              intro W2 hw'
              obtain ⟨⟨_, hb2⟩, hw''⟩ := hw'
              subst hw''
              all_goals (
                have hG2 := Lib.hid (nx hB.out hb2)
                have hK2 := Lib.hid (hK.out.up hb2 hK.out.lt)
                go_wp2
                go_roundw
                case rel => exact ⟨j + 1, by omega, by go_num, hK2, hG2, hall2⟩
                case measure => simp [intOf]; omega)
      · have hjn : j = n := by omega
        subst hjn
        obtain ⟨am, ham⟩ : ∃ am, Hid (amtH l = am) := ⟨_, rfl⟩
        have hal : Hid (am.length = j) := Lib.hid (by rw [← ham.out, amtH, List.length_map]; exact hn.out)
        have hr2 : Hid (Cmp k u am ↔ r = true) := Lib.hid (by
          rw [← hr.out, ← ham.out, VH_iff]
          exact ⟨fun h => ⟨by have := hn.out; omega, fun i hi => hall.out i (by have := hn.out; omega), h⟩, fun h => h.2.2⟩)
        have hm1 : Hid (j ≤ 1000) := hbig
        have HKX : Hid (∀ W, Below WB.heap.size WB W → RS4 W w.heap.size s k u hm) := Lib.hid (fun W hW => RS4.of (hK.out.up hW hK.out.lt))
        clear hr hall
        go_wp2
        go_region_held3 (fun W => RS4 W w.heap.size s k u hm)
          (first
            | exact HKX.out _ (bdD (Below.refl _ _))
            | exact HKX.out _ HB1.out
            | exact HKX.out _ HB2.out)
          (first
            | (go_at_call 42; (with_reducible refine (refAmounts_is A j c l _ (HR.out.below (nx hB.out (bdD (Below.refl _ _)))) hn hm1 ham).mono ?_); rintro e W1 ⟨⟨A1, c1, rfl, ha1⟩, hb1⟩; have HA1 := Lib.hid ha1; have HB1 : Hid (Below WB.heap.size WB W1) := Lib.hid (nx (bdD (Below.refl _ _)) hb1); clear hb1 ha1)
            | (go_at_call 41; (with_reducible refine (refCompat_is s k u hm A1 j c1 am _ HA1.out hal hm1 hr2).mono ?_); rintro e W2 ⟨rfl, hb2⟩; have HB2 := Lib.hid (nx HB1.out hb2); clear hb2))
        all_goals (go_wp2; go_ret; exact ⟨rfl, nx hB.out HB2.out⟩)
end Go.Proofs.YthclgccgkdijbaaDoor
