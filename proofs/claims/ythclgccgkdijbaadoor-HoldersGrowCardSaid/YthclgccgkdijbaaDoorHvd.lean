/- Contract of the program: Valid of grants. -/
import Derived.Test.YthclgccgkdijbaaDoorHval
import Derived.Test.YthclgccgkdijbaaDoorHq
namespace Go.Proofs.YthclgccgkdijbaaDoor
open Go.RowKit
set_option linter.unusedVariables false
set_option linter.unusedSimpArgs false

/-- Element j of a list of grants is in order. -/
def okH (k u : Int) (l : List Hd) (j : Nat) : Prop := vpP (l.getD j default).1 = true ∧ fit k u (l.getD j default).2.1 (l.getD j default).2.2 = true ∧ (0 < j → ltP (l.getD (j - 1) default).1 (l.getD j default).1)
theorem asc_okH : ∀ {l : List Hd}, (∀ j, 0 < j → j < l.length → ltP (l.getD (j - 1) default).1 (l.getD j default).1) → AscH l
  | [], _ => List.Pairwise.nil
  | [x], _ => List.pairwise_singleton _ _
  | x :: y :: r, h => by
    have ih : AscH (y :: r) := asc_okH (fun j h0 hj => by
      have := h (j + 1) (by omega) (by simpa using hj)
      obtain ⟨m, rfl⟩ : ∃ m, j = m + 1 := ⟨j - 1, by omega⟩
      simpa using this)
    have h1 := h 1 (by omega) (by simp)
    have hxy : ltP x.1 y.1 := by simpa using h1
    refine List.pairwise_cons.2 ⟨fun z hz => ?_, ih⟩
    rcases List.mem_cons.1 hz with rfl | hz
    · exact hxy
    · exact ltP_trans hxy ((List.pairwise_cons.1 ih).1 z hz)
theorem asc_at {l : List Hd} (h : AscH l) {i j : Nat} (hij : i < j) (hj : j < l.length) : ltP (l.getD i default).1 (l.getD j default).1 := by
  have h1 := List.pairwise_iff_getElem.1 h i j (by omega) hj hij
  rw [List.getD_eq_getElem?_getD, List.getD_eq_getElem?_getD, List.getElem?_eq_getElem hj, List.getElem?_eq_getElem (by omega)]
  exact h1
theorem VH_iff {k u : Int} {l : List Hd} : VH k u l ↔ l.length ≤ 8 ∧ (∀ j, j < l.length → okH k u l j) ∧ Cmp k u (amtH l) := by
  constructor
  · rintro ⟨h1, h2, h3, h4, h5⟩
    refine ⟨h2, fun j hj => ⟨(h3 _ (getD_memH hj)).1, (h3 _ (getD_memH hj)).2, fun h0 => asc_at h4 (by omega) hj⟩, h5⟩
  · rintro ⟨h2, h3, h5⟩
    refine ⟨h5.1, h2, fun x hx => ?_, asc_okH (fun j h0 hj => (h3 j hj).2.2 h0), h5⟩
    obtain ⟨i, hi, rfl⟩ := mem_getDH hx
    exact ⟨(h3 i hi).1, (h3 i hi).2.1⟩
theorem iffNo {p : Prop} {r : Bool} (h : p ↔ r = true) (hn : ¬ p) : r = false := by
  cases r
  · rfl
  · exact absurd (h.2 rfl) hn
/-- The box of a resource. -/
abbrev RS4 (W : World) (g : Nat) (s : ByteArray) (k u h : Int) : Prop := W.cell? ⟨g, 0, none⟩ = some (.string s) ∧ W.cell? ⟨g, 1, none⟩ = some (.int .i64 k) ∧ W.cell? ⟨g, 2, none⟩ = some (.int .i64 u) ∧ W.cell? ⟨g, 3, none⟩ = some (.int .i64 h)
theorem RS4.of {W : World} {g : Nat} {s : ByteArray} {k u h : Int} (hb : Blk W g [.string s, .int .i64 k, .int .i64 u, .int .i64 h]) : RS4 W g s k u h := ⟨hb.cell 0 rfl, hb.cell 1 rfl, hb.cell 2 rfl, hb.cell 3 rfl⟩
set_option maxHeartbeats 8000000 in
set_option maxRecDepth 20000 in
theorem hvalid_is (s : ByteArray) (k u hm : Int) (A : Option Addr) (n c : Nat) (l : List Hd) (w : World) (hV : Vars w) (hl : HRd w A l) (hn : Hid (l.length = n)) (hbig : Hid (n ≤ 1000)) {r : Bool} (hr : Hid (VH k u l ↔ r = true)) :
    Calls Tryd.prog 12 #[ra s k u hm, .slice A n c] w fun e w' => e = .returned (.bool r) ∧ Below w.heap.size w w' := by
  have HR := Lib.hid hl
  have HV := Lib.hid hV
  clear hl hV
  have HK0 := Lib.hid (Blk.new w [.string s, .int .i64 k, .int .i64 u, .int .i64 hm] 23 rfl)
  by_cases h8 : 8 < (n : Int)
  · have hend : Hid (r = false) := iffNo hr.out (fun h => by have := h.2.1; have := hn.out; omega)
    clear hr
    go_enter Tryd.func12, Tryd.ntmps12
    go_wp2
    go_ret
    exact ⟨ret_bool hend.out.symm, newB _ _⟩
  · have hn8 : n ≤ 8 := by omega
    go_enter Tryd.func12, Tryd.ntmps12
    go_wp2
    go_loopw [12] (fun i wr => ∃ (j : Nat), j ≤ n ∧ i = .int .i64 j ∧ Hid (Blk wr w.heap.size [.string s, .int .i64 k, .int .i64 u, .int .i64 hm]) ∧ Hid (Below w.heap.size w wr) ∧ Hid (∀ i, i < j → okH k u l i)) (fun i _ => n - (intOf i).toNat)
    case atStart => exact ⟨0, by omega, rfl, HK0, newB _ _, fun i hi => by omega⟩
    case round =>
      obtain ⟨j, hj, rfl, hK, hB, hall⟩ := hrel
      have mixed : Tryd.prog.follows .mixedOrders = true := by kernel_rfl
      by_cases hlt : (j : Int) < (n : Int)
      · obtain ⟨g, o, x, y, z, m, v, rfl, hg, hx, c1, c2, c3, c4, c5⟩ := (HR.out.below hB.out).at_ (i := j) (by have := hn.out; omega)
        have e5 : IntKind.i64.wrap ((j : Int) + 1) = (j : Int) + 1 := by rw [IntKind.wrap_i64]; omega
        obtain ⟨WB, hWB⟩ : ∃ WB, Hid (wr.alloc (.cells #[.int .i64 x, .int .i64 y, .int .i64 z, .int .i64 m, .int .i64 v] 53) = WB) := ⟨_, rfl⟩
        have hNB : Below wr.heap.size wr WB := by rw [← hWB.out]; exact newB _ _
        have HB2 : Hid (Below w.heap.size w WB) := Lib.hid (nx hB.out hNB)
        have hkb : Blk WB wr.heap.size [.int .i64 x, .int .i64 y, .int .i64 z, .int .i64 m, .int .i64 v] := by rw [← hWB.out]; exact Blk.new _ _ _ rfl
        have hkr : Blk WB w.heap.size [.string s, .int .i64 k, .int .i64 u, .int .i64 hm] := hK.out.up hNB hK.out.lt
        have HKR := Lib.hid hkr
        have k1 : ∀ p : NxW WB, p.W.cell? ⟨wr.heap.size, 0, none⟩ = some (.int .i64 x) := NxW.cell (hkb.cell 0 rfl)
        have k2 : ∀ p : NxW WB, p.W.cell? ⟨wr.heap.size, 1, none⟩ = some (.int .i64 y) := NxW.cell (hkb.cell 1 rfl)
        have k3 : ∀ p : NxW WB, p.W.cell? ⟨wr.heap.size, 2, none⟩ = some (.int .i64 z) := NxW.cell (hkb.cell 2 rfl)
        have k4 : ∀ p : NxW WB, p.W.cell? ⟨wr.heap.size, 3, none⟩ = some (.int .i64 m) := NxW.cell (hkb.cell 3 rfl)
        have k5 : ∀ p : NxW WB, p.W.cell? ⟨wr.heap.size, 4, none⟩ = some (.int .i64 v) := NxW.cell (hkb.cell 4 rfl)
        have r1 : ∀ p : NxW WB, p.W.cell? ⟨w.heap.size, 0, none⟩ = some (.string s) := NxW.cell (hkr.cell 0 rfl)
        have r2 : ∀ p : NxW WB, p.W.cell? ⟨w.heap.size, 1, none⟩ = some (.int .i64 k) := NxW.cell (hkr.cell 1 rfl)
        have r3 : ∀ p : NxW WB, p.W.cell? ⟨w.heap.size, 2, none⟩ = some (.int .i64 u) := NxW.cell (hkr.cell 2 rfl)
        have r4 : ∀ p : NxW WB, p.W.cell? ⟨w.heap.size, 3, none⟩ = some (.int .i64 hm) := NxW.cell (hkr.cell 3 rfl)
        clear hkb hkr hNB
        obtain ⟨b1, hb1⟩ : ∃ b1, Hid (vpB x y z = b1) := ⟨_, rfl⟩
        obtain ⟨b2, hb2⟩ : ∃ b2, Hid (fit k u m v = b2) := ⟨_, rfl⟩
        have HC1 := Lib.hid (fun p : NxW WB => Calls.nx_of p (valid_b x y z p.W hb1))
        have HC2 := Lib.hid (fun p : NxW WB => Calls.nx_of p (fits_is s k u hm m v p.W hb2))
        have hok : Hid (okH k u l j ↔ b1 = true ∧ b2 = true ∧ (0 < j → ltP (l.getD (j - 1) default).1 (x, y, z))) := Lib.hid (by
          unfold okH
          rw [hx.out, ← hb1.out, ← hb2.out]
          rfl)
        cases b1 with
        | false =>
          have hend : Hid (r = false) := iffNo hr.out (fun h => by have := hok.out.1 ((VH_iff.1 h).2.1 j (by have := hn.out; omega)); cases this.1)
          clear hr
          go_wp2
          rw [hWB.out]
          refine wp_region_below mixed (by kernel_rfl) ?_
          repeat (go_big_quiet_step (first
              | (go_at_call 32; exact HC1.out _)))
          refine wpQuiet_nil ?_
          intro _ hw'
          obtain ⟨⟨W2, hb2⟩, hw''⟩ := hw'
          subst hw''
          all_goals (
            have hG2 := Lib.hid (nx HB2.out hb2)
            go_wp2
            go_ret
            exact ⟨ret_bool hend.out.symm, hG2.out⟩)
        | true =>
          cases b2 with
          | false =>
            have hend : Hid (r = false) := iffNo hr.out (fun h => by have := hok.out.1 ((VH_iff.1 h).2.1 j (by have := hn.out; omega)); cases this.2.1)
            clear hr
            go_wp2
            rw [hWB.out]
            refine wp_region_below mixed (by kernel_rfl) ?_
            repeat (go_big_quiet_step (first
                | (go_at_call 32; exact HC1.out _)
                | (go_at_call 33; exact HC2.out _)))
            refine wpQuiet_nil ?_
            intro _ hw'
            obtain ⟨⟨W2, hb2⟩, hw''⟩ := hw'
            subst hw''
            all_goals (
              have hG2 := Lib.hid (nx HB2.out hb2)
              go_wp2
              go_ret
              exact ⟨ret_bool hend.out.symm, hG2.out⟩)
          | true =>
            by_cases hj0 : 0 < j
            · obtain ⟨m0, hm0⟩ : ∃ m, Hid (j = m + 1) := ⟨j - 1, by show _ = _; omega⟩
              have e6 : IntKind.i64.wrap ((j : Int) - 1) = (m0 : Int) := by have := hm0.out; rw [IntKind.wrap_i64]; omega
              have e8 : IntKind.i64.wrap (m0 : Int) = (m0 : Int) := by have := hm0.out; rw [IntKind.wrap_i64]; omega
              have e9 : (m0 : Int) < (n : Int) := by have := hm0.out; omega
              obtain ⟨g', o', x', y', z', m', v', hA, _, hx', d1, d2, d3, _, _⟩ := (HR.out.below HB2.out).at_ (i := m0) (by have := hn.out; have := hm0.out; omega)
              obtain ⟨rfl, rfl⟩ : g = g' ∧ o = o' := by simpa using hA
              clear hA
              have p1 : ∀ p : NxW WB, p.W.cell? ⟨g, o + m0 * 5, none⟩ = some (.int .i64 x') := NxW.cell d1
              have p2 : ∀ p : NxW WB, p.W.cell? ⟨g, o + m0 * 5 + 1, none⟩ = some (.int .i64 y') := NxW.cell d2
              have p3 : ∀ p : NxW WB, p.W.cell? ⟨g, o + m0 * 5 + 2, none⟩ = some (.int .i64 z') := NxW.cell d3
              clear d1 d2 d3
              obtain ⟨q, hq⟩ : ∃ q, Hid (cmp3 x' y' z' x y z = q) := ⟨_, rfl⟩
              have HC3 := Lib.hid (fun p : NxW WB => Calls.nx_of p (compareProc_is x' y' z' x y z p.W hq))
              have hlt2 : Hid (ltP (l.getD (j - 1) default).1 (x, y, z) ↔ q < 0) := Lib.hid (by
                rw [show j - 1 = m0 by have := hm0.out; omega, hx'.out, ← hq.out]
                exact (ltP_cmp (x', y', z') (x, y, z)).symm)
              by_cases hq0 : 0 ≤ q
              · have hend : Hid (r = false) := iffNo hr.out (fun h => by have h1 := hlt2.out.1 ((hok.out.1 ((VH_iff.1 h).2.1 j (by have := hn.out; omega))).2.2 hj0); omega)
                clear hr
                go_wp2
                rw [hWB.out]
                refine wp_region_below mixed (by kernel_rfl) ?_
                repeat (go_big_quiet_step (first
                    | (go_at_call 32; exact HC1.out _)
                    | (go_at_call 33; exact HC2.out _)
                    | (go_at_call 34; exact HC3.out _)))
                refine wpQuiet_nil ?_
                intro _ hw'
                obtain ⟨⟨W2, hb2⟩, hw''⟩ := hw'
                subst hw''
                all_goals (
                  have hG2 := Lib.hid (nx HB2.out hb2)
                  go_wp2
                  go_ret
                  exact ⟨ret_bool hend.out.symm, hG2.out⟩)
              · have hall2 : Hid (∀ i, i < j + 1 → okH k u l i) := fun i hi => by
                  by_cases e : i = j
                  · subst e; exact hok.out.2 ⟨rfl, rfl, fun _ => hlt2.out.2 (by omega)⟩
                  · exact hall.out i (by omega)
                go_wp2
                rw [hWB.out]
                refine wp_region_below mixed (by kernel_rfl) ?_
                repeat (go_big_quiet_step (first
                    | (go_at_call 32; exact HC1.out _)
                    | (go_at_call 33; exact HC2.out _)
                    | (go_at_call 34; exact HC3.out _)))
                refine wpQuiet_nil ?_
                intro _ hw'
                obtain ⟨⟨W2, hb2⟩, hw''⟩ := hw'
                subst hw''
                all_goals (
                  have hG2 := Lib.hid (nx HB2.out hb2)
                  have hK2 := Lib.hid (HKR.out.up hb2 HKR.out.lt)
                  go_wp2
                  go_roundw
                  case rel => exact ⟨j + 1, by omega, by go_num, hK2, hG2, hall2⟩
                  case measure => simp [intOf]; omega)
            · have hall2 : Hid (∀ i, i < j + 1 → okH k u l i) := fun i hi => by
                by_cases e : i = j
                · subst e; exact hok.out.2 ⟨rfl, rfl, fun h => absurd h hj0⟩
                · exact hall.out i (by omega)
              go_wp2
              rw [hWB.out]
              refine wp_region_below mixed (by kernel_rfl) ?_
              repeat (go_big_quiet_step (first
                  | (go_at_call 32; exact HC1.out _)
                  | (go_at_call 33; exact HC2.out _)))
              refine wpQuiet_nil ?_
              intro _ hw'
              obtain ⟨⟨W2, hb2⟩, hw''⟩ := hw'
              subst hw''
              all_goals (
                have hG2 := Lib.hid (nx HB2.out hb2)
                have hK2 := Lib.hid (HKR.out.up hb2 HKR.out.lt)
                go_wp2
                go_roundw
                case rel => exact ⟨j + 1, by omega, by go_num, hK2, hG2, hall2⟩
                case measure => simp [intOf]; omega)
      · have hjn : j = n := by omega
        subst hjn
        obtain ⟨am, ham⟩ : ∃ am, Hid (amtH l = am) := ⟨_, rfl⟩
        have hal : Hid (am.length = j) := Lib.hid (by rw [← ham.out, amtH, List.length_map]; exact hn.out)
        have hr2 : Hid (Cmp k u am ↔ r = true) := Lib.hid (by
          rw [← hr.out, ← ham.out, VH_iff]
          exact ⟨fun h => ⟨by have := hn.out; omega, fun i hi => hall.out i (by have := hn.out; omega), h⟩, fun h => h.2.2⟩)
        have hm1 : Hid (j ≤ 1000) := hbig
        have HKX : Hid (∀ W, Below wr.heap.size wr W → RS4 W w.heap.size s k u hm) := Lib.hid (fun W hW => RS4.of (hK.out.up hW hK.out.lt))
        clear hr hall
        go_wp2
        go_region_held3 (fun W => RS4 W w.heap.size s k u hm)
          (first
            | exact HKX.out _ (bdD (Below.refl _ _))
            | exact HKX.out _ HB1.out
            | exact HKX.out _ HB2.out)
          (first
            | (go_at_call 36; (with_reducible refine (hamounts_is A j c l _ (HR.out.below (nx hB.out (bdD (Below.refl _ _)))) hn hm1 ham).mono ?_); rintro e W1 ⟨⟨g1, rfl, ha1⟩, hb1⟩; have HA1 := Lib.hid ha1; have HB1 : Hid (Below wr.heap.size wr W1) := Lib.hid (nx (bdD (Below.refl _ _)) hb1); clear hb1 ha1)
            | (go_at_call 35; (with_reducible refine (compat_is s k u hm (some ⟨g1, 0, none⟩) j j am _ (HV.out.below (nx hB.out HB1.out)) HA1.out hal hm1 hr2).mono ?_); rintro e W2 ⟨rfl, hb2⟩; have HB2 := Lib.hid (nx HB1.out hb2); clear hb2))
        all_goals (go_wp2; go_ret; exact ⟨rfl, nx hB.out HB2.out⟩)
end Go.Proofs.YthclgccgkdijbaaDoor
