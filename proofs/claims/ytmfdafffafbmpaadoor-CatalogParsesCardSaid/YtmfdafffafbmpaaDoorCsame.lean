/- Contracts: Same, At. -/
import Derived.Test.YtmfdafffafbmpaaDoorCcon
namespace Go.Proofs.YtmfdafffafbmpaaDoor
open Go.RowKit
open Go.Sort (grow)
set_option linter.unusedVariables false
set_option linter.unusedSimpArgs false

theorem neRes (s t : ByteArray) (k u h k' u' h' : Int) (w : World) : (binOp .neq 26 (ra s k u h) (ra t k' u' h')).run Tryd.prog w = .ok (.bool !(eqS s t && decide (k = k' ∧ u = u' ∧ h = h'))) w := by
  have u3 := Tryd.underlying3
  have u4 := Tryd.underlying9
  have hS : Tryd.prog.underlying 26 = some (.struct (Tryd.prog.fieldsOf 26)) := by kernel_rfl
  have hp : Tryd.prog.stoodInHeld 26 = false := by kernel_rfl
  rw [run_neq_struct, show (10000 : Nat) = 9999 + 1 from rfl, run_equalIn_agg w 9999 26 _ _ hS hp]
  simp only [Program.fieldsOf, Tryd.underlying26]
  go_simp
  unfold eqS
  by_cases h0 : s.toList = t.toList <;> by_cases h1 : k = k' <;> by_cases h2 : u = u' <;> by_cases h3 : h = h' <;> simp [h0, h1, h2, h3]
theorem list_ext4 {l r : List P4} {n : Nat} (hl : l.length = n) (hr : r.length = n) (h : ∀ i, i < n → l.getD i default = r.getD i default) : l = r := by
  apply List.ext_getElem (by omega)
  intro i h1 h2
  have := h i (by omega)
  simpa [List.getD_eq_getElem?_getD, List.getElem?_eq_getElem h1, List.getElem?_eq_getElem h2] using this
set_option maxHeartbeats 4000000 in
set_option maxRecDepth 8000 in
theorem same_is (A : Option Addr) (n c : Nat) (l : List P4) (B : Option Addr) (m d : Nat) (r : List P4) (w : World) (hl : InR w A n c l) (hr : InR w B m d r) {b : Bool} (hb : Hid (l = r ↔ b = true)) :
    Calls Tryd.prog 24 #[.slice A n c, .slice B m d] w fun e w' => e = .returned (.bool b) ∧ Below w.heap.size w w' := by
  have hn : Hid (l.length = n) := hl.len
  have hm : Hid (r.length = m) := hr.len
  have hbig := hl.big
  have HL := Lib.hid hl.rd
  have HR := Lib.hid hr.rd
  have mixed : Tryd.prog.follows .mixedOrders = true := by kernel_rfl
  clear hl hr
  by_cases hnm : (n : Int) = (m : Int)
  · obtain rfl : n = m := by omega
    clear hnm
    go_enter Tryd.func24, Tryd.ntmps24
    go_wp2
    go_loopw [5] (fun i wr => ∃ (j : Nat), j ≤ n ∧ i = .int .i64 j ∧ Hid (Gro w wr) ∧ Hid (∀ i, i < j → l.getD i default = r.getD i default)) (fun i _ => n - (intOf i).toNat)
    case atStart => exact ⟨0, by omega, rfl, Gro.refl _, fun i hi => by omega⟩
    case round =>
      obtain ⟨j, hj, rfl, hG, hall⟩ := hrel
      by_cases hlt : (j : Int) < (n : Int)
      · obtain ⟨g, o, s, k, u, h, rfl, hg, hx, c1, c2, c3, c4⟩ := (HL.out.below hG.out.below).at_ (i := j) (by have := hn.out; omega)
        obtain ⟨g', o', s', k', u', h', rfl, hg', hx', d1, d2, d3, d4⟩ := (HR.out.below hG.out.below).at_ (i := j) (by have := hm.out; omega)
        have e5 : IntKind.i64.wrap ((j : Int) + 1) = (j : Int) + 1 := by rw [IntKind.wrap_i64]; omega
        obtain ⟨v, hv⟩ : ∃ v, Hid ((eqS s s' && decide (k = k' ∧ u = u' ∧ h = h')) = v) := ⟨_, rfl⟩
        have hne := neRes s s' k u h k' u' h'
        rw [hv.out] at hne
        have hiff : Hid (l.getD j default = r.getD j default ↔ v = true) := by
          show _ ↔ _
          rw [hx.out, hx'.out, ← hv.out, Bool.and_eq_true, eqS_iff, decide_eq_true_iff]
          simp [Prod.mk.injEq]
        have l1 : ∀ n os, (grow (wr.drewN n) os).cell? ⟨g, o + j * 4, none⟩ = some (.string s) := cell_grown hg c1
        have l2 : ∀ n os, (grow (wr.drewN n) os).cell? ⟨g, o + j * 4 + 1, none⟩ = some (.int .i64 k) := cell_grown hg c2
        have l3 : ∀ n os, (grow (wr.drewN n) os).cell? ⟨g, o + j * 4 + 2, none⟩ = some (.int .i64 u) := cell_grown hg c3
        have l4 : ∀ n os, (grow (wr.drewN n) os).cell? ⟨g, o + j * 4 + 3, none⟩ = some (.int .i64 h) := cell_grown hg c4
        have l5 : ∀ n os, (grow (wr.drewN n) os).cell? ⟨g', o' + j * 4, none⟩ = some (.string s') := cell_grown hg' d1
        have l6 : ∀ n os, (grow (wr.drewN n) os).cell? ⟨g', o' + j * 4 + 1, none⟩ = some (.int .i64 k') := cell_grown hg' d2
        have l7 : ∀ n os, (grow (wr.drewN n) os).cell? ⟨g', o' + j * 4 + 2, none⟩ = some (.int .i64 u') := cell_grown hg' d3
        have l8 : ∀ n os, (grow (wr.drewN n) os).cell? ⟨g', o' + j * 4 + 3, none⟩ = some (.int .i64 h') := cell_grown hg' d4
        clear c1 c2 c3 c4 d1 d2 d3 d4
        cases v with
        | false =>
          have hend : Hid (b = false) := iff_no hb.out (fun hh => by have := hiff.out.1 (by rw [hh]); cases this)
          clear hb
          go_wp2
          refine wp_region_quiet_grown mixed (by kernel_rfl) ?_
          repeat (go_big_quiet_step (first | fail))
          refine wpQuiet_nil ?_
          intro _ hw'
          obtain ⟨⟨nq, osq⟩, hw''⟩ := hw'
          subst hw''
          have hG2 := Lib.hid (hG.out.trans (⟨nq, osq, rfl⟩ : Gro wr _))
          go_wp2
          go_ret
          exact ⟨ret_bool hend.out.symm, hG2.out.below⟩
        | true =>
          have hall2 : Hid (∀ i, i < j + 1 → l.getD i default = r.getD i default) := fun i hi => by
            by_cases e : i = j
            · subst e; exact hiff.out.2 rfl
            · exact hall.out i (by omega)
          go_wp2
          refine wp_region_quiet_grown mixed (by kernel_rfl) ?_
          repeat (go_big_quiet_step (first | fail))
          refine wpQuiet_nil ?_
          intro _ hw'
          obtain ⟨⟨nq, osq⟩, hw''⟩ := hw'
          subst hw''
          have hG2 := Lib.hid (hG.out.trans (⟨nq, osq, rfl⟩ : Gro wr _))
          go_wp2
          go_roundw
          case rel => exact ⟨j + 1, by omega, by go_num, hG2, hall2⟩
          case measure => simp [intOf]; omega
      · have hend : Hid (b = true) := hb.out.1 (list_ext4 hn.out hm.out fun i hi => hall.out i (by omega))
        go_wp2
        go_ret
        exact ⟨ret_bool hend.out.symm, hG.out.below⟩
  · have hend : Hid (b = false) := iff_no hb.out (fun hh => by subst hh; have := hn.out; have := hm.out; omega)
    clear hb
    go_enter Tryd.func24, Tryd.ntmps24
    go_wp2
    go_ret
    exact ⟨ret_bool hend.out.symm, Below.refl _ _⟩
theorem rrd_one {W : World} {g : Nat} {s : ByteArray} {k u h : Int} (h0 : W.cell? ⟨g, 0, none⟩ = some (.string s)) (h1 : W.cell? ⟨g, 1, none⟩ = some (.int .i64 k)) (h2 : W.cell? ⟨g, 2, none⟩ = some (.int .i64 u)) (h3 : W.cell? ⟨g, 3, none⟩ = some (.int .i64 h)) : RRd W (some ⟨g, 0, none⟩) [(s, k, u, h)] := fun _ =>
  ⟨g, 0, rfl, World.block_lt_of_cell? W _ h0, fun i hi => by
    obtain rfl : i = 0 := by simpa using hi
    exact ⟨h0, h1, h2, h3⟩⟩
theorem rrd_new (w : World) (T : TypeId) (s : ByteArray) (k u h : Int) : RRd (w.alloc (.cells #[.string s, .int .i64 k, .int .i64 u, .int .i64 h] T)) (some ⟨w.heap.size, 0, none⟩) [(s, k, u, h)] := rrd_one (by simp) (by simp) (by simp) (by simp)
theorem rrd_at (w : World) (T : TypeId) (s : ByteArray) (k u h : Int) {g : Nat} (hg : w.heap.size = g) : RRd (w.alloc (.cells #[.string s, .int .i64 k, .int .i64 u, .int .i64 h] T)) (some ⟨g, 0, none⟩) [(s, k, u, h)] := by
  subst hg
  exact rrd_new w T s k u h
theorem OwnR.inR {w : World} {base : Nat} {V : Value} {l : List P4} (h : OwnR w base V l) (hb : l.length ≤ 3518437208880) : ∃ A c, V = .slice A l.length c ∧ InR w A l.length c l := by
  obtain ⟨A, c, rfl, hc, hr, _⟩ := h.form
  exact ⟨A, c, rfl, rfl, hr, hc, hb⟩
set_option maxHeartbeats 2000000 in
set_option maxRecDepth 8000 in
theorem at_is (A : Option Addr) (n c : Nat) (l : List P4) (site : Int) (w : World) (hl : InR w A n c l) {x : List P4} (hx : Hid (atL l site = x)) :
    Calls Tryd.prog 31 #[.slice A n c, .int .i64 site] w fun e w' => ∃ A' c', e = .returned (.slice A' x.length c') ∧ InR w' A' x.length c' x ∧ Below w.heap.size w w' := by
  have HR := Lib.hid hl.rd
  have hn : Hid (l.length = n) := hl.len
  have hbig := hl.big
  clear hl
  go_enter Tryd.func31, Tryd.ntmps31
  go_wp2
  go_loopw [5, 7, 10] (fun V p i wr => ∃ (j : Nat), j ≤ n ∧ i = .int .i64 j ∧ Hid (OwnR wr w.heap.size V (atL (l.take j) site)) ∧ Hid (Below w.heap.size w wr)) (fun _ _ i _ => n - (intOf i).toNat)
  case atStart => exact ⟨0, by omega, rfl, OwnR.nil _ _, Below.refl _ _⟩
  case round =>
    obtain ⟨j, hj, rfl, hO, hB⟩ := hrel
    by_cases hlt : (j : Int) < (n : Int)
    · obtain ⟨g, o, s, k, u, h, rfl, hg, hxx, c1, c2, c3, c4⟩ := (HR.out.below hB.out).at_ (i := j) (by have := hn.out; omega)
      have e5 : IntKind.i64.wrap ((j : Int) + 1) = (j : Int) + 1 := by rw [IntKind.wrap_i64]; omega
      have hsn : Hid (l.take (j + 1) = l.take j ++ [(s, k, u, h)]) := by show _ = _; rw [take_snoc4 (by have := hn.out; omega), hxx.out]
      by_cases hs : h = site
      · have hat : Hid (atL (l.take (j + 1)) site = atL (l.take j) site ++ [(s, k, u, h)]) := by show _ = _; rw [hsn.out]; exact atL_snoc_yes hs
        have hlen : Hid ((atL (l.take j) site).length + 1 ≤ 3518437208880) := by have := atL_le (l.take j) site; rw [List.length_take] at this; show _ ≤ _; omega
        obtain rfl : site = h := hs.symm
        go_wp2_with (at_builtin; (refine app_res rfl (.tmp 18) (.tmp 20) rfl w.heap.size _ (atL (l.take j) site) _ [(s, k, u, site)] 1 1 rfl rfl rfl (hO.out.below (new2 _ _ _)) (rrd_at _ _ _ _ _ _ (by simp)) hlen (nxA (nxA hB.out _) _).size ?_); intro V1 W2 ho1 hb1; rw [← hat.out] at ho1; have HO1 := Lib.hid ho1; have HB1 := Lib.hid ((nxA (nxA hB.out _) _).trans hb1); clear ho1 hb1)
        go_roundw
        case rel => exact ⟨j + 1, by omega, by go_num, HO1, HB1⟩
        case measure => simp [intOf]; omega
      · have hat : Hid (atL (l.take (j + 1)) site = atL (l.take j) site) := by show _ = _; rw [hsn.out]; exact atL_snoc_no hs
        go_wp2
        go_roundw
        case rel => exact ⟨j + 1, by omega, by go_num, by rw [hat.out]; exact hO.out.below (newB _ _), nxA hB.out _⟩
        case measure => simp [intOf]; omega
    · have hfin : Hid (atL (l.take j) site = x) := by show _ = _; rw [List.take_of_length_le (by have := hn.out; omega)]; exact hx.out
      have hlen : Hid (x.length ≤ 3518437208880) := by rw [← hx.out]; have := atL_le l site; have := hn.out; show _ ≤ _; omega
      go_wp2
      go_ret
      have ho := hO.out
      rw [hfin.out] at ho
      obtain ⟨A', c', rfl, hi⟩ := ho.inR hlen.out
      exact ⟨A', c', rfl, hi, hB.out⟩
set_option maxHeartbeats 2000000 in
set_option maxRecDepth 8000 in
theorem refAt_is (A : Option Addr) (n c : Nat) (l : List P4) (site : Int) (w : World) (hl : InR w A n c l) {x : List P4} (hx : Hid (atL l site = x)) :
    Calls Tryd.prog 32 #[.slice A n c, .int .i64 site] w fun e w' => ∃ A' c', e = .returned (.slice A' x.length c') ∧ InR w' A' x.length c' x ∧ Below w.heap.size w w' := by
  have HR := Lib.hid hl.rd
  have hn : Hid (l.length = n) := hl.len
  have hbig := hl.big
  clear hl
  go_enter Tryd.func32, Tryd.ntmps32
  go_wp2
  go_loopw [5, 6] (fun V i wr => ∃ (j : Nat), j ≤ n ∧ i = .int .i64 j ∧ Hid (OwnR wr w.heap.size V (atL (l.take j) site)) ∧ Hid (Below w.heap.size w wr)) (fun _ i _ => n - (intOf i).toNat)
  case atStart => exact ⟨0, by omega, rfl, OwnR.nil _ _, Below.refl _ _⟩
  case round =>
    obtain ⟨j, hj, rfl, hO, hB⟩ := hrel
    by_cases hlt : (j : Int) < (n : Int)
    · obtain ⟨g, o, s, k, u, h, rfl, hg, hxx, c1, c2, c3, c4⟩ := (HR.out.below hB.out).at_ (i := j) (by have := hn.out; omega)
      have e5 : IntKind.i64.wrap ((j : Int) + 1) = (j : Int) + 1 := by rw [IntKind.wrap_i64]; omega
      have hsn : Hid (l.take (j + 1) = l.take j ++ [(s, k, u, h)]) := by show _ = _; rw [take_snoc4 (by have := hn.out; omega), hxx.out]
      by_cases hs : h = site
      · have hat : Hid (atL (l.take (j + 1)) site = atL (l.take j) site ++ [(s, k, u, h)]) := by show _ = _; rw [hsn.out]; exact atL_snoc_yes hs
        have hlen : Hid ((atL (l.take j) site).length + 1 ≤ 3518437208880) := by have := atL_le (l.take j) site; rw [List.length_take] at this; show _ ≤ _; omega
        obtain rfl : site = h := hs.symm
        go_wp2_with (at_builtin; (refine app_res rfl (.tmp 20) (.tmp 25) rfl w.heap.size _ (atL (l.take j) site) _ [(s, k, u, site)] 1 1 rfl rfl rfl (hO.out.below (newB _ _)) (rrd_at _ _ _ _ _ _ (by simp)) hlen (nxA hB.out _).size ?_); intro V1 W2 ho1 hb1; rw [← hat.out] at ho1; have HO1 := Lib.hid ho1; have HB1 := Lib.hid ((nxA hB.out _).trans hb1); clear ho1 hb1)
        go_roundw
        case rel => exact ⟨j + 1, by omega, by go_num, HO1, HB1⟩
        case measure => simp [intOf]; omega
      · have hat : Hid (atL (l.take (j + 1)) site = atL (l.take j) site) := by show _ = _; rw [hsn.out]; exact atL_snoc_no hs
        go_wp2
        go_roundw
        case rel => exact ⟨j + 1, by omega, by go_num, by rw [hat.out]; exact hO, hB⟩
        case measure => simp [intOf]; omega
    · have hfin : Hid (atL (l.take j) site = x) := by show _ = _; rw [List.take_of_length_le (by have := hn.out; omega)]; exact hx.out
      have hlen : Hid (x.length ≤ 3518437208880) := by rw [← hx.out]; have := atL_le l site; have := hn.out; show _ ≤ _; omega
      go_wp2
      go_ret
      have ho := hO.out
      rw [hfin.out] at ho
      obtain ⟨A', c', rfl, hi⟩ := ho.inR hlen.out
      exact ⟨A', c', rfl, hi, hB.out⟩
end Go.Proofs.YtmfdafffafbmpaaDoor
