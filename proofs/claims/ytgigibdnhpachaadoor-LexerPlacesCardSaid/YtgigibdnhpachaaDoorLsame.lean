/- Contract: Same. -/
import Derived.Test.YtgigibdnhpachaaDoorLall
import Derived.Shelf.SlSortCmp.QuietGrown
namespace Go.Proofs.YtgigibdnhpachaaDoor
open Go.RowKit
open Go.Sort (grow)
set_option linter.unusedVariables false
set_option linter.unusedSimpArgs false

theorem Gro.new (a : World) (o : Obj) : Gro a (a.alloc o) := (Gro.refl a).alloc o
theorem iff_no {p : Prop} {r : Bool} (h : p ↔ r = true) (hp : ¬ p) : r = false := by
  cases r with
  | false => rfl
  | true => exact absurd (h.2 rfl) hp
theorem yes_of {p : Prop} (h : p) : Hid (p ↔ true = true) := ⟨fun _ => rfl, fun _ => h⟩
theorem neTok (k u h k' u' h' : Int) (s t : ByteArray) (w : World) : (binOp .neq 32 (tk k s u h) (tk k' t u' h')).run Tryd.prog w = .ok (.bool !(eqS s t && decide (k = k' ∧ u = u' ∧ h = h'))) w := by
  have u3 := Tryd.underlying3
  have u4 := Tryd.underlying9
  have hS : Tryd.prog.underlying 32 = some (.struct (Tryd.prog.fieldsOf 32)) := by kernel_rfl
  have hp : Tryd.prog.stoodInHeld 32 = false := by kernel_rfl
  rw [run_neq_struct, show (10000 : Nat) = 9999 + 1 from rfl, run_equalIn_agg w 9999 32 _ _ hS hp]
  simp only [Program.fieldsOf, Tryd.underlying32]
  go_simp
  unfold eqS
  by_cases h0 : s.toList = t.toList <;> by_cases h1 : k = k' <;> by_cases h2 : u = u' <;> by_cases h3 : h = h' <;> simp [h0, h1, h2, h3]
theorem list_extT {l r : List T4} {n : Nat} (hl : l.length = n) (hr : r.length = n) (h : ∀ i, i < n → l.getD i default = r.getD i default) : l = r := by
  apply List.ext_getElem (by omega)
  intro i h1 h2
  have := h i (by omega)
  simpa [List.getD_eq_getElem?_getD, List.getElem?_eq_getElem h1, List.getElem?_eq_getElem h2] using this
set_option maxHeartbeats 4000000 in
set_option maxRecDepth 8000 in
theorem same_is (A : Option Addr) (n c : Nat) (l : List T4) (B : Option Addr) (m d : Nat) (r : List T4) (w : World) (hl : InT w A n c l) (hr : InT w B m d r) {b : Bool} (hb : Hid (l = r ↔ b = true)) :
    Calls Tryd.prog 12 #[.slice A n c, .slice B m d] w fun e w' => e = .returned (.bool b) ∧ Below w.heap.size w w' := by
  have hn : Hid (l.length = n) := hl.len
  have hm : Hid (r.length = m) := hr.len
  have hbig := hl.big
  have HL := Lib.hid hl.rd
  have HR := Lib.hid hr.rd
  have mixed : Tryd.prog.follows .mixedOrders = true := by kernel_rfl
  clear hl hr
  by_cases hnm : (n : Int) = (m : Int)
  · obtain rfl : n = m := by omega
    clear hnm
    go_enter Tryd.func12, Tryd.ntmps12
    go_wp2
    go_loopw [5] (fun i wr => ∃ (j : Nat), j ≤ n ∧ i = .int .i64 j ∧ Hid (Gro w wr) ∧ Hid (∀ i, i < j → l.getD i default = r.getD i default)) (fun i _ => n - (intOf i).toNat)
    case atStart => exact ⟨0, by omega, rfl, Gro.refl _, fun i hi => by omega⟩
    case round =>
      obtain ⟨j, hj, rfl, hG, hall⟩ := hrel
      by_cases hlt : (j : Int) < (n : Int)
      · obtain ⟨g, o, k, s, u, h, rfl, hg, hx, c1, c2, c3, c4⟩ := (HL.out.below hG.out.below).at_ (i := j) (by have := hn.out; omega)
        obtain ⟨g', o', k', s', u', h', rfl, hg', hx', d1, d2, d3, d4⟩ := (HR.out.below hG.out.below).at_ (i := j) (by have := hm.out; omega)
        have e5 : IntKind.i64.wrap ((j : Int) + 1) = (j : Int) + 1 := by rw [IntKind.wrap_i64]; omega
        obtain ⟨v, hv⟩ : ∃ v, Hid ((eqS s s' && decide (k = k' ∧ u = u' ∧ h = h')) = v) := ⟨_, rfl⟩
        have hne := neTok k u h k' u' h' s s'
        rw [hv.out] at hne
        have hiff : Hid (l.getD j default = r.getD j default ↔ v = true) := by
          show _ ↔ _
          rw [hx.out, hx'.out, ← hv.out, Bool.and_eq_true, eqS_iff, decide_eq_true_iff]
          simp only [Prod.mk.injEq]
          constructor
          · rintro ⟨a, b, c, d⟩; exact ⟨b, a, c, d⟩
          · rintro ⟨b, a, c, d⟩; exact ⟨a, b, c, d⟩
        have l1 : ∀ n os, (grow (wr.drewN n) os).cell? ⟨g, o + j * 4, none⟩ = some (.int .i64 k) := cell_grown hg c1
        have l2 : ∀ n os, (grow (wr.drewN n) os).cell? ⟨g, o + j * 4 + 1, none⟩ = some (.string s) := cell_grown hg c2
        have l3 : ∀ n os, (grow (wr.drewN n) os).cell? ⟨g, o + j * 4 + 2, none⟩ = some (.int .i64 u) := cell_grown hg c3
        have l4 : ∀ n os, (grow (wr.drewN n) os).cell? ⟨g, o + j * 4 + 3, none⟩ = some (.int .i64 h) := cell_grown hg c4
        have l5 : ∀ n os, (grow (wr.drewN n) os).cell? ⟨g', o' + j * 4, none⟩ = some (.int .i64 k') := cell_grown hg' d1
        have l6 : ∀ n os, (grow (wr.drewN n) os).cell? ⟨g', o' + j * 4 + 1, none⟩ = some (.string s') := cell_grown hg' d2
        have l7 : ∀ n os, (grow (wr.drewN n) os).cell? ⟨g', o' + j * 4 + 2, none⟩ = some (.int .i64 u') := cell_grown hg' d3
        have l8 : ∀ n os, (grow (wr.drewN n) os).cell? ⟨g', o' + j * 4 + 3, none⟩ = some (.int .i64 h') := cell_grown hg' d4
        clear c1 c2 c3 c4 d1 d2 d3 d4
        cases v with
        | false =>
          have hend : Hid (b = false) := iff_no hb.out (fun hh => by have := hiff.out.1 (by rw [hh]); cases this)
          clear hb
          go_wp2
          refine wp_region_quiet_grown mixed (by kernel_rfl) ?_
          repeat (go_big_quiet_step (first | fail))
          refine wpQuiet_nil ?_
          intro _ hw'
          obtain ⟨⟨nq, osq⟩, hw''⟩ := hw'
          subst hw''
          have hG2 := Lib.hid (hG.out.trans (⟨nq, osq, rfl⟩ : Gro wr _))
          go_wp2
          go_ret
          exact ⟨ret_bool hend.out.symm, hG2.out.below⟩
        | true =>
          have hall2 : Hid (∀ i, i < j + 1 → l.getD i default = r.getD i default) := fun i hi => by
            by_cases e : i = j
            · subst e; exact hiff.out.2 rfl
            · exact hall.out i (by omega)
          go_wp2
          refine wp_region_quiet_grown mixed (by kernel_rfl) ?_
          repeat (go_big_quiet_step (first | fail))
          refine wpQuiet_nil ?_
          intro _ hw'
          obtain ⟨⟨nq, osq⟩, hw''⟩ := hw'
          subst hw''
          have hG2 := Lib.hid (hG.out.trans (⟨nq, osq, rfl⟩ : Gro wr _))
          go_wp2
          go_roundw
          case rel => exact ⟨j + 1, by omega, by go_num, hG2, hall2⟩
          case measure => simp [intOf]; omega
      · have hend : Hid (b = true) := hb.out.1 (list_extT hn.out hm.out fun i hi => hall.out i (by omega))
        go_wp2
        go_ret
        exact ⟨ret_bool hend.out.symm, hG.out.below⟩
  · have hend : Hid (b = false) := iff_no hb.out (fun hh => by subst hh; have := hn.out; have := hm.out; omega)
    clear hb
    go_enter Tryd.func12, Tryd.ntmps12
    go_wp2
    go_ret
    exact ⟨ret_bool hend.out.symm, Below.refl _ _⟩
theorem same_yes (A : Option Addr) (n c : Nat) (l : List T4) (B : Option Addr) (m d : Nat) (w : World) (hl : InT w A n c l) (hr : InT w B m d l) :
    Calls Tryd.prog 12 #[.slice A n c, .slice B m d] w fun e w' => e = .returned (.bool true) ∧ Below w.heap.size w w' := same_is A n c l B m d l w hl hr (yes_of rfl)
end Go.Proofs.YtgigibdnhpachaaDoor
