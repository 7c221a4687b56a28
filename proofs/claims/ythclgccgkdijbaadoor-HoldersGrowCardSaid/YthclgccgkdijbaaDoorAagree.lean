/- Contracts: whether the modes of a list agree. -/
import Derived.Test.YthclgccgkdijbaaDoorAall
import Derived.WalkMore
import Derived.Deep.LoopGhost
namespace Go.Proofs.YthclgccgkdijbaaDoor
open Go.RowKit
set_option linter.unusedVariables false
set_option linter.unusedSimpArgs false

theorem cptM_is (a b : Int) (w : World) (hV : Vars w) {r : Bool} (hr : Hid (cpt a b = r)) : Calls Tryd.prog 76 #[.int .i64 a, .int .i64 b] w fun e w' => e = .returned (.bool r) ∧ w = w' := by
  rw [← hr.out]; exact cpt_any a b w hV
/-- Whether the mode i was met in a list. -/
def metB (l : List P2) (i : Int) : Bool := decide (¬ i = 0) && l.any (fun a => decide (a.1 = i))
theorem metB_iff {l : List P2} {i : Int} : metB l i = true ↔ ¬ i = 0 ∧ ∃ a ∈ l, a.1 = i := by
  unfold metB
  simp [List.any_eq_true]
theorem metB_nil (i : Int) : metB [] i = false := by simp [metB]
theorem metB_snoc (l : List P2) (x y i : Int) : metB (l ++ [(x, y)]) i = (metB l i || (decide (¬ i = 0) && decide (x = i))) := by
  rw [Bool.eq_iff_iff]
  simp only [metB_iff, Bool.or_eq_true, Bool.and_eq_true, decide_eq_true_eq, List.mem_append, List.mem_singleton]
  constructor
  · rintro ⟨h, a, ha | rfl, e⟩
    · exact .inl ⟨h, a, ha, e⟩
    · exact .inr ⟨h, e⟩
  · rintro (⟨h, a, ha, e⟩ | ⟨h, e⟩)
    · exact ⟨h, a, .inl ha, e⟩
    · exact ⟨h, (x, y), .inr rfl, e⟩
/-- The block that says which modes were met. -/
def Met (W : World) (b : Nat) (l : List P2) : Prop := b < W.heap.size ∧ ∀ i : Nat, i < 6 → W.cell? ⟨b, i, none⟩ = some (.bool (metB l i)) ∧ W.frozen? ⟨b, i, none⟩ = false
theorem Met.below {W W' : World} {b : Nat} {l : List P2} (h : Met W b l) (hb : Below W.heap.size W W') : Met W' b l := by
  have := hb.size
  refine ⟨by have := h.1; omega, fun i hi => ?_⟩
  obtain ⟨h1, h2⟩ := h.2 i hi
  exact ⟨(hb.cell (p := ⟨b, i, none⟩) h.1).trans h1, (hb.frozen (p := ⟨b, i, none⟩) h.1).trans h2⟩
theorem Met.new (W : World) (T : TypeId) : Met (W.alloc (.cells #[.bool false, .bool false, .bool false, .bool false, .bool false, .bool false] T)) W.heap.size [] := by
  refine ⟨by simp, fun i hi => ?_⟩
  have hc : i = 0 ∨ i = 1 ∨ i = 2 ∨ i = 3 ∨ i = 4 ∨ i = 5 := by omega
  rcases hc with rfl | rfl | rfl | rfl | rfl | rfl <;> simp [metB_nil]
theorem Met.store {W : World} {b : Nat} {l : List P2} (h : Met W b l) {x : Nat} (hx0 : ¬ x = 0) (hx6 : x < 6) (y : Int) : Met (W.setCell ⟨b, x, none⟩ (.bool true)) b (l ++ [((x : Int), y)]) := by
  refine ⟨by simpa using h.1, fun i hi => ?_⟩
  obtain ⟨h1, h2⟩ := h.2 i hi
  refine ⟨?_, by simpa using h2⟩
  rw [metB_snoc]
  by_cases e : x = i
  · subst e
    rw [World.cell?_setCell_same W _ _ h1, show (decide (¬ (x : Int) = 0) && decide ((x : Int) = x)) = true by simp; omega, Bool.or_true]
  · rw [World.cell?_setCell_other W _ _ _ (fun e2 => e (congrArg Addr.off e2)), h1, show (decide (¬ (i : Int) = 0) && decide ((x : Int) = i)) = false by simp; omega, Bool.or_false]
theorem fr_bad {a b : P2} (ha : ¬ a.1 = 0) (hb : ¬ b.1 = 0) (h : cpt a.1 b.1 = false) : fr a b = false := by
  unfold fr
  simp [ha, hb, h]
/-- A new amount agrees with those in front exactly if its mode does with the modes that were met. -/
theorem fr_met {l : List P2} {x y : Int} (hx : ¬ x = 0) : (∀ a ∈ l, fr a (x, y) = true) ↔ ∀ i, metB l i = true → cpt i x = true := by
  constructor
  · intro h i hi
    obtain ⟨h0, a, ha, rfl⟩ := metB_iff.1 hi
    have := h a ha
    unfold fr at this
    simp only [decide_eq_true_eq] at this
    rcases this with h1 | h1 | h1
    · exact absurd h1 h0
    · exact absurd h1 hx
    · exact h1
  · intro h a ha
    unfold fr
    simp only [decide_eq_true_eq]
    by_cases h0 : a.1 = 0
    · exact .inl h0
    · exact .inr (.inr (h _ (metB_iff.2 ⟨h0, a, ha, rfl⟩)))
theorem fr_zero {l : List P2} (y : Int) : ∀ a ∈ l, fr a (0, y) = true := fun a _ => by simp [fr]

set_option maxHeartbeats 2000000 in
set_option maxRecDepth 8000 in
theorem modesAgree_is (u : Int) (A : Option Addr) (n c : Nat) (l : List P2) (w : World) (hV : Vars w) (hl : ARd w A l) (hn : Hid (l.length = n)) (hm : Hid (n ≤ 1000)) (hp : Hid (pers 1 u l)) {r : Bool} (hr : Hid (frs l ↔ r = true)) :
    Calls Tryd.prog 61 #[.slice A n c] w fun e w' => e = .returned (.bool r) ∧ Below w.heap.size w w' := by
  have HR := Lib.hid hl
  have HV := Lib.hid hV
  clear hl hV
  go_enter Tryd.func61, Tryd.ntmps61
  go_wp2
  go_step3
  go_wp2
  go_step3
  go_wp2
  go_loopw [4, 6, 7, 10] (fun t p q i wr => ∃ (j : Nat), j ≤ n ∧ t = .bool true ∧ i = .int .i64 j ∧ Hid (Met wr w.heap.size (l.take j)) ∧ Hid (Below w.heap.size w wr) ∧ Hid (frs (l.take j))) (fun _ _ _ i _ => n - (intOf i).toNat)
  case atStart => exact ⟨0, by omega, rfl, rfl, by show Met _ _ _; exact Met.new _ _, newB _ _, by show frs _; simpa using frs_nil⟩
  case round =>
    obtain ⟨j, hj, rfl, rfl, hmet, hbl, hfrs⟩ := hrel
    by_cases hlt : (j : Int) < (n : Int)
    · obtain ⟨g, o, x, y, rfl, hg, hxy, c1, c2⟩ := (HR.out.below hbl.out).at_ (i := j) (by have := hn.out; omega)
      have e5 : IntKind.i64.wrap ((j : Int) + 1) = (j : Int) + 1 := by have := hm.out; rw [IntKind.wrap_i64]; omega
      have hy := per_is (pers_at hp.out (j := j) (by have := hn.out; omega) hxy.out)
      have hx0 : 0 ≤ x := by omega
      have hx5 : x ≤ 5 := by omega
      have hy0 : Hid (y = 0) := by show _ = _; omega
      clear hy
      obtain ⟨v, hv⟩ : ∃ v, Hid (zer x y = v) := ⟨_, rfl⟩
      cases v with
      | true =>
        have hx : Hid (x = 0) := (of_decide_eq_true hv.out : x = 0 ∧ y = 0).1
        have hmet2 : Hid (Met wr w.heap.size (l.take (j + 1))) := by
          show Met _ _ _
          refine ⟨hmet.out.1, fun i hi => ?_⟩
          rw [take_snoc2 (by have := hn.out; omega), hxy.out, metB_snoc, hx.out, show (decide (¬ (i : Int) = 0) && decide ((0 : Int) = i)) = false by simp; omega, Bool.or_false]
          exact hmet.out.2 i hi
        have hfrs2 : Hid (frs (l.take (j + 1))) := by
          show frs _
          rw [take_snoc2 (by have := hn.out; omega), hxy.out, hx.out]
          exact frs_snoc.2 ⟨hfrs.out, fr_zero y⟩
        go_wp2_with (first
          | (go_at_call 46; refine (zero_is _ _ _ hv).mono ?_; rintro e W1 ⟨rfl, hb1⟩))
        go_roundw
        case rel => exact ⟨j + 1, by omega, rfl, by go_num, (hmet2.out.below (newB _ _)).below hb1, nx (nxA hbl.out _) hb1, hfrs2⟩
        case measure => simp [intOf]; omega
      | false =>
        have hx : ¬ x = 0 := fun e => (of_decide_eq_false hv.out : ¬ (x = 0 ∧ y = 0)) ⟨e, hy0.out⟩
        go_wp2_with (first
          | (go_at_call 46; refine (zero_is _ _ _ hv).mono ?_; rintro e W1 ⟨rfl, hb1⟩; have hb1' := Lib.hid (nx (nxA hbl.out _) hb1); have hmet1 := Lib.hid ((hmet.out.below (newB _ _)).below hb1); have q1 := Lib.hid ((Q2.new wr _ _ _).below hb1); clear hb1))
        go_loopw [4, 7] (fun t q wr2 => ∃ (k : Nat), 1 ≤ k ∧ k ≤ 6 ∧ t = .bool true ∧ q = .int .i64 (k : Int) ∧ Hid (W1 = wr2) ∧ Hid (∀ i : Int, 1 ≤ i → i < k → metB (l.take j) i = true → cpt i x = true)) (fun _ q _ => 6 - (intOf q).toNat)
        case atStart => exact ⟨1, by omega, by omega, rfl, rfl, rfl, fun i h1 h2 => by omega⟩
        case round =>
          obtain ⟨k, hk1, hk6, rfl, rfl, hw, hno⟩ := hrel
          have hw' := hw.out
          subst hw'
          obtain ⟨j0, j1, j2⟩ := q1.out
          by_cases hlt2 : (k : Int) ≤ 5
          · have e6 : IntKind.i64.wrap ((k : Int) + 1) = (k : Int) + 1 := by rw [IntKind.wrap_i64]; omega
            obtain ⟨b, hb⟩ : ∃ b, Hid (metB (l.take j) (k : Int) = b) := ⟨_, rfl⟩
            obtain ⟨p, hp'⟩ : ∃ p, Hid (cpt (k : Int) x = p) := ⟨_, rfl⟩
            have hcell := (hmet1.out.2 k (by omega)).1
            rw [hb.out] at hcell
            have hnext : (b = false ∨ p = true) → Hid (∀ i : Int, 1 ≤ i → i < ((k + 1 : Nat) : Int) → metB (l.take j) i = true → cpt i x = true) := fun h i h1 h2 h3 => by
              by_cases e : i = (k : Int)
              · subst e
                rcases h with h | h
                · rw [hb.out, h] at h3; cases h3
                · rw [hp'.out, h]
              · exact hno.out i h1 (by omega) h3
            cases b with
            | false =>
              have hn2 := hnext (.inl rfl)
              clear hnext
              go_wp2
              go_roundw
              case rel => exact ⟨k + 1, by omega, by omega, rfl, by go_num, trivial, hn2⟩
              case measure => simp [intOf]; omega
            | true =>
              cases p with
              | true =>
                have hn2 := hnext (.inr rfl)
                clear hnext
                go_wp2_with (first
                  | (go_at_call 76; refine (cptM_is _ _ _ (HV.out.below hb1'.out) hp').mono ?_; rintro e W2 ⟨rfl, rfl⟩))
                go_roundw
                case rel => exact ⟨k + 1, by omega, by omega, rfl, by go_num, trivial, hn2⟩
                case measure => simp [intOf]; omega
              | false =>
                have hend : Hid (r = false) := by
                  show _ = _
                  cases hrr : r with
                  | false => rfl
                  | true =>
                    have h1 := frs_take (hr.out.2 hrr) (j + 1)
                    rw [take_snoc2 (by have := hn.out; omega), hxy.out, frs_snoc] at h1
                    have h2 := (fr_met hx).1 h1.2 _ hb.out
                    rw [hp'.out] at h2
                    cases h2
                clear hnext
                go_wp2_with (first
                  | (go_at_call 76; refine (cptM_is _ _ _ (HV.out.below hb1'.out) hp').mono ?_; rintro e W2 ⟨rfl, rfl⟩))
                rw [Exit.noGoto_ret]
                go_ret
                exact ⟨ret_bool hend.out.symm, hb1'.out⟩
          · have hk : k = 6 := by omega
            subst hk
            have hfrs2 : Hid (frs (l.take (j + 1))) := by
              show frs _
              rw [take_snoc2 (by have := hn.out; omega), hxy.out]
              refine frs_snoc.2 ⟨hfrs.out, (fr_met hx).2 (fun i hi => ?_)⟩
              obtain ⟨g0, a, ha, e⟩ := metB_iff.1 hi
              obtain ⟨q, hq, hql, hqa⟩ := mem_take2 ha
              have := per_is (hp.out a (by rw [← hqa]; exact getD_mem2 hql))
              exact hno.out i (by omega) (by omega) hi
            obtain ⟨xn, rfl⟩ := Int.eq_ofNat_of_zero_le hx0
            have hmet2 : Hid (Met (W1.setCell ⟨w.heap.size, xn, none⟩ (.bool true)) w.heap.size (l.take (j + 1))) := by
              show Met _ _ _
              rw [take_snoc2 (by have := hn.out; omega), hxy.out]
              exact hmet1.out.store (by omega) (by omega) y
            obtain ⟨hcell, hfz⟩ := hmet1.out.2 xn (by omega)
            have hx6 : (xn : Int) < 6 := by omega
            go_wp2
            go_roundw
            case rel => exact ⟨j + 1, by omega, rfl, by go_num, hmet2, hb1'.out.setCell (Nat.le_refl _) _, hfrs2⟩
            case measure => simp [intOf]; omega
    · have hend : Hid (r = true) := by
        show _ = _
        refine hr.out.1 ?_
        have := hfrs.out
        rwa [List.take_of_length_le (by have := hn.out; omega)] at this
      go_wp2
      go_ret
      exact ⟨ret_bool hend.out.symm, hbl.out⟩
end Go.Proofs.YthclgccgkdijbaaDoor
