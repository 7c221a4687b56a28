/- Contracts: slices.Concat of two slices of grants, slices.BinarySearchFunc at grants; others of the program. -/
import Derived.Test.YthclgccgkdijbaaDoorHset
import Derived.Test.YthclgccgkdijbaaDoorHvd
import Derived.Test.YthclgccgkdijbaaDoorAcat
namespace Go.Proofs.YthclgccgkdijbaaDoor
open Go.RowKit
set_option linter.unusedVariables false
set_option linter.unusedSimpArgs false

set_option maxHeartbeats 1000000 in
theorem grow_h (n : Nat) (hn0 : 0 < n) (hn1 : n ≤ 1000000) (w : World) :
    Calls Tryd.prog 77 #[.slice none 0 0, .int .i64 n] w fun e w' => ∃ V, e = .returned V ∧ OwnH w' w.heap.size V [] ∧ Below w.heap.size w w' := by
  obtain ⟨i0, hi, hz0, hz1, hz2⟩ := info_parts hold_info
  have hrz : ∀ ty, (Builtin.append_ #[24, 3] ty #[.slice none 0 0, .int .i64 (n : Int)]).run Tryd.prog w = _ := fun ty =>
    Lib.run_append_nil_zeros w 24 3 ty 53 i0 _ .i64 .i64 Tryd.underlying24 Tryd.underlying3 hi hz0 n hn0 (by omega) (by omega) (by rw [hz2]; omega)
  have hge : n ≤ grownCap w n 0 53 := grownCap_ge w _ _ _
  have hcm : grownCap w n 0 53 ≤ maxLen := grownCap_le_maxLen w n 0 _ (by simp only [maxLen]; omega)
  obtain ⟨G, hG⟩ : ∃ G, Hid (grownCap w n 0 53 = G) := ⟨_, rfl⟩
  rw [hG.out] at hrz hge hcm
  have hown : Hid (OwnH (w.drew.alloc (.cells (Builtin.zeroCells (Value.agg #[.int .i64 0, .int .i64 0, .int .i64 0, .int .i64 0, .int .i64 0]).cells n ++ Builtin.zeroCells (Value.agg #[.int .i64 0, .int .i64 0, .int .i64 0, .int .i64 0, .int .i64 0]).cells (G - n)) 53)) w.heap.size (.slice (some ⟨w.heap.size, 0, none⟩) 0 G) []) := by
    refine ⟨rfl, .inr ⟨w.heap.size, G, _, rfl, Nat.le_refl _, heap_alloc_new w.drew _, Nat.zero_le _, hcm, ?_, ?_⟩⟩
    · rw [Array.size_append, size_zeroCells, size_zeroCells, show (Value.agg #[.int .i64 0, .int .i64 0, .int .i64 0, .int .i64 0, .int .i64 0]).cells.size = 5 from rfl, ← Nat.add_mul]
      congr 1
      omega
    · simp [hcs]
  have hpos : ((n : Int) - 0) = n := by omega
  have h4 : (0 : Int) < (n : Int) := by omega
  have h1 : ¬ ((n : Int) < 0) := by omega
  have h2 : IntKind.i64.wrap (n : Int) = n := by rw [IntKind.wrap_i64]; omega
  have h3 : (0 : Int) ≤ (G : Int) := by omega
  clear hcm hG
  go_enter Tryd.func77, Tryd.ntmps77
  go_wp2_with (at_builtin; refine Lib.wpList_append_run _ rfl _ _ _ _ rfl _ _ rfl rfl _ _ (hrz _) ?_)
  go_ret
  exact ⟨_, rfl, hown.out, nxA (bdN (Below.refl _ _) 1) _⟩

theorem grow_h0 (w : World) : Calls Tryd.prog 77 #[.slice none 0 0, .int .i64 (0 : Nat)] w fun e w' => ∃ V, e = .returned V ∧ OwnH w' w.heap.size V [] ∧ Below w.heap.size w w' := by
  go_enter Tryd.func77, Tryd.ntmps77
  go_wp2
  go_ret
  exact ⟨_, rfl, OwnH.nil _ _, Below.refl _ _⟩
theorem grow_any (n : Nat) (hn1 : n ≤ 1000000) (w : World) :
    Calls Tryd.prog 77 #[.slice none 0 0, .int .i64 n] w fun e w' => ∃ V, e = .returned V ∧ OwnH w' w.heap.size V [] ∧ Below w.heap.size w w' := by
  rcases Nat.eq_zero_or_pos n with rfl | h
  · exact grow_h0 w
  · exact grow_h n h hn1 w
def catH (l r : List Hd) (k : Nat) : List Hd := if k = 0 then [] else if k = 1 then l else l ++ r
set_option maxHeartbeats 2000000 in
set_option maxRecDepth 8000 in
theorem concat_h (g n m cn cm : Nat) (A B : Option Addr) (l r : List Hd) (w : World) (h0 : w.cell? ⟨g, 0, none⟩ = some (.slice A n cn)) (h1 : w.cell? ⟨g, 1, none⟩ = some (.slice B m cm))
    (hl : HRd w A l) (hr : HRd w B r) (hn : Hid (l.length = n)) (hm : Hid (r.length = m)) (hs : Hid (n + m ≤ 1000)) :
    Calls Tryd.prog 71 #[.slice (some ⟨g, 0, none⟩) 2 2] w fun e w' => ∃ V, e = .returned V ∧ OwnH w' w.heap.size V (l ++ r) ∧ Below w.heap.size w w' := by
  have HL := Lib.hid hl
  have HR := Lib.hid hr
  have H0 := Lib.hid h0
  have H1 := Lib.hid h1
  clear hl hr h0 h1
  go_enter Tryd.func71, Tryd.ntmps71
  go_wp2
  go_loopw [3, 5, 11] (fun t p i wr => ∃ (k : Nat), k ≤ 2 ∧ i = .int .i64 (k : Int) ∧ t = .int .i64 ((lenAt n m k : Nat) : Int) ∧ Hid (w = wr)) (fun _ _ i _ => 2 - (intOf i).toNat)
  case atStart => exact ⟨0, by omega, rfl, rfl, rfl⟩
  case round =>
    obtain ⟨k, hk, rfl, rfl, hw⟩ := hrel
    have hw' := hw.out
    subst hw'
    have hc : k = 0 ∨ k = 1 ∨ k = 2 := by omega
    have c0 := H0.out
    have c1 := H1.out
    rcases hc with rfl | rfl | rfl
    · have e1 : lenAt n m 0 = 0 := rfl
      have e2 : IntKind.i64.wrap (n : Int) = n := by have := hs.out; rw [IntKind.wrap_i64]; omega
      go_wp2
      go_roundw
      case rel => exact ⟨1, by omega, by go_num, by simp [lenAt], trivial⟩
      case measure => simp [intOf]
    · have e1 : lenAt n m 1 = n := rfl
      have e2 : IntKind.i64.wrap ((n : Int) + (m : Int)) = (n : Int) + (m : Int) := by have := hs.out; rw [IntKind.wrap_i64]; omega
      have e3 : 0 ≤ (n : Int) + (m : Int) := by omega
      go_wp2
      go_roundw
      case rel => exact ⟨2, by omega, by go_num, by simp [lenAt], trivial⟩
      case measure => simp [intOf]
    · have e1 : lenAt n m 2 = n + m := rfl
      clear c0 c1
      go_wp2_with (first
        | (go_at_call 77; refine (grow_any (lenAt n m 2) (by rw [e1]; have := hs.out; omega) _).mono ?_; rintro e W1 ⟨V0, rfl, ho0, hb0⟩; have HO0 := Lib.hid ho0; have HB0 := Lib.hid hb0; clear ho0 hb0))
      go_loopw [6, 8, 27] (fun V p i wr => ∃ (k : Nat), k ≤ 2 ∧ i = .int .i64 (k : Int) ∧ Hid (OwnH wr w.heap.size V (catH l r k)) ∧ Hid (Below w.heap.size w wr)) (fun _ _ i _ => 2 - (intOf i).toNat)
      case atStart => exact ⟨0, by omega, rfl, HO0, HB0⟩
      case round =>
        obtain ⟨k, hk2, rfl, hO, hB⟩ := hrel
        have hc : k = 0 ∨ k = 1 ∨ k = 2 := by omega
        have hcell : g < w.heap.size := World.block_lt_of_cell? w _ H0.out
        have c0 : wr.cell? ⟨g, 0, none⟩ = some (.slice A n cn) := (hB.out.cell (p := ⟨g, 0, none⟩) hcell).trans H0.out
        have c1 : wr.cell? ⟨g, 1, none⟩ = some (.slice B m cm) := (hB.out.cell (p := ⟨g, 1, none⟩) hcell).trans H1.out
        rcases hc with rfl | rfl | rfl
        · go_wp2_with (at_builtin; (refine app_hold rfl (.tmp 31) (.tmp 32) rfl w.heap.size _ [] A l n cn hn rfl rfl hO.out (HL.out.below hB.out) (by have := hs.out; show _ ≤ _; simp; omega) hB.out.size ?_); intro V1 W2 ho1 hb1; have HO1 := Lib.hid ho1; have HB1 := Lib.hid (hB.out.trans hb1); clear ho1 hb1)
          go_roundw
          case rel => exact ⟨1, by omega, by go_num, HO1, HB1⟩
          case measure => simp [intOf]
        · go_wp2_with (at_builtin; (refine app_hold rfl (.tmp 31) (.tmp 32) rfl w.heap.size _ l B r m cm hm rfl rfl hO.out (HR.out.below hB.out) (by have := hs.out; have := hn.out; show _ ≤ _; omega) hB.out.size ?_); intro V1 W2 ho1 hb1; have HO1 := Lib.hid ho1; have HB1 := Lib.hid (hB.out.trans hb1); clear ho1 hb1)
          go_roundw
          case rel => exact ⟨2, by omega, by go_num, HO1, HB1⟩
          case measure => simp [intOf]
        · clear c0 c1
          go_wp2
          go_ret
          exact ⟨_, rfl, hO.out, hB.out⟩

/-! ### Search -/
/-- Where a process stands, or would stand. -/
def PosH (l : List Hd) (p : Pr3) (r : Nat) : Prop := r ≤ l.length ∧ (∀ t, t < r → ltP (l.getD t default).1 p) ∧ ∀ t, r ≤ t → t < l.length → ¬ ltP (l.getD t default).1 p
theorem pos_ex {l : List Hd} (h : AscH l) (p : Pr3) : ∃ r, PosH l p r := by
  induction l with
  | nil => exact ⟨0, Nat.le_refl _, fun t ht => by omega, fun t _ ht => by simp at ht⟩
  | cons x l ih =>
    have h' := List.pairwise_cons.1 h
    by_cases hx : ltP x.1 p
    · obtain ⟨r, h1, h2, h3⟩ := ih h'.2
      refine ⟨r + 1, by simpa using h1, fun t ht => ?_, fun t ht hl => ?_⟩
      · cases t with
        | zero => simpa using hx
        | succ t => have := h2 t (by omega); simpa using this
      · obtain ⟨m, rfl⟩ : ∃ m, t = m + 1 := ⟨t - 1, by omega⟩
        have := h3 m (by omega) (by simpa using hl)
        simpa using this
    · refine ⟨0, by omega, fun t ht => by omega, fun t _ hl => ?_⟩
      cases t with
      | zero => simpa using hx
      | succ t =>
        have h4 : l.getD t default ∈ l := getD_memH (by simpa using hl)
        have h5 := h'.1 _ h4
        intro h6
        exact hx (ltP_trans h5 (by simpa using h6))
theorem pos_one {l : List Hd} {p : Pr3} {r i : Nat} (h : PosH l p r) (hi : i ≤ l.length) (h1 : ∀ t, t < i → ltP (l.getD t default).1 p) (h2 : ∀ t, i ≤ t → t < l.length → ¬ ltP (l.getD t default).1 p) : i = r := by
  rcases Nat.lt_trichotomy i r with h3 | h3 | h3
  · exact absurd (h.2.1 i h3) (h2 i (Nat.le_refl _) (by have := h.1; omega))
  · exact h3
  · exact absurd (h1 r h3) (h.2.2 r (Nat.le_refl _) (by omega))
theorem getD_delH : ∀ {l : List Hd} {p : Pr3} {r : Nat}, AscH l → r < l.length → (l.getD r default).1 = p → delH l p = l.take r ++ l.drop (r + 1)
  | [], _, _, _, h, _ => by simp at h
  | x :: l, p, 0, ha, _, e => by
    have h' := List.pairwise_cons.1 ha
    have e' : x.1 = p := by simpa using e
    unfold delH
    rw [List.filter_cons, if_neg (by simp [e'])]
    simp only [List.take_zero, List.nil_append, List.drop_succ_cons, List.drop_zero]
    rw [List.filter_eq_self]
    intro y hy
    have h1 := h'.1 y hy
    have : y.1 ≠ p := fun h => by rw [e', h] at h1; exact ltP_irr _ h1
    simpa using this
  | x :: l, p, r + 1, ha, hr, e => by
    have h' := List.pairwise_cons.1 ha
    have hr' : r < l.length := by simpa using hr
    have e' : (l.getD r default).1 = p := by simpa using e
    have hx : x.1 ≠ p := fun h => by
      have h1 := h'.1 _ (getD_memH hr')
      rw [e', h] at h1
      exact ltP_irr _ h1
    have ih := getD_delH h'.2 hr' e'
    unfold delH at ih ⊢
    rw [List.filter_cons, if_pos (by simpa using hx), ih]
    rfl
theorem delH_none {l : List Hd} {p : Pr3} {r : Nat} (ha : AscH l) (h : PosH l p r) (hn : ¬ (r < l.length ∧ (l.getD r default).1 = p)) : delH l p = l := by
  unfold delH
  rw [List.filter_eq_self]
  intro y hy
  obtain ⟨i, hi, rfl⟩ := mem_getDH hy
  have : (l.getD i default).1 ≠ p := fun he => by
    rcases Nat.lt_trichotomy i r with h1 | h1 | h1
    · have := h.2.1 i h1
      rw [he] at this
      exact ltP_irr _ this
    · subst h1
      exact hn ⟨hi, he⟩
    · have h2 := asc_at ha h1 hi
      rw [he] at h2
      exact h.2.2 r (Nat.le_refl _) (by omega) h2
  simpa using this
theorem cmp3_zero (p q : Pr3) : cmp3 p.1 p.2.1 p.2.2 q.1 q.2.1 q.2.2 = 0 ↔ p = q := by
  have h1 := ltP_cmp p q
  have h2 := ltP_cmp' p q
  constructor
  · intro h
    by_cases he : p = q
    · exact he
    · rcases ltP_total he with h3 | h3
      · have := h1.2 h3; omega
      · have := h2.2 h3; omega
  · rintro rfl
    have h3 : ¬ cmp3 p.1 p.2.1 p.2.2 p.1 p.2.1 p.2.2 < 0 := fun h => ltP_irr p (h1.1 h)
    have h4 : ¬ 0 < cmp3 p.1 p.2.1 p.2.2 p.1 p.2.1 p.2.2 := fun h => ltP_irr p (h2.1 h)
    omega
set_option maxHeartbeats 1000000 in
theorem othersCmp_is (a b d x y z m v : Int) (w : World) {r : Int} (hr : Hid (cmp3 x y z a b d = r)) :
    Calls Tryd.prog 70 #[hag x y z m v, .agg #[.int .i64 a, .int .i64 b, .int .i64 d]] w fun e w' => e = .returned (.int .i64 r) ∧ Below w.heap.size w w' := by
  go_enter Tryd.func70, Tryd.ntmps70
  go_wp2_with (go_at_call 34; refine (compareProc_is x y z a b d _ hr).mono ?_; rintro e W1 ⟨rfl, hb1⟩; have HB1 := Lib.hid (dn2 hb1); clear hb1)
  go_ret
  exact ⟨rfl, HB1.out⟩
set_option maxHeartbeats 4000000 in
set_option maxRecDepth 20000 in
theorem search_is (A : Option Addr) (n c : Nat) (l : List Hd) (a b d : Int) (w : World) (hl : HRd w A l) (hn : Hid (l.length = n)) (hm : Hid (n ≤ 1000)) (ha : Hid (AscH l)) {r : Nat} (hr : Hid (PosH l (a, b, d) r)) {f : Bool} (hf : Hid ((r < l.length ∧ (l.getD r default).1 = (a, b, d)) ↔ f = true)) :
    Calls Tryd.prog 69 #[.slice A n c, .agg #[.int .i64 a, .int .i64 b, .int .i64 d], .func (.func 70) #[] #[]] w fun e w' => e = .returned (.tuple #[.int .i64 r, .bool f]) ∧ Below w.heap.size w w' := by
  have HR := Lib.hid hl
  have HK0 := Lib.hid (Blk.new w [.int .i64 a, .int .i64 b, .int .i64 d] 26 rfl)
  have mixed : Tryd.prog.follows .mixedOrders = true := by kernel_rfl
  clear hl
  go_enter Tryd.func69, Tryd.ntmps69
  go_wp2
  go_loopw [9, 10] (fun i j wr => ∃ (p q : Nat), p ≤ q ∧ q ≤ n ∧ i = .int .i64 p ∧ j = .int .i64 q ∧ Hid (Blk wr w.heap.size [.int .i64 a, .int .i64 b, .int .i64 d]) ∧ Hid (Below w.heap.size w wr) ∧ Hid (∀ t, t < p → ltP (l.getD t default).1 (a, b, d)) ∧ Hid (∀ t, q ≤ t → t < l.length → ¬ ltP (l.getD t default).1 (a, b, d))) (fun i j _ => (intOf j).toNat - (intOf i).toNat)
  case atStart => exact ⟨0, n, by omega, by omega, rfl, rfl, HK0, newB _ _, fun t ht => by omega, fun t ht hl => by have := hn.out; omega⟩
  case round =>
    obtain ⟨p, q, hpq, hqn, rfl, rfl, hb0, hB, hlo, hhi⟩ := hrel
    obtain ⟨WR, hWR⟩ : ∃ W, W = wr := ⟨_, rfl⟩
    subst hWR
    have hm1 := hm.out
    by_cases hlt : (p : Int) < (q : Int)
    · obtain ⟨h, hh⟩ : ∃ h, Hid ((p + q) / 2 = h) := ⟨_, Lib.hid rfl⟩
      have hph : p ≤ h := by have := hh.out; omega
      have hhq : h < q := by have := hh.out; omega
      have e1 : IntKind.i64.wrap ((p : Int) + (q : Int)) = (p : Int) + (q : Int) := by rw [IntKind.wrap_i64]; omega
      have e2 : IntKind.u64.wrap ((p : Int) + (q : Int)) = (p : Int) + (q : Int) := by rw [IntKind.wrap_u64]; omega
      have e3 : ((p : Int) + (q : Int)) / 2 = (h : Int) := by have := hh.out; omega
      have e4 : IntKind.i64.wrap (h : Int) = (h : Int) := by rw [IntKind.wrap_i64]; omega
      have e5 : IntKind.i64.wrap ((h : Int) + 1) = (h : Int) + 1 := by rw [IntKind.wrap_i64]; omega
      have e6 : IntKind.u64.wrap (h : Int) = (h : Int) := by rw [IntKind.wrap_u64]; omega
      have hhn : (h : Int) < (n : Int) := by omega
      obtain ⟨g, o, x, y, z, m, v, rfl, hg, hx, c1, c2, c3, c4, c5⟩ := (HR.out.below hB.out).at_ (i := h) (by have := hn.out; omega)
      obtain ⟨t0, ht0⟩ : ∃ t0, Hid (cmp3 x y z a b d = t0) := ⟨_, rfl⟩
      have hlt2 : Hid (ltP (l.getD h default).1 (a, b, d) ↔ t0 < 0) := Lib.hid (by rw [hx.out, ← ht0.out]; exact (ltP_cmp (x, y, z) (a, b, d)).symm)
      have k1 : ∀ (P : NxW WR), P.W.cell? ⟨g, o + h * 5, none⟩ = some (.int .i64 x) := NxW.cell c1
      have k2 : ∀ (P : NxW WR), P.W.cell? ⟨g, o + h * 5 + 1, none⟩ = some (.int .i64 y) := NxW.cell c2
      have k3 : ∀ (P : NxW WR), P.W.cell? ⟨g, o + h * 5 + 2, none⟩ = some (.int .i64 z) := NxW.cell c3
      have k4 : ∀ (P : NxW WR), P.W.cell? ⟨g, o + h * 5 + 3, none⟩ = some (.int .i64 m) := NxW.cell c4
      have k5 : ∀ (P : NxW WR), P.W.cell? ⟨g, o + h * 5 + 4, none⟩ = some (.int .i64 v) := NxW.cell c5
      have r1 : ∀ (P : NxW WR), P.W.cell? ⟨w.heap.size, 0, none⟩ = some (.int .i64 a) := NxW.cell (hb0.out.cell 0 rfl)
      have r2 : ∀ (P : NxW WR), P.W.cell? ⟨w.heap.size, 1, none⟩ = some (.int .i64 b) := NxW.cell (hb0.out.cell 1 rfl)
      have r3 : ∀ (P : NxW WR), P.W.cell? ⟨w.heap.size, 2, none⟩ = some (.int .i64 d) := NxW.cell (hb0.out.cell 2 rfl)
      have HC := Lib.hid (fun p : NxW WR => Calls.nx_of p (othersCmp_is a b d x y z m v p.W ht0))
      clear c1 c2 c3 c4 c5 hm1
      by_cases hq0 : t0 < 0
      · have hq0' : (decide (t0 < 0)) = true := decide_eq_true hq0
        have hlo2 : Hid (∀ t, t < h + 1 → ltP (l.getD t default).1 (a, b, d)) := Lib.hid (fun t ht => by
          rcases Nat.lt_or_ge t h with h1 | h1
          · exact ltP_trans (asc_at ha.out h1 (by have := hn.out; omega)) (hlt2.out.2 hq0)
          · rw [show t = h by omega]; exact hlt2.out.2 hq0)
        go_upto_region 5 with fail
        refine wp_region_below mixed (by kernel_rfl) ?_
        repeat (go_big_quiet_step (first
          | (go_at_call 70; exact HC.out _)))
        refine wpQuiet_nil ?_
        intro _ hw'
        obtain ⟨⟨W2, hb2⟩, hw''⟩ := hw'
        subst hw''
        all_goals (
          have HB2 := Lib.hid (nx hB.out hb2)
          have HK2 := Lib.hid (hb0.out.up hb2 hb0.out.lt)
          go_wp2
          go_roundw
          case rel => exact ⟨h + 1, q, by omega, by omega, by go_num, rfl, HK2, HB2, hlo2, hhi⟩
          case measure => simp [intOf]; omega)
      · have hq0' : (decide (t0 < 0)) = false := decide_eq_false hq0
        have hhi2 : Hid (∀ t, h ≤ t → t < l.length → ¬ ltP (l.getD t default).1 (a, b, d)) := Lib.hid (fun t ht htl hlt3 => by
          rcases Nat.lt_or_ge h t with h1 | h1
          · exact hq0 (hlt2.out.1 (ltP_trans (asc_at ha.out h1 htl) hlt3))
          · rw [show t = h by omega] at hlt3; exact hq0 (hlt2.out.1 hlt3))
        go_upto_region 5 with fail
        refine wp_region_below mixed (by kernel_rfl) ?_
        repeat (go_big_quiet_step (first
          | (go_at_call 70; exact HC.out _)))
        refine wpQuiet_nil ?_
        intro _ hw'
        obtain ⟨⟨W2, hb2⟩, hw''⟩ := hw'
        subst hw''
        all_goals (
          have HB2 := Lib.hid (nx hB.out hb2)
          have HK2 := Lib.hid (hb0.out.up hb2 hb0.out.lt)
          go_wp2
          go_roundw
          case rel => exact ⟨p, h, by omega, by omega, rfl, rfl, HK2, HB2, hlo, hhi2⟩
          case measure => simp [intOf]; omega)
    · have hpe : p = q := by omega
      subst hpe
      have hpr : p = r := pos_one hr.out (by have := hn.out; omega) hlo.out hhi.out
      subst hpr
      by_cases hpn : p < n
      · have hpni : (p : Int) < (n : Int) := by omega
        obtain ⟨g, o, x, y, z, m, v, rfl, hg, hx, c1, c2, c3, c4, c5⟩ := (HR.out.below hB.out).at_ (i := p) (by have := hn.out; omega)
        obtain ⟨t0, ht0⟩ : ∃ t0, Hid (cmp3 x y z a b d = t0) := ⟨_, rfl⟩
        have hft : Hid ((t0 == 0) = f) := Lib.hid (by
          have h1 := hf.out
          rw [hx.out] at h1
          have h2 := cmp3_zero (x, y, z) (a, b, d)
          rw [Bool.eq_iff_iff, beq_iff_eq, ← ht0.out, ← h1, h2]
          exact ⟨fun h => ⟨by have := hn.out; omega, h⟩, fun h => h.2⟩)
        have hft2 := hft.out
        have k1 : ∀ (P : NxW WR), P.W.cell? ⟨g, o + p * 5, none⟩ = some (.int .i64 x) := NxW.cell c1
        have k2 : ∀ (P : NxW WR), P.W.cell? ⟨g, o + p * 5 + 1, none⟩ = some (.int .i64 y) := NxW.cell c2
        have k3 : ∀ (P : NxW WR), P.W.cell? ⟨g, o + p * 5 + 2, none⟩ = some (.int .i64 z) := NxW.cell c3
        have k4 : ∀ (P : NxW WR), P.W.cell? ⟨g, o + p * 5 + 3, none⟩ = some (.int .i64 m) := NxW.cell c4
        have k5 : ∀ (P : NxW WR), P.W.cell? ⟨g, o + p * 5 + 4, none⟩ = some (.int .i64 v) := NxW.cell c5
        have r1 : ∀ (P : NxW WR), P.W.cell? ⟨w.heap.size, 0, none⟩ = some (.int .i64 a) := NxW.cell (hb0.out.cell 0 rfl)
        have r2 : ∀ (P : NxW WR), P.W.cell? ⟨w.heap.size, 1, none⟩ = some (.int .i64 b) := NxW.cell (hb0.out.cell 1 rfl)
        have r3 : ∀ (P : NxW WR), P.W.cell? ⟨w.heap.size, 2, none⟩ = some (.int .i64 d) := NxW.cell (hb0.out.cell 2 rfl)
        have HC := Lib.hid (fun p : NxW WR => Calls.nx_of p (othersCmp_is a b d x y z m v p.W ht0))
        clear c1 c2 c3 c4 c5 hm1
        go_upto_region 8 with fail
        refine wp_region_below mixed (by kernel_rfl) ?_
        repeat (go_big_quiet_step (first
          | (go_at_call 70; exact HC.out _)))
        refine wpQuiet_nil ?_
        intro _ hw'
        obtain ⟨⟨W2, hb2⟩, hw''⟩ := hw'
        subst hw''
        all_goals (
          have HB2 := Lib.hid (nx hB.out hb2)
          go_wp2
          exact bodyPost_ret (v := .tuple #[.int .i64 (p : Int), .bool f]) (by simp [results, Tryd.results69, go_sem]) rfl ⟨rfl, HB2.out⟩)
      · have hpni : ¬ (p : Int) < (n : Int) := by omega
        have hff : f = false := iffNo hf.out (fun h => by have := hn.out; omega)
        subst hff
        clear hm1
        go_upto_region 8 with fail
        refine wp_region_below mixed (by kernel_rfl) ?_
        repeat (go_big_quiet_step (fail))
        refine wpQuiet_nil ?_
        intro _ hw'
        obtain ⟨⟨W2, hb2⟩, hw''⟩ := hw'
        subst hw''
        all_goals (
          have HB2 := Lib.hid (nx hB.out hb2)
          go_wp2
          exact bodyPost_ret (v := .tuple #[.int .i64 (p : Int), .bool false]) (by simp [results, Tryd.results69, go_sem]) rfl ⟨rfl, HB2.out⟩)
end Go.Proofs.YthclgccgkdijbaaDoor
