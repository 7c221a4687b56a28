/- Contracts of Proc, by the program and by the reference: a process read at the beginning of a slice of bytes. -/
import Derived.Test.YtchffamnamhcdaaDoorIb
import Derived.Test.YtchffamnamhcdaaDoorUint
namespace Go.Proofs.YtchffamnamhcdaaDoor
set_option linter.unusedVariables false
open Go.RowKit

/-- A number read at the beginning of bytes: it is there, or the bytes end too early, or are malformed. -/
theorem uintS_three {xs : List Int} (hb : Byt xs) : (∃ (v : Int) (n : Nat), uintS xs = (v, (n : Int), 0) ∧ 0 ≤ v ∧ v < 18446744073709551616 ∧ 0 < n ∧ n ≤ xs.length ∧ n ≤ 10) ∨ uintS xs = (0, 0, 5) ∨ uintS xs = (0, 0, 6) := by
  rcases uintS_err xs with h | h
  · obtain ⟨v, n, e, hu⟩ : ∃ v n e, uintS xs = (v, n, e) := ⟨_, _, _, rfl⟩
    rw [hu] at h
    obtain rfl : e = 0 := h
    obtain ⟨h1, h2, h3, h4, h5, _⟩ := uintS_short hb hu
    obtain ⟨m, rfl⟩ := Int.eq_ofNat_of_zero_le (show 0 ≤ n by omega)
    exact .inl ⟨v, m, hu, h1, h2, by omega, by omega, by omega⟩
  · exact .inr h
theorem uint_rest (B : Option Addr) (m c : Nat) (ys : List Int) (w : World) (h : Rd w B ys) (hb : Byt ys) (hm : Hid (ys.length = m)) (hl : m ≤ maxLen) {v n e : Int} (hu : Hid (uintS ys = (v, n, e))) :
    Calls Tryd.prog 57 #[.slice B m c] w fun f w' => f = .returned (.tuple #[.int .u64 v, .int .i64 n, .int .i64 e]) ∧ w = w' := by
  have hm' := hm.out
  subst hm'
  exact (uint_any B c ys w h hb hl).mono fun _ _ k => ⟨by rw [k.1, uintV, hu.out], k.2⟩
theorem refUint_rest (B : Option Addr) (m c : Nat) (ys : List Int) (w : World) (h : Rd w B ys) (hb : Byt ys) (hm : Hid (ys.length = m)) (hl : m ≤ maxLen) {v n e : Int} (hu : Hid (uintS ys = (v, n, e))) :
    Calls Tryd.prog 58 #[.slice B m c] w fun f w' => f = .returned (.tuple #[.int .u64 v, .int .i64 n, .int .i64 e]) ∧ w = w' := by
  have hm' := hm.out
  subst hm'
  exact (refUint_any B c ys w h hb hl).mono fun _ _ k => ⟨by rw [k.1, uintV, hu.out], k.2⟩

/-- What reading a process gives: its numbers, the number of bytes, an error. -/
def readP (xs : List Int) : Int × Int × Int × Int × Int :=
  if (uintS xs).2.2 ≠ 0 then (0, 0, 0, 0, (uintS xs).2.2) else
  if (uintS (xs.drop (uintS xs).2.1.toNat)).2.2 ≠ 0 then (0, 0, 0, 0, (uintS (xs.drop (uintS xs).2.1.toNat)).2.2) else
  if (uintS (xs.drop ((uintS xs).2.1.toNat + (uintS (xs.drop (uintS xs).2.1.toNat)).2.1.toNat))).2.2 ≠ 0 then (0, 0, 0, 0, (uintS (xs.drop ((uintS xs).2.1.toNat + (uintS (xs.drop (uintS xs).2.1.toNat)).2.1.toNat))).2.2) else
  if vpB (uintS xs).1 (uintS (xs.drop (uintS xs).2.1.toNat)).1 (uintS (xs.drop ((uintS xs).2.1.toNat + (uintS (xs.drop (uintS xs).2.1.toNat)).2.1.toNat))).1 = true then
    ((uintS xs).1, (uintS (xs.drop (uintS xs).2.1.toNat)).1, (uintS (xs.drop ((uintS xs).2.1.toNat + (uintS (xs.drop (uintS xs).2.1.toNat)).2.1.toNat))).1, (uintS xs).2.1 + (uintS (xs.drop (uintS xs).2.1.toNat)).2.1 + (uintS (xs.drop ((uintS xs).2.1.toNat + (uintS (xs.drop (uintS xs).2.1.toNat)).2.1.toNat))).2.1, 0)
  else (0, 0, 0, 0, 2)
/-- k numbers have been read, up to place p. -/
def St (xs : List Int) (k p : Nat) (u v t : Int) : Prop :=
  (k = 0 ∧ p = 0) ∨ (∃ n1 : Nat, k = 1 ∧ uintS xs = (u, (n1 : Int), 0) ∧ p = n1) ∨
  (∃ n1 n2 : Nat, k = 2 ∧ uintS xs = (u, (n1 : Int), 0) ∧ uintS (xs.drop n1) = (v, (n2 : Int), 0) ∧ p = n1 + n2) ∨
  (∃ n1 n2 n3 : Nat, k = 3 ∧ uintS xs = (u, (n1 : Int), 0) ∧ uintS (xs.drop n1) = (v, (n2 : Int), 0) ∧ uintS (xs.drop (n1 + n2)) = (t, (n3 : Int), 0) ∧ p = n1 + n2 + n3)
theorem St.err {xs : List Int} {k p : Nat} {u v t a b e : Int} (h : St xs k p u v t) (hk : k < 3) (hu : uintS (xs.drop p) = (a, b, e)) (he : e ≠ 0) : readP xs = (0, 0, 0, 0, e) := by
  rcases h with ⟨rfl, rfl⟩ | ⟨n1, rfl, h1, rfl⟩ | ⟨n1, n2, rfl, h1, h2, rfl⟩ | ⟨n1, n2, n3, rfl, _⟩
  · rw [List.drop_zero] at hu
    simp [readP, hu, he]
  · simp [readP, h1, hu, he]
  · simp [readP, h1, h2, hu, he]
  · omega
theorem St.next {xs : List Int} {k p n : Nat} {u v t a : Int} (h : St xs k p u v t) (hk : k < 3) (hu : uintS (xs.drop p) = (a, (n : Int), 0)) : St xs (k + 1) (p + n) (if k = 0 then a else u) (if k = 1 then a else v) (if k = 2 then a else t) := by
  rcases h with ⟨rfl, rfl⟩ | ⟨n1, rfl, h1, rfl⟩ | ⟨n1, n2, rfl, h1, h2, rfl⟩ | ⟨n1, n2, n3, rfl, _⟩
  · rw [List.drop_zero] at hu
    exact .inr (.inl ⟨n, rfl, hu, by omega⟩)
  · exact .inr (.inr (.inl ⟨p, n, rfl, h1, hu, rfl⟩))
  · exact .inr (.inr (.inr ⟨n1, n2, n, rfl, h1, h2, hu, rfl⟩))
  · omega
theorem St.done {xs : List Int} {p : Nat} {u v t : Int} (h : St xs 3 p u v t) : readP xs = if vpB u v t = true then (u, v, t, (p : Int), 0) else (0, 0, 0, 0, 2) := by
  rcases h with ⟨h, _⟩ | ⟨_, h, _⟩ | ⟨_, _, h, _⟩ | ⟨n1, n2, n3, _, h1, h2, h3, rfl⟩
  · omega
  · omega
  · omega
  · simp [readP, h1, h2, h3]
theorem vpB_min (u v t : Int) : vpB (min u 9223372036854775807) (min v 9223372036854775807) (min t 9223372036854775807) = vpB u v t := by
  unfold vpB
  apply decide_eq_decide.2
  omega
/-- The end of Proc. -/
def ProcV (r : Int × Int × Int × Int × Int) : Value := .tuple #[.agg #[.int .i64 r.1, .int .i64 r.2.1, .int .i64 r.2.2.1], .int .i64 r.2.2.2.1, .int .i64 r.2.2.2.2]
def Procs (xs : List Int) (w : World) (e : Ending) (w' : World) : Prop := e = .returned (ProcV (readP xs)) ∧ Below w.heap.size w w'
theorem procs_err {xs : List Int} {w w' : World} {e : Int} (h : Hid (readP xs = (0, 0, 0, 0, e))) (hb : Below w.heap.size w w') : Procs xs w (.returned (.tuple #[.agg #[.int .i64 0, .int .i64 0, .int .i64 0], .int .i64 0, .int .i64 e])) w' := ⟨by rw [h.out]; rfl, hb⟩

set_option maxHeartbeats 2000000 in
theorem proc_any (A : Option Addr) (c : Nat) (xs : List Int) (w : World) (h : Rd w A xs) (hb : Byt xs) (hm : xs.length ≤ maxLen) (hc : xs.length ≤ c) :
    Calls Tryd.prog 33 #[.slice A xs.length c] w (Procs xs w) := by
  have hml := hm
  unfold maxLen at hm
  go_enter Tryd.func33, Tryd.ntmps33
  go_wp2
  go_loopw [6, 12] (fun t i wr => ∃ (k p : Nat) (u v t' : Int), k ≤ 3 ∧ p ≤ xs.length ∧ i = .int .i64 k ∧ t = .int .i64 p ∧ 0 ≤ u ∧ 0 ≤ v ∧ 0 ≤ t' ∧ Hid (St xs k p u v t') ∧
    wr = (w.alloc (.cells #[.int .i64 0, .int .i64 0, .int .i64 0] 23)).alloc (.cells #[.int .i64 (min u 9223372036854775807), .int .i64 (min v 9223372036854775807), .int .i64 (min t' 9223372036854775807)] 56)) (fun _ i _ => 3 - (intOf i).toNat)
  case atStart => exact ⟨0, 0, 0, 0, 0, by omega, by omega, rfl, rfl, by omega, by omega, by omega, .inl ⟨rfl, rfl⟩, rfl⟩
  case round =>
    obtain ⟨k, p, u, v, t', hk, hp, rfl, rfl, hu0, hv0, ht0, hst, rfl⟩ := hrel
    have hbw : Below w.heap.size w ((w.alloc (.cells #[.int .i64 0, .int .i64 0, .int .i64 0] 23)).alloc (.cells #[.int .i64 (min u 9223372036854775807), .int .i64 (min v 9223372036854775807), .int .i64 (min t' 9223372036854775807)] 56)) := nxA (newB _ _) _
    have HR := Lib.hid ((h.below hbw).drop p)
    have HY := Lib.hid (hb.drop p)
    have HD : Hid (c = p → xs.drop p = []) := fun e => List.drop_eq_nil_of_le (by omega)
    have HL : Hid ((xs.drop p).length = xs.length - p) := List.length_drop
    have hlm : xs.length - p ≤ maxLen := by omega
    by_cases h3 : k = 3
    · subst h3
      clear HR HY HD HL hlm
      have hdone := hst.out.done
      obtain ⟨r, hr⟩ : ∃ r, Hid (vpB (min u 9223372036854775807) (min v 9223372036854775807) (min t' 9223372036854775807) = r) := ⟨_, rfl⟩
      have hr' := hr.out
      rw [vpB_min] at hr'
      cases r
      · rw [hr', if_neg (by simp)] at hdone
        have HDN := Lib.hid hdone
        clear hdone hr'
        go_wp2_with (first
          | (go_at_call 46; refine (from_is _ _ _ _).mono ?_; rintro e W1 ⟨rfl, hb1⟩; have hW1 := nx hbw hb1; have x1 := Lib.hid ((R3.up (R3.new w _ _ _ _) _).below hb1); obtain ⟨⟨i0, i1, i2, i3⟩, i4⟩ := x1.out)
          | (go_at_call 15; refine (valid_b _ _ _ _ hr).mono ?_; rintro e W2 ⟨rfl, hb2⟩; have hW2 := nx (nxA hW1 _) hb2; have x2 := Lib.hid ((x1.out.up _).below hb2); have y2 := Lib.hid ((B3.new W1 _ _ _ _).below hb2); clear i0 i1 i2 i3 i4; obtain ⟨⟨i0, i1, i2, i3⟩, i4⟩ := x2.out; obtain ⟨j0, j1, j2, j3⟩ := y2.out))
        exact bodyPost_ret (v := .tuple #[.agg #[.int .i64 0, .int .i64 0, .int .i64 0], .int .i64 0, .int .i64 2]) (by simp [results, Tryd.results33, go_sem, i1, i2, i3]) rfl (procs_err HDN (((hW2.setCell (Nat.le_refl _) _).setCell (Nat.le_refl _) _).setCell (Nat.le_refl _) _))
      · rw [hr', if_pos rfl] at hdone
        have hv := vpB_true hr'
        have e1 := Lib.hid (show min u 9223372036854775807 = u by omega)
        have e2 := Lib.hid (show min v 9223372036854775807 = v by omega)
        have e3 := Lib.hid (show min t' 9223372036854775807 = t' by omega)
        have HDN := Lib.hid hdone
        clear hdone hr' hv
        go_wp2_with (first
          | (go_at_call 46; refine (from_is _ _ _ _).mono ?_; rintro e W1 ⟨rfl, hb1⟩; have hW1 := nx hbw hb1; have x1 := Lib.hid ((R3.up (R3.new w _ _ _ _) _).below hb1); obtain ⟨⟨i0, i1, i2, i3⟩, i4⟩ := x1.out)
          | (go_at_call 15; refine (valid_b _ _ _ _ hr).mono ?_; rintro e W2 ⟨rfl, hb2⟩; have hW2 := nx (nxA hW1 _) hb2; have x2 := Lib.hid ((x1.out.up _).below hb2); have y2 := Lib.hid ((B3.new W1 _ _ _ _).below hb2); clear i0 i1 i2 i3 i4; obtain ⟨⟨i0, i1, i2, i3⟩, i4⟩ := x2.out; obtain ⟨j0, j1, j2, j3⟩ := y2.out))
        refine bodyPost_ret (v := .tuple #[.agg #[.int .i64 (min u 9223372036854775807), .int .i64 (min v 9223372036854775807), .int .i64 (min t' 9223372036854775807)], .int .i64 p, .int .i64 0]) (by simp [results, Tryd.results33, go_sem, i1, i2, i3]) rfl ⟨?_, ((hW2.setCell (Nat.le_refl _) _).setCell (Nat.le_refl _) _).setCell (Nat.le_refl _) _⟩
        rw [HDN.out, e1.out, e2.out, e3.out]
        rfl
    · have hk1 : (k : Int) < 3 := by omega
      rcases uintS_three (hb.drop p) with ⟨a, n, hu, ha0, ha1, hn0, hn1, hn2⟩ | hu | hu
      · rw [List.length_drop] at hn1
        have hu' := Lib.hid hu
        have hnx := Lib.hid (hst.out.next (by omega) hu)
        have g0 : 0 ≤ min a 9223372036854775807 := by omega
        have g1 : min a 9223372036854775807 ≤ 9223372036854775807 := by omega
        have g2 : (p : Int) + (n : Int) ≤ 9223372036854775807 := by omega
        clear hu
        have hkc : k = 0 ∨ k = 1 ∨ k = 2 := by omega
        clear hk1 h3 hk
        rcases hkc with rfl | rfl | rfl
        · go_wp2_with (go_at_call 57; refine (uint_rest _ _ _ (xs.drop p) _ (by first | exact HR.out | (rw [HD.out (by assumption)]; exact Rd.nil _ _)) HY.out HL hlm hu').mono ?_; rintro e W1 ⟨rfl, rfl⟩)
          all_goals
            go_roundw
            case rel => exact ⟨1, p + n, a, v, t', by omega, by omega, by go_num, by go_num, by assumption, by assumption, by assumption, hnx.out, rfl⟩
            case measure => simp [intOf]
        · go_wp2_with (go_at_call 57; refine (uint_rest _ _ _ (xs.drop p) _ (by first | exact HR.out | (rw [HD.out (by assumption)]; exact Rd.nil _ _)) HY.out HL hlm hu').mono ?_; rintro e W1 ⟨rfl, rfl⟩)
          all_goals
            go_roundw
            case rel => exact ⟨2, p + n, u, a, t', by omega, by omega, by go_num, by go_num, by assumption, by assumption, by assumption, hnx.out, rfl⟩
            case measure => simp [intOf]
        · go_wp2_with (go_at_call 57; refine (uint_rest _ _ _ (xs.drop p) _ (by first | exact HR.out | (rw [HD.out (by assumption)]; exact Rd.nil _ _)) HY.out HL hlm hu').mono ?_; rintro e W1 ⟨rfl, rfl⟩)
          all_goals
            go_roundw
            case rel => exact ⟨3, p + n, u, v, a, by omega, by omega, by go_num, by go_num, by assumption, by assumption, by assumption, hnx.out, rfl⟩
            case measure => simp [intOf]
      all_goals
        have hu' := Lib.hid hu
        have hread := Lib.hid (hst.out.err (by omega) hu (by decide))
        clear hu
        go_wp2_with (go_at_call 57; refine (uint_rest _ _ _ (xs.drop p) _ (by first | exact HR.out | (rw [HD.out (by assumption)]; exact Rd.nil _ _)) HY.out HL hlm hu').mono ?_; rintro e W1 ⟨rfl, rfl⟩)
        all_goals exact bodyPost_ret (v := .tuple #[.agg #[.int .i64 0, .int .i64 0, .int .i64 0], .int .i64 0, .int .i64 _]) (by simp [results, Tryd.results33, go_sem]) rfl (procs_err hread hbw)
end Go.Proofs.YtchffamnamhcdaaDoor
