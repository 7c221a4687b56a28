/- Contract of the reference's Proc. -/
import Derived.Test.YtchffamnamhcdaaDoorIread
namespace Go.Proofs.YtchffamnamhcdaaDoor
set_option linter.unusedVariables false
open Go.RowKit

set_option maxHeartbeats 2000000 in
theorem refProc_any (A : Option Addr) (c : Nat) (xs : List Int) (w : World) (h : Rd w A xs) (hb : Byt xs) (hm : xs.length ≤ maxLen) (hc : xs.length ≤ c) :
    Calls Tryd.prog 34 #[.slice A xs.length c] w (Procs xs w) := by
  have hml := hm
  unfold maxLen at hm
  go_enter Tryd.func34, Tryd.ntmps34
  go_wp2
  go_loopw [6, 7] (fun t i wr => ∃ (k p : Nat) (u v t' : Int), k ≤ 3 ∧ p ≤ xs.length ∧ i = .int .i64 k ∧ t = .int .i64 p ∧ 0 ≤ u ∧ 0 ≤ v ∧ 0 ≤ t' ∧ Hid (St xs k p u v t') ∧
    wr = ((w.alloc (.cells #[.int .i64 0, .int .i64 0, .int .i64 0] 23)).alloc (.cells #[.int .u64 u, .int .u64 v, .int .u64 t'] 76))) (fun _ i _ => 3 - (intOf i).toNat)
  case atStart => exact ⟨0, 0, 0, 0, 0, by omega, by omega, rfl, rfl, by omega, by omega, by omega, .inl ⟨rfl, rfl⟩, rfl⟩
  case round =>
    obtain ⟨k, p, u, v, t', hk, hp, rfl, rfl, hu0, hv0, ht0, hst, rfl⟩ := hrel
    have hbw : Below w.heap.size w ((w.alloc (.cells #[.int .i64 0, .int .i64 0, .int .i64 0] 23)).alloc (.cells #[.int .u64 u, .int .u64 v, .int .u64 t'] 76)) := nxA (newB _ _) _
    have HR := Lib.hid ((h.below hbw).drop p)
    have HY := Lib.hid (hb.drop p)
    have HD : Hid (c = p → xs.drop p = []) := fun e => List.drop_eq_nil_of_le (by omega)
    have HL : Hid ((xs.drop p).length = xs.length - p) := List.length_drop
    have hlm : xs.length - p ≤ maxLen := by omega
    by_cases h3 : k = 3
    · subst h3
      clear HR HY HD HL hlm
      have hdone := hst.out.done
      by_cases hbig : 1073741824 < u ∨ 1073741824 < v ∨ 1073741824 < t'
      · rw [vpB_false (by omega), if_neg (by simp)] at hdone
        have HDN := Lib.hid hdone
        clear hdone
        by_cases g1 : 1073741824 < u
        · clear hbig
          go_wp2
          exact bodyPost_ret (v := .tuple #[.agg #[.int .i64 0, .int .i64 0, .int .i64 0], .int .i64 0, .int .i64 2]) (by simp [results, Tryd.results34, go_sem]) rfl (procs_err HDN hbw)
        · by_cases g2 : 1073741824 < v
          · clear hbig
            go_wp2
            exact bodyPost_ret (v := .tuple #[.agg #[.int .i64 0, .int .i64 0, .int .i64 0], .int .i64 0, .int .i64 2]) (by simp [results, Tryd.results34, go_sem]) rfl (procs_err HDN hbw)
          · have g3 : 1073741824 < t' := by omega
            clear hbig
            go_wp2
            exact bodyPost_ret (v := .tuple #[.agg #[.int .i64 0, .int .i64 0, .int .i64 0], .int .i64 0, .int .i64 2]) (by simp [results, Tryd.results34, go_sem]) rfl (procs_err HDN hbw)
      · have l1 : u ≤ 1073741824 := by omega
        have l2 : v ≤ 1073741824 := by omega
        have l3 : t' ≤ 1073741824 := by omega
        clear hbig
        obtain ⟨r, hr⟩ : ∃ r, Hid (vpB u v t' = r) := ⟨_, rfl⟩
        cases r
        · rw [hr.out, if_neg (by simp)] at hdone
          have HDN := Lib.hid hdone
          clear hdone
          go_wp2_with (go_at_call 16; refine (refValid_b _ _ _ _ hr).mono ?_; rintro e W2 ⟨rfl, hb2⟩; have hW2 := nx (nxA hbw _) hb2; have x2 := Lib.hid ((R3.up (R3.up (R3.new w _ _ _ _) _) _).below hb2); obtain ⟨⟨i0, i1, i2, i3⟩, i4⟩ := x2.out)
          exact bodyPost_ret (v := .tuple #[.agg #[.int .i64 0, .int .i64 0, .int .i64 0], .int .i64 0, .int .i64 2]) (by simp [results, Tryd.results34, go_sem, i1, i2, i3]) rfl (procs_err HDN (((hW2.setCell (Nat.le_refl _) _).setCell (Nat.le_refl _) _).setCell (Nat.le_refl _) _))
        · rw [hr.out, if_pos rfl] at hdone
          have HDN := Lib.hid hdone
          clear hdone
          go_wp2_with (go_at_call 16; refine (refValid_b _ _ _ _ hr).mono ?_; rintro e W2 ⟨rfl, hb2⟩; have hW2 := nx (nxA hbw _) hb2; have x2 := Lib.hid ((R3.up (R3.up (R3.new w _ _ _ _) _) _).below hb2); have y2 := Lib.hid ((B3.at_ _ _ _ _ _ (by simp)).below hb2 (k := w.heap.size + 1 + 1)); obtain ⟨⟨i0, i1, i2, i3⟩, i4⟩ := x2.out; obtain ⟨j0, j1, j2, j3⟩ := y2.out)
          refine bodyPost_ret (v := .tuple #[.agg #[.int .i64 u, .int .i64 v, .int .i64 t'], .int .i64 p, .int .i64 0]) (by simp [results, Tryd.results34, go_sem, i1, i2, i3]) rfl ⟨?_, ((hW2.setCell (Nat.le_refl _) _).setCell (Nat.le_refl _) _).setCell (Nat.le_refl _) _⟩
          rw [HDN.out]
          rfl
    · have hk1 : (k : Int) < 3 := by omega
      rcases uintS_three (hb.drop p) with ⟨a, n, hu, ha0, ha1, hn0, hn1, hn2⟩ | hu | hu
      · rw [List.length_drop] at hn1
        have hu' := Lib.hid hu
        have hnx := Lib.hid (hst.out.next (by omega) hu)
        have g2 : (p : Int) + (n : Int) ≤ 9223372036854775807 := by omega
        clear hu ha1
        have hkc : k = 0 ∨ k = 1 ∨ k = 2 := by omega
        clear hk1 h3 hk
        rcases hkc with rfl | rfl | rfl
        · go_wp2_with (go_at_call 58; refine (refUint_rest _ _ _ (xs.drop p) _ (by first | exact HR.out | (rw [HD.out (by assumption)]; exact Rd.nil _ _)) HY.out HL hlm hu').mono ?_; rintro e W1 ⟨rfl, rfl⟩)
          all_goals
            go_roundw
            case rel => exact ⟨1, p + n, a, v, t', by omega, by omega, by go_num, by go_num, by assumption, by assumption, by assumption, hnx.out, rfl⟩
            case measure => simp [intOf]
        · go_wp2_with (go_at_call 58; refine (refUint_rest _ _ _ (xs.drop p) _ (by first | exact HR.out | (rw [HD.out (by assumption)]; exact Rd.nil _ _)) HY.out HL hlm hu').mono ?_; rintro e W1 ⟨rfl, rfl⟩)
          all_goals
            go_roundw
            case rel => exact ⟨2, p + n, u, a, t', by omega, by omega, by go_num, by go_num, by assumption, by assumption, by assumption, hnx.out, rfl⟩
            case measure => simp [intOf]
        · go_wp2_with (go_at_call 58; refine (refUint_rest _ _ _ (xs.drop p) _ (by first | exact HR.out | (rw [HD.out (by assumption)]; exact Rd.nil _ _)) HY.out HL hlm hu').mono ?_; rintro e W1 ⟨rfl, rfl⟩)
          all_goals
            go_roundw
            case rel => exact ⟨3, p + n, u, v, a, by omega, by omega, by go_num, by go_num, by assumption, by assumption, by assumption, hnx.out, rfl⟩
            case measure => simp [intOf]
      all_goals
        have hu' := Lib.hid hu
        have hread := Lib.hid (hst.out.err (by omega) hu (by decide))
        clear hu
        go_wp2_with (go_at_call 58; refine (refUint_rest _ _ _ (xs.drop p) _ (by first | exact HR.out | (rw [HD.out (by assumption)]; exact Rd.nil _ _)) HY.out HL hlm hu').mono ?_; rintro e W1 ⟨rfl, rfl⟩)
        all_goals exact bodyPost_ret (v := .tuple #[.agg #[.int .i64 0, .int .i64 0, .int .i64 0], .int .i64 0, .int .i64 _]) (by simp [results, Tryd.results34, go_sem]) rfl (procs_err hread hbw)
end Go.Proofs.YtchffamnamhcdaaDoor
