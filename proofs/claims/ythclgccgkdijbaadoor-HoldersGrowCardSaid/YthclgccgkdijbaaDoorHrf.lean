/- Contracts of the reference: Amounts, Get, Procs, SameProcs, SameHolds, Set, Valid of grants. -/
import Derived.Test.YthclgccgkdijbaaDoorHvd
import Derived.Test.YthclgccgkdijbaaDoorHset
import Derived.Test.YthclgccgkdijbaaDoorArcomp
namespace Go.Proofs.YthclgccgkdijbaaDoor
open Go.RowKit
set_option linter.unusedVariables false
set_option linter.unusedSimpArgs false

set_option maxHeartbeats 2000000 in
set_option maxRecDepth 8000 in
theorem refAmounts_is (A : Option Addr) (n c : Nat) (l : List Hd) (w : World) (hl : HRd w A l) (hn : Hid (l.length = n)) (hm : Hid (n ≤ 1000)) {am : List P2} (ham : Hid (amtH l = am)) :
    Calls Tryd.prog 42 #[.slice A n c] w fun e w' => (∃ A' c', e = .returned (.slice A' n c') ∧ ARd w' A' am) ∧ Below w.heap.size w w' := by
  have HR := Lib.hid hl
  have hal : Hid (am.length = n) := Lib.hid (by rw [← ham.out, amtH, List.length_map]; exact hn.out)
  clear hl
  go_enter Tryd.func42, Tryd.ntmps42
  go_wp2
  go_loopw [3, 4] (fun V i wr => ∃ (j : Nat) (A2 : Option Addr) (c2 : Nat), j ≤ n ∧ i = .int .i64 j ∧ V = .slice A2 j c2 ∧ Hid (OwnA wr w.heap.size (.slice A2 j c2) (am.take j)) ∧ Hid (Below w.heap.size w wr)) (fun _ i _ => n - (intOf i).toNat)
  case atStart => exact ⟨0, none, 0, by omega, rfl, rfl, Lib.hid (by rw [List.take_zero]; exact World.ownsRow_nil w w.heap.size 30 2), Below.refl _ _⟩
  case round =>
    obtain ⟨j, A2, c2, hj, rfl, rfl, hO, hB⟩ := hrel
    by_cases hlt : (j : Int) < (n : Int)
    · obtain ⟨g, o, x, y, z, m, v, rfl, hg, hx, c1, c2', c3, c4, c5⟩ := (HR.out.below hB.out).at_ (i := j) (by have := hn.out; omega)
      have e5 : IntKind.i64.wrap ((j : Int) + 1) = (j : Int) + 1 := by have := hm.out; rw [IntKind.wrap_i64]; omega
      have h1 : Hid (([(m, v)] : List P2).length = 1) := Lib.hid rfl
      have h2 : Hid ((am.take j).length + 1 ≤ 1000000) := Lib.hid (by have := hm.out; have := hal.out; simp; omega)
      have hst : Hid (am.take j ++ [(m, v)] = am.take (j + 1)) := Lib.hid (by
        have h2 := amtH_at (l := l) (i := j) (by have := hn.out; omega)
        rw [ham.out, hx.out] at h2
        rw [take_snoc2 (by rw [hal.out]; omega), h2])
      go_wp2_with (at_builtin; (refine app_am rfl (.tmp 11) (.tmp 17) rfl w.heap.size _ (am.take j) (some ⟨wr.heap.size, 0, none⟩) [(m, v)] 1 1 h1 rfl rfl (hO.out.below (newB _ _)) (ard_one (by constructor <;> simp)) h2 (nxA hB.out _).size ?_); intro V2 W2 ho2 hb2; rw [hst.out] at ho2; obtain ⟨A3, c3', hv3, -, -, -⟩ := ho2.form; rw [show (am.take (j + 1)).length = j + 1 by rw [List.length_take, hal.out]; omega] at hv3; subst hv3; have HO2 := Lib.hid ho2; have HB2 := Lib.hid ((nxA hB.out _).trans hb2); clear ho2 hb2)
      go_roundw
      case rel => exact ⟨j + 1, A3, c3', by omega, by go_num, rfl, HO2, HB2⟩
      case measure => simp [intOf]; omega
    · have hjn : j = n := by omega
      subst hjn
      have HE : Hid (ARd wr A2 am) := Lib.hid (by
        have h1 := hO.out
        rw [List.take_of_length_le (by rw [hal.out]; omega)] at h1
        obtain ⟨A3, c3, hv, -, hr, -⟩ := h1.form
        injection hv with hv
        rw [hv]
        exact hr)
      go_wp2
      go_ret
      exact ⟨⟨A2, ⟨c2, rfl⟩, HE.out⟩, hB.out⟩
set_option maxHeartbeats 2000000 in
set_option maxRecDepth 8000 in
theorem refProcs_is (A : Option Addr) (n c : Nat) (l : List Hd) (w : World) (hl : HRd w A l) (hn : Hid (l.length = n)) (hm : Hid (n ≤ 1000)) {am : List P3} (ham : Hid (prsH l = am)) :
    Calls Tryd.prog 18 #[.slice A n c] w fun e w' => (∃ A' c', e = .returned (.slice A' n c') ∧ PRd w' A' am) ∧ Below w.heap.size w w' := by
  have HR := Lib.hid hl
  have hal : Hid (am.length = n) := Lib.hid (by rw [← ham.out, prsH, List.length_map]; exact hn.out)
  clear hl
  go_enter Tryd.func18, Tryd.ntmps18
  go_wp2
  go_loopw [3, 4] (fun V i wr => ∃ (j : Nat) (A2 : Option Addr) (c2 : Nat), j ≤ n ∧ i = .int .i64 j ∧ V = .slice A2 j c2 ∧ Hid (OwnPr wr w.heap.size (.slice A2 j c2) (am.take j)) ∧ Hid (Below w.heap.size w wr)) (fun _ i _ => n - (intOf i).toNat)
  case atStart => exact ⟨0, none, 0, by omega, rfl, rfl, Lib.hid (by rw [List.take_zero]; exact OwnPr.nil w w.heap.size), Below.refl _ _⟩
  case round =>
    obtain ⟨j, A2, c2, hj, rfl, rfl, hO, hB⟩ := hrel
    by_cases hlt : (j : Int) < (n : Int)
    · obtain ⟨g, o, x, y, z, m, v, rfl, hg, hx, c1, c2', c3, c4, c5⟩ := (HR.out.below hB.out).at_ (i := j) (by have := hn.out; omega)
      have e5 : IntKind.i64.wrap ((j : Int) + 1) = (j : Int) + 1 := by have := hm.out; rw [IntKind.wrap_i64]; omega
      have h1 : Hid (([(x, y, z)] : List P3).length = 1) := Lib.hid rfl
      have h2 : Hid ((am.take j).length + 1 ≤ 1000000) := Lib.hid (by have := hm.out; have := hal.out; simp; omega)
      have hst : Hid (am.take j ++ [(x, y, z)] = am.take (j + 1)) := Lib.hid (by
        have h2 := prsH_at (l := l) (i := j) (by have := hn.out; omega)
        rw [ham.out, hx.out] at h2
        have hj2 : j < am.length := by rw [hal.out]; omega
        rw [List.take_succ_eq_append_getElem hj2]
        rw [List.getD_eq_getElem?_getD, List.getElem?_eq_getElem hj2] at h2
        rw [show am[j] = (x, y, z) from h2])
      go_wp2_with (at_builtin; (refine app_pr rfl (.tmp 11) (.tmp 17) rfl w.heap.size _ (am.take j) (some ⟨wr.heap.size, 0, none⟩) [(x, y, z)] 1 1 h1 rfl rfl (hO.out.below (newB _ _)) (prd_one (by refine ⟨?_, ?_, ?_⟩ <;> simp)) h2 (nxA hB.out _).size ?_); intro V2 W2 ho2 hb2; rw [hst.out] at ho2; obtain ⟨A3, c3', hv3, -, -, -⟩ := ho2.form; rw [show (am.take (j + 1)).length = j + 1 by rw [List.length_take, hal.out]; omega] at hv3; subst hv3; have HO2 := Lib.hid ho2; have HB2 := Lib.hid ((nxA hB.out _).trans hb2); clear ho2 hb2)
      go_roundw
      case rel => exact ⟨j + 1, A3, c3', by omega, by go_num, rfl, HO2, HB2⟩
      case measure => simp [intOf]; omega
    · have hjn : j = n := by omega
      subst hjn
      have HE : Hid (PRd wr A2 am) := Lib.hid (by
        have h1 := hO.out
        rw [List.take_of_length_le (by rw [hal.out]; omega)] at h1
        obtain ⟨A3, c3, hv, -, hr, -⟩ := h1.form
        injection hv with hv
        rw [hv]
        exact hr)
      go_wp2
      go_ret
      exact ⟨⟨A2, ⟨c2, rfl⟩, HE.out⟩, hB.out⟩
set_option maxHeartbeats 2000000 in
set_option maxRecDepth 8000 in
theorem refGet_is (A : Option Addr) (n c : Nat) (l : List Hd) (a b d : Int) (w : World) (hl : HRd w A l) (hn : Hid (l.length = n)) (hm : Hid (n ≤ 1000)) {s t : Int} (hr : Hid (getH l (a, b, d) = (s, t))) :
    Calls Tryd.prog 15 #[.slice A n c, .agg #[.int .i64 a, .int .i64 b, .int .i64 d]] w fun e w' => e = .returned (aa s t) ∧ Below w.heap.size w w' := by
  have HR := Lib.hid hl
  have HK0 := Lib.hid (Blk.new w [.int .i64 a, .int .i64 b, .int .i64 d] 26 rfl)
  have HK1 := Lib.hid (Blk.new (w.alloc (.cells #[.int .i64 a, .int .i64 b, .int .i64 d] 26)) [.int .i64 0, .int .i64 0] 30 (g := w.heap.size + 1) (by simp))
  have HK2 := Lib.hid (HK0.out.grow (.cells #[.int .i64 0, .int .i64 0] 30))
  clear hl
  go_enter Tryd.func15, Tryd.ntmps15
  go_wp2
  go_loopw [5] (fun i wr => ∃ (k : Nat), k ≤ n ∧ i = .int .i64 k ∧ Hid (Blk wr w.heap.size [.int .i64 a, .int .i64 b, .int .i64 d]) ∧ Hid (Blk wr (w.heap.size + 1) [.int .i64 0, .int .i64 0]) ∧ Hid (Below w.heap.size w wr) ∧ Hid (∀ j, j < k → ¬ (l.getD j default).1 = (a, b, d))) (fun i _ => n - (intOf i).toNat)
  case atStart => exact ⟨0, by omega, rfl, HK2, HK1, nxA (newB _ _) _, fun j hj => by omega⟩
  case round =>
    obtain ⟨k, hk, rfl, hb0, hb1, hB, hno⟩ := hrel
    have i0 := hb0.out.cell 0 rfl
    have i1 := hb0.out.cell 1 rfl
    have i2 := hb0.out.cell 2 rfl
    have q0 := hb1.out.cell 0 rfl
    have q1 := hb1.out.cell 1 rfl
    have qf := hb1.out.fz
    have hl0 := hb0.out.lt
    have hl1 := hb1.out.lt
    by_cases hlt : (k : Int) < (n : Int)
    · obtain ⟨g, o, x, y, z, m, v, rfl, hg, hx, c1, c2, c3, c4, c5⟩ := (HR.out.below hB.out).at_ (i := k) (by have := hn.out; omega)
      have e5 : IntKind.i64.wrap ((k : Int) + 1) = (k : Int) + 1 := by have := hm.out; rw [IntKind.wrap_i64]; omega
      by_cases he : x = a ∧ y = b ∧ z = d
      · obtain ⟨rfl, rfl, rfl⟩ := he
        have hst : Hid (m = s ∧ v = t) := Lib.hid (by
          have h1 := getH_front (l := l) (p := (x, y, z)) (k := k) (by have := hn.out; omega) hno.out (by rw [hx.out])
          rw [hr.out, hx.out] at h1
          exact ⟨(congrArg Prod.fst h1).symm, (congrArg Prod.snd h1).symm⟩)
        obtain ⟨rfl, rfl⟩ := hst.out
        have he1 := fun W => eqPr x y z x y z W
        go_wp2
        go_quiet (fail)
        go_wp2
        refine bodyPost_ret (v := aa m v) (by simp [results, Tryd.results15, go_sem, q0, q1, qf, hl0, hl1]) rfl ⟨rfl, ?_⟩
        exact ((bdN hB.out _).setCell (p := ⟨w.heap.size + 1, 0, none⟩) (by simp) _).setCell (p := ⟨w.heap.size + 1, 1, none⟩) (by simp) _
      · have hno2 : Hid (∀ j, j < k + 1 → ¬ (l.getD j default).1 = (a, b, d)) := fun j hj e => by
          by_cases hjk : j = k
          · subst hjk
            rw [hx.out] at e
            exact he (by simpa using e)
          · exact hno.out j (by omega) e
        have hne := eqPr_no he
        clear he
        go_wp2
        go_quiet (fail)
        go_wp2
        go_roundw
        case rel => exact ⟨k + 1, by omega, by go_num, hb0.out.up (bdN (Below.refl _ _) _) hb0.out.lt, hb1.out.up (bdN (Below.refl _ _) _) hb1.out.lt, bdN hB.out _, hno2⟩
        case measure => simp [intOf]; omega
    · have hst : Hid (s = 0 ∧ t = 0) := Lib.hid (by
        have h1 := getH_out (l := l) (p := (a, b, d)) (fun j hj => hno.out j (by have := hn.out; omega))
        rw [hr.out] at h1
        exact ⟨congrArg Prod.fst h1, congrArg Prod.snd h1⟩)
      obtain ⟨rfl, rfl⟩ := hst.out
      go_wp2
      refine bodyPost_ret (v := aa 0 0) (by simp [results, Tryd.results15, go_sem, q0, q1, qf, hl0, hl1]) rfl ⟨rfl, ?_⟩
      exact (hB.out.setCell (p := ⟨w.heap.size + 1, 0, none⟩) (by simp) _).setCell (p := ⟨w.heap.size + 1, 1, none⟩) (by simp) _
/-! ### Two lists are the same -/
theorem neqPr (x y z a b c : Int) (w : World) : (binOp .neq 26 (.agg #[.int .i64 x, .int .i64 y, .int .i64 z]) (.agg #[.int .i64 a, .int .i64 b, .int .i64 c])).run Tryd.prog w = .ok (.bool (!decide (x = a ∧ y = b ∧ z = c))) w := by
  have h := eqPr x y z a b c w
  simp only [binOp, Sem.run_bind] at h ⊢
  generalize (Op.equal 26 (.agg #[.int .i64 x, .int .i64 y, .int .i64 z]) (.agg #[.int .i64 a, .int .i64 b, .int .i64 c])).run Tryd.prog w = r at h ⊢
  cases r with
  | ok v w1 =>
    simp only [Result.andThen_ok, Sem.run_pure, Result.ok.injEq, Value.bool.injEq] at h ⊢
    exact ⟨by rw [h.1], h.2⟩
  | halt h1 w1 => simp [Result.andThen] at h
end Go.Proofs.YthclgccgkdijbaaDoor
