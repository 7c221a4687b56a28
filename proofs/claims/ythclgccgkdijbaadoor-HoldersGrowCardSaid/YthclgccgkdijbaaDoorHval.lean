/- Contracts of the program: amounts, Procs, Get, Valid of grants. -/
import Derived.Test.YthclgccgkdijbaaDoorHpr
import Derived.Test.YthclgccgkdijbaaDoorAcomp
namespace Go.Proofs.YthclgccgkdijbaaDoor
open Go.RowKit
set_option linter.unusedVariables false
set_option linter.unusedSimpArgs false

def prsH (l : List Hd) : List Pr3 := l.map fun h => h.1
theorem amtH_at {l : List Hd} {i : Nat} (hi : i < l.length) : (amtH l).getD i default = (l.getD i default).2 := by
  simp [amtH, List.getD_eq_getElem?_getD, List.getElem?_eq_getElem hi]
theorem prsH_at {l : List Hd} {i : Nat} (hi : i < l.length) : (prsH l).getD i default = (l.getD i default).1 := by
  simp [prsH, List.getD_eq_getElem?_getD, List.getElem?_eq_getElem hi]
theorem own_cells {w : World} {base g n cap size : Nat} {e : TypeId} {xs : List Value} (h : w.ownsRow base e size (.slice (some ⟨g, 0, none⟩) n cap) n xs) {j : Nat} (hj : j < n * size) : (w.cell? ⟨g, j, none⟩).isSome = true := by
  rw [h.cellAt j hj, List.getElem?_eq_getElem (by rw [h.1]; exact hj)]
  rfl
set_option maxHeartbeats 2000000 in
set_option maxRecDepth 8000 in
theorem hamounts_is (A : Option Addr) (n c : Nat) (l : List Hd) (w : World) (hl : HRd w A l) (hn : Hid (l.length = n)) (hm : Hid (n ≤ 1000)) {am : List P2} (ham : Hid (amtH l = am)) :
    Calls Tryd.prog 36 #[.slice A n c] w fun e w' => (∃ g, e = .returned (.slice (some ⟨g, 0, none⟩) n n) ∧ ARd w' (some ⟨g, 0, none⟩) am) ∧ Below w.heap.size w w' := by
  have HR := Lib.hid hl
  have hm1 := hm.out
  have hmk := make_am n (by omega)
  have hal : Hid (am.length = n) := Lib.hid (by rw [← ham.out, amtH, List.length_map]; exact hn.out)
  clear hl hm1
  go_enter Tryd.func36, Tryd.ntmps36
  go_wp2
  go_loopw [11] (fun i wr => ∃ (j : Nat), j ≤ n ∧ i = .int .i64 j ∧ Hid (OwnA wr w.heap.size (.slice (some ⟨w.heap.size, 0, none⟩) n n) (am.take j ++ zAm (n - j))) ∧ Hid (Below w.heap.size w wr)) (fun i _ => n - (intOf i).toNat)
  case atStart => exact ⟨0, by omega, rfl, Lib.hid (by simpa using own_am_new w n (by have := hm.out; omega)), newB _ _⟩
  case round =>
    obtain ⟨j, hj, rfl, hO, hB⟩ := hrel
    by_cases hlt : (j : Int) < (n : Int)
    · obtain ⟨g, o, x, y, z, m, v, rfl, hg, hx, c1, c2, c3, c4, c5⟩ := (HR.out.below hB.out).at_ (i := j) (by have := hn.out; omega)
      have e5 : IntKind.i64.wrap ((j : Int) + 1) = (j : Int) + 1 := by have := hm.out; rw [IntKind.wrap_i64]; omega
      have hlen : Hid ((am.take j ++ zAm (n - j)).length = n) := Lib.hid (by have := hal.out; simp; omega)
      have hO2 : OwnA wr w.heap.size (.slice (some ⟨w.heap.size, 0, none⟩) n n) (am.take j ++ zAm (n - j)) := hO.out
      unfold OwnA at hO2
      rw [hlen.out] at hO2
      have d1 := own_cells hO2 (j := j * 2) (by omega)
      have d2 := own_cells hO2 (j := j * 2 + 1) (by omega)
      have f1 := hO2.frozenAt (j * 2)
      have f2 := hO2.frozenAt (j * 2 + 1)
      have hl0 : w.heap.size < wr.heap.size := World.block_lt_of_cell? wr _ (Option.isSome_iff_exists.1 d1).choose_spec
      obtain ⟨u1, d1⟩ := Option.isSome_iff_exists.1 d1
      obtain ⟨u2, d2⟩ := Option.isSome_iff_exists.1 d2
      have hst : Hid ((am.take j ++ zAm (n - j)).set j (m, v) = am.take (j + 1) ++ zAm (n - (j + 1))) := Lib.hid (by
        have h1 := fill_step am ((0, 0) : P2) hal.out (k := j) (by omega)
        have h2 := amtH_at (l := l) (i := j) (by have := hn.out; omega)
        rw [ham.out, hx.out] at h2
        rw [h2] at h1
        exact h1)
      have HO3 := Lib.hid ((hO.out.store hlen.out j (m, v)).below (newB _ (.cells #[.int .i64 x, .int .i64 y, .int .i64 z, .int .i64 m, .int .i64 v] 53)))
      rw [hst.out] at HO3
      have HB3 := Lib.hid (nxA ((hB.out.setCell (p := ⟨w.heap.size, j * 2, none⟩) (Nat.le_refl _) (.int .i64 m)).setCell (p := ⟨w.heap.size, j * 2 + 1, none⟩) (Nat.le_refl _) (.int .i64 v)) (.cells #[.int .i64 x, .int .i64 y, .int .i64 z, .int .i64 m, .int .i64 v] 53))
      clear hO2
      go_wp2
      go_roundw
      case rel => exact ⟨j + 1, by omega, by go_num, HO3, HB3⟩
      case measure => simp [intOf]; omega
    · have hjn : j = n := by omega
      subst hjn
      have HE : Hid (ARd wr (some ⟨w.heap.size, 0, none⟩) am) := Lib.hid (by
        have h1 := hO.out
        rw [List.take_of_length_le (by have := hal.out; omega), Nat.sub_self, show zAm 0 = [] from rfl, List.append_nil] at h1
        obtain ⟨A2, c2, hv, -, hr, -⟩ := h1.form
        injection hv with hv
        rw [hv]
        exact hr)
      go_wp2
      go_ret
      exact ⟨⟨_, rfl, HE.out⟩, hB.out⟩
set_option maxHeartbeats 2000000 in
set_option maxRecDepth 8000 in
theorem hprocs_is (A : Option Addr) (n c : Nat) (l : List Hd) (w : World) (hl : HRd w A l) (hn : Hid (l.length = n)) (hm : Hid (n ≤ 1000)) {am : List P3} (ham : Hid (prsH l = am)) :
    Calls Tryd.prog 17 #[.slice A n c] w fun e w' => (∃ g, e = .returned (.slice (some ⟨g, 0, none⟩) n n) ∧ PRd w' (some ⟨g, 0, none⟩) am) ∧ Below w.heap.size w w' := by
  have HR := Lib.hid hl
  have hm1 := hm.out
  have hmk := make_pr n (by omega)
  have hal : Hid (am.length = n) := Lib.hid (by rw [← ham.out, prsH, List.length_map]; exact hn.out)
  clear hl hm1
  go_enter Tryd.func17, Tryd.ntmps17
  go_wp2
  go_loopw [11] (fun i wr => ∃ (j : Nat), j ≤ n ∧ i = .int .i64 j ∧ Hid (OwnPr wr w.heap.size (.slice (some ⟨w.heap.size, 0, none⟩) n n) (am.take j ++ zPr (n - j))) ∧ Hid (Below w.heap.size w wr)) (fun i _ => n - (intOf i).toNat)
  case atStart => exact ⟨0, by omega, rfl, Lib.hid (by simpa using own_pr_new w n (by have := hm.out; omega)), newB _ _⟩
  case round =>
    obtain ⟨j, hj, rfl, hO, hB⟩ := hrel
    by_cases hlt : (j : Int) < (n : Int)
    · obtain ⟨g, o, x, y, z, m, v, rfl, hg, hx, c1, c2, c3, c4, c5⟩ := (HR.out.below hB.out).at_ (i := j) (by have := hn.out; omega)
      have e5 : IntKind.i64.wrap ((j : Int) + 1) = (j : Int) + 1 := by have := hm.out; rw [IntKind.wrap_i64]; omega
      have hlen : Hid ((am.take j ++ zPr (n - j)).length = n) := Lib.hid (by have := hal.out; simp; omega)
      have hO2 : OwnPr wr w.heap.size (.slice (some ⟨w.heap.size, 0, none⟩) n n) (am.take j ++ zPr (n - j)) := hO.out
      unfold OwnPr at hO2
      rw [hlen.out] at hO2
      have d1 := own_cells hO2 (j := j * 3) (by omega)
      have d2 := own_cells hO2 (j := j * 3 + 1) (by omega)
      have d3 := own_cells hO2 (j := j * 3 + 2) (by omega)
      have f1 := hO2.frozenAt (j * 3)
      have f2 := hO2.frozenAt (j * 3 + 1)
      have f3 := hO2.frozenAt (j * 3 + 2)
      have hl0 : w.heap.size < wr.heap.size := World.block_lt_of_cell? wr _ (Option.isSome_iff_exists.1 d1).choose_spec
      obtain ⟨u1, d1⟩ := Option.isSome_iff_exists.1 d1
      obtain ⟨u2, d2⟩ := Option.isSome_iff_exists.1 d2
      obtain ⟨u3, d3⟩ := Option.isSome_iff_exists.1 d3
      have hst : Hid ((am.take j ++ zPr (n - j)).set j (x, y, z) = am.take (j + 1) ++ zPr (n - (j + 1))) := Lib.hid (by
        have h1 := fill_step am ((0, 0, 0) : P3) hal.out (k := j) (by omega)
        have h2 := prsH_at (l := l) (i := j) (by have := hn.out; omega)
        rw [ham.out, hx.out] at h2
        rw [h2] at h1
        exact h1)
      have HO3 := Lib.hid ((hO.out.store hlen.out j (x, y, z)).below (newB _ (.cells #[.int .i64 x, .int .i64 y, .int .i64 z, .int .i64 m, .int .i64 v] 53)))
      rw [hst.out] at HO3
      have HB3 := Lib.hid (nxA (((hB.out.setCell (p := ⟨w.heap.size, j * 3, none⟩) (Nat.le_refl _) (.int .i64 x)).setCell (p := ⟨w.heap.size, j * 3 + 1, none⟩) (Nat.le_refl _) (.int .i64 y)).setCell (p := ⟨w.heap.size, j * 3 + 2, none⟩) (Nat.le_refl _) (.int .i64 z)) (.cells #[.int .i64 x, .int .i64 y, .int .i64 z, .int .i64 m, .int .i64 v] 53))
      clear hO2
      go_wp2
      go_roundw
      case rel => exact ⟨j + 1, by omega, by go_num, HO3, HB3⟩
      case measure => simp [intOf]; omega
    · have hjn : j = n := by omega
      subst hjn
      have HE : Hid (PRd wr (some ⟨w.heap.size, 0, none⟩) am) := Lib.hid (by
        have h1 := hO.out
        rw [List.take_of_length_le (by have := hal.out; omega), Nat.sub_self, show zPr 0 = [] from rfl, List.append_nil] at h1
        obtain ⟨A2, c2, hv, -, hr, -⟩ := h1.form
        injection hv with hv
        rw [hv]
        exact hr)
      go_wp2
      go_ret
      exact ⟨⟨_, rfl, HE.out⟩, hB.out⟩
theorem getH_front : ∀ {l : List Hd} {p : Pr3} {k : Nat}, k < l.length → (∀ j, j < k → ¬ (l.getD j default).1 = p) → (l.getD k default).1 = p → getH l p = (l.getD k default).2
  | [], _, _, h, _, _ => by simp at h
  | h :: r, p, 0, _, _, e => by rw [getH]; simp at e; rw [if_pos e]; rfl
  | h :: r, p, k + 1, hk, hn, e => by
    rw [getH, if_neg (by have := hn 0 (by omega); simpa using this), getH_front (k := k) (by simpa using hk) (fun j hj => by have := hn (j + 1) (by omega); simpa using this) (by simpa using e)]
    simp
theorem getH_out {l : List Hd} {p : Pr3} (hn : ∀ j, j < l.length → ¬ (l.getD j default).1 = p) : getH l p = (0, 0) := getH_none fun h hh => by
  obtain ⟨i, hi, e⟩ := mem_getDH hh
  rw [← e]
  exact hn i hi
set_option maxHeartbeats 2000000 in
set_option maxRecDepth 8000 in
theorem hget_is (A : Option Addr) (n c : Nat) (l : List Hd) (a b d : Int) (w : World) (hl : HRd w A l) (hn : Hid (l.length = n)) (hm : Hid (n ≤ 1000)) {s t : Int} (hr : Hid (getH l (a, b, d) = (s, t))) :
    Calls Tryd.prog 14 #[.slice A n c, .agg #[.int .i64 a, .int .i64 b, .int .i64 d]] w fun e w' => e = .returned (aa s t) ∧ Below w.heap.size w w' := by
  have HR := Lib.hid hl
  have HK0 := Lib.hid (Blk.new w [.int .i64 a, .int .i64 b, .int .i64 d] 26 rfl)
  have HK1 := Lib.hid (Blk.new (w.alloc (.cells #[.int .i64 a, .int .i64 b, .int .i64 d] 26)) [.int .i64 0, .int .i64 0] 30 (g := w.heap.size + 1) (by simp))
  have HK2 := Lib.hid (HK0.out.grow (.cells #[.int .i64 0, .int .i64 0] 30))
  clear hl
  go_enter Tryd.func14, Tryd.ntmps14
  go_wp2
  go_loopw [9] (fun i wr => ∃ (k : Nat), k ≤ n ∧ i = .int .i64 k ∧ Hid (Blk wr w.heap.size [.int .i64 a, .int .i64 b, .int .i64 d]) ∧ Hid (Blk wr (w.heap.size + 1) [.int .i64 0, .int .i64 0]) ∧ Hid (Below w.heap.size w wr) ∧ Hid (∀ j, j < k → ¬ (l.getD j default).1 = (a, b, d))) (fun i _ => n - (intOf i).toNat)
  case atStart => exact ⟨0, by omega, rfl, HK2, HK1, nxA (newB _ _) _, fun j hj => by omega⟩
  case round =>
    obtain ⟨k, hk, rfl, hb0, hb1, hB, hno⟩ := hrel
    have i0 := hb0.out.cell 0 rfl
    have i1 := hb0.out.cell 1 rfl
    have i2 := hb0.out.cell 2 rfl
    have q0 := hb1.out.cell 0 rfl
    have q1 := hb1.out.cell 1 rfl
    have qf := hb1.out.fz
    have hl0 := hb0.out.lt
    have hl1 := hb1.out.lt
    by_cases hlt : (k : Int) < (n : Int)
    · obtain ⟨g, o, x, y, z, m, v, rfl, hg, hx, c1, c2, c3, c4, c5⟩ := (HR.out.below hB.out).at_ (i := k) (by have := hn.out; omega)
      have e5 : IntKind.i64.wrap ((k : Int) + 1) = (k : Int) + 1 := by have := hm.out; rw [IntKind.wrap_i64]; omega
      by_cases he : x = a ∧ y = b ∧ z = d
      · obtain ⟨rfl, rfl, rfl⟩ := he
        have hst : Hid (m = s ∧ v = t) := Lib.hid (by
          have h1 := getH_front (l := l) (p := (x, y, z)) (k := k) (by have := hn.out; omega) hno.out (by rw [hx.out])
          rw [hr.out, hx.out] at h1
          exact ⟨(congrArg Prod.fst h1).symm, (congrArg Prod.snd h1).symm⟩)
        obtain ⟨rfl, rfl⟩ := hst.out
        have he1 := fun W => eqPr x y z x y z W
        go_wp2
        refine bodyPost_ret (v := aa m v) (by simp [results, Tryd.results14, go_sem, q0, q1, qf, hl0, hl1]) rfl ⟨rfl, ?_⟩
        exact nxA ((hB.out.setCell (p := ⟨w.heap.size + 1, 0, none⟩) (by simp) _).setCell (p := ⟨w.heap.size + 1, 1, none⟩) (by simp) _) _
      · have hno2 : Hid (∀ j, j < k + 1 → ¬ (l.getD j default).1 = (a, b, d)) := fun j hj e => by
          by_cases hjk : j = k
          · subst hjk
            rw [hx.out] at e
            exact he (by simpa using e)
          · exact hno.out j (by omega) e
        have hne := eqPr_no he
        have hb2 := Lib.hid (hb0.out.grow (.cells #[.int .i64 x, .int .i64 y, .int .i64 z, .int .i64 m, .int .i64 v] 53))
        have hb3 := Lib.hid (hb1.out.grow (.cells #[.int .i64 x, .int .i64 y, .int .i64 z, .int .i64 m, .int .i64 v] 53))
        clear he
        go_wp2
        go_roundw
        case rel => exact ⟨k + 1, by omega, by go_num, hb2, hb3, nxA hB.out _, hno2⟩
        case measure => simp [intOf]; omega
    · have hst : Hid (s = 0 ∧ t = 0) := Lib.hid (by
        have h1 := getH_out (l := l) (p := (a, b, d)) (fun j hj => hno.out j (by have := hn.out; omega))
        rw [hr.out] at h1
        exact ⟨congrArg Prod.fst h1, congrArg Prod.snd h1⟩)
      obtain ⟨rfl, rfl⟩ := hst.out
      go_wp2
      refine bodyPost_ret (v := aa 0 0) (by simp [results, Tryd.results14, go_sem, q0, q1, qf, hl0, hl1]) rfl ⟨rfl, ?_⟩
      exact (hB.out.setCell (p := ⟨w.heap.size + 1, 0, none⟩) (by simp) _).setCell (p := ⟨w.heap.size + 1, 1, none⟩) (by simp) _
end Go.Proofs.YthclgccgkdijbaaDoor
