/- Contracts of the reference: Simplify, SameSets. Contracts of the reference: FromSets. Contracts of the reference: Minimal and Blocking of whatever expression, index, Implies, Equivalent. Contracts of the reference: Implies, Equivalent. -/
import Derived.Test.YtohjllnfnkajjaaGreatNy
import Derived.Test.YtohjllnfnkajjaaGreatQ4
import Derived.Test.YtohjllnfnkajjaaGreatNv
namespace Go.Proofs.YtohjllnfnkajjaaGreat
open Go.RowKit
set_option linter.unusedVariables false
set_option linter.unusedSimpArgs false

theorem SRd.at_ {w : World} {A : Option Addr} {X : List (List Int)} (h : SRd w A X) {i : Nat} (hi : i < X.length) :
    ∃ b o A' n' c', A = some ⟨b, o, none⟩ ∧ b < w.heap.size ∧ w.cell? ⟨b, o + i, none⟩ = some (.slice A' n' c') ∧ Hid ((X.getD i []).length = n') ∧ n' ≤ c' ∧ IRd w A' (X.getD i []) := by
  obtain ⟨b, o, hA, hb, hc⟩ := h (by rintro rfl; simp at hi)
  obtain ⟨A', c', h1, h2, h3⟩ := hc i hi
  exact ⟨b, o, A', _, c', hA, hb, h1, Lib.hid rfl, h2, h3⟩
theorem getD_memL {X : List (List Int)} {i : Nat} (hi : i < X.length) : X.getD i [] ∈ X := by
  rw [List.getD_eq_getElem?_getD, List.getElem?_eq_getElem hi]; exact List.getElem_mem hi
theorem ext_getD0 {s t : List Int} (hl : s.length = t.length) (h : ∀ i, i < s.length → s.getD i 0 = t.getD i 0) : s = t := by
  refine List.ext_getElem hl fun i h1 h2 => ?_
  have := h i h1
  rw [List.getD_eq_getElem?_getD, List.getD_eq_getElem?_getD, List.getElem?_eq_getElem h1, List.getElem?_eq_getElem h2] at this
  exact this
theorem ext_getDL {X Y : List (List Int)} (hl : X.length = Y.length) (h : ∀ i, i < X.length → X.getD i [] = Y.getD i []) : X = Y := by
  refine List.ext_getElem hl fun i h1 h2 => ?_
  have := h i h1
  rw [List.getD_eq_getElem?_getD, List.getD_eq_getElem?_getD, List.getElem?_eq_getElem h1, List.getElem?_eq_getElem h2] at this
  exact this
set_option maxHeartbeats 4000000 in
set_option maxRecDepth 8000 in
/-- Two lists of sets. -/
theorem sameSets_is (X Y : List (List Int)) (A : Option Addr) (n c : Nat) (A' : Option Addr) (n' c' : Nat) (w : World) (r : Bool) (hX : SRd w A X) (hY : SRd w A' Y) (hn : Hid (X.length = n)) (hn' : Hid (Y.length = n')) (hs : Hid (∀ s ∈ X, s.length ≤ 1000)) (hl : n ≤ 1000) (hr : Hid (decide (X = Y) = r)) :
    Calls Tryz.prog 8 #[.slice A n c, .slice A' n' c'] w fun x w' => x = .returned (.bool r) ∧ Below w.heap.size w w' := by
  have HX := Lib.hid hX
  have HY := Lib.hid hY
  clear hX hY
  by_cases he : n = n'
  · subst he
    have b0 : ((n : Int) != (n : Int)) = false := by simp
    go_enter Tryz.func8, Tryz.ntmps8
    go_wp2
    go_loopw [5] (fun i wr => ∃ (j : Nat), j ≤ n ∧ i = .int .i64 j ∧ Hid (∀ i, i < j → X.getD i [] = Y.getD i []) ∧ Hid (Below w.heap.size w wr)) (fun i _ => n - (intOf i).toNat)
    case atStart => exact ⟨0, by omega, rfl, Lib.hid (fun i hi => absurd hi (Nat.not_lt_zero i)), Below.refl _ _⟩
    case round =>
      obtain ⟨j, hj, rfl, hE, hB⟩ := hrel
      obtain ⟨WR, hWR⟩ : ∃ W, W = wr := ⟨_, rfl⟩
      subst hWR
      by_cases hlt : (j : Int) < (n : Int)
      · have hjn : j < n := by omega
        have e5 : IntKind.i64.wrap ((j : Int) + 1) = (j : Int) + 1 := by rw [IntKind.wrap_i64]; omega
        obtain ⟨g, o, A1, n1, c1, rfl, hg, z1, hn1, hc1, hr1⟩ := (HX.out.below hB.out).at_ (i := j) (by have := hn.out; omega)
        obtain ⟨g', o', A2, n2, c2, rfl, hg', z2, hn2, hc2, hr2⟩ := (HY.out.below hB.out).at_ (i := j) (by have := hn'.out; omega)
        obtain ⟨s, hs1⟩ : ∃ s, Hid (X.getD j [] = s) := ⟨_, Lib.hid rfl⟩
        obtain ⟨t, ht1⟩ : ∃ t, Hid (Y.getD j [] = t) := ⟨_, Lib.hid rfl⟩
        rw [hs1.out] at hn1 hr1
        rw [ht1.out] at hn2 hr2
        have hn1k : n1 ≤ 1000 := by have h1 := hs.out _ (getD_memL (X := X) (i := j) (by have := hn.out; omega)); rw [hs1.out, hn1.out] at h1; exact h1
        have HR1 := Lib.hid hr1
        have HR2 := Lib.hid hr2
        have HG := Lib.hid (And.intro hg hg')
        clear hr1 hr2 hc1 hc2
        by_cases hnn : n1 = n2
        · subst hnn
          have b1 : ((n1 : Int) != (n1 : Int)) = false := by simp
          go_wp2
          go_quiet (fail)
          go_wp2
          go_loopw [6] (fun i wz => ∃ (q : Nat), q ≤ n1 ∧ i = .int .i64 q ∧ Hid (∀ i, i < q → s.getD i 0 = t.getD i 0) ∧ Hid (Below WR.heap.size WR wz)) (fun i _ => n1 - (intOf i).toNat)
          case atStart => exact ⟨0, by omega, rfl, Lib.hid (fun i hi => absurd hi (Nat.not_lt_zero i)), bdN (Below.refl _ _) _⟩
          case round =>
            obtain ⟨q, hq, rfl, hQ, hZ⟩ := hrel
            have p1 := (hZ.out.cell (p := ⟨g, o + j, none⟩) HG.out.1).trans z1
            have p2 := (hZ.out.cell (p := ⟨g', o' + j, none⟩) HG.out.2).trans z2
            by_cases hqt : (q : Int) < (n1 : Int)
            · have hqn : q < n1 := by omega
              have e6 : IntKind.i64.wrap ((q : Int) + 1) = (q : Int) + 1 := by rw [IntKind.wrap_i64]; omega
              obtain ⟨b1', o1, hA1, hb1', y1⟩ := (HR1.out.below hZ.out).at_ (i := q) (by have := hn1.out; omega)
              obtain ⟨b2', o2, hA2, hb2', y2⟩ := (HR2.out.below hZ.out).at_ (i := q) (by have := hn2.out; omega)
              subst hA1
              subst hA2
              obtain ⟨v, hv⟩ : ∃ v, Hid (s.getD q 0 = v) := ⟨_, Lib.hid rfl⟩
              obtain ⟨v', hv'⟩ : ∃ v, Hid (t.getD q 0 = v) := ⟨_, Lib.hid rfl⟩
              rw [hv.out] at y1
              rw [hv'.out] at y2
              by_cases hvv : v = v'
              · subst hvv
                have b2 : (v != v) = false := by simp
                have hQ2 : Hid (∀ i, i < q + 1 → s.getD i 0 = t.getD i 0) := Lib.hid (fun i hi => by
                  by_cases e : i = q
                  · subst e; rw [hv.out, hv'.out]
                  · exact hQ.out i (by omega))
                go_wp2
                go_quiet (fail)
                go_wp2
                go_roundw
                case rel => exact ⟨q + 1, by omega, by go_num, hQ2, bdN hZ.out _⟩
                case measure => simp [intOf]; omega
              · have b2 : (v != v') = true := by rw [bne_iff_ne]; exact hvv
                have hend : Hid (r = false) := Lib.hid (by
                  rw [← hr.out, decide_eq_false_iff_not]
                  intro h
                  subst h
                  exact hvv (by rw [← hv.out, ← hv'.out, ← hs1.out, ← ht1.out]))
                go_wp2
                go_quiet (fail)
                go_wp2
                go_ret
                exact ⟨ret_bool hend.out.symm, bdN (nx hB.out hZ.out) _⟩
            · have hst : Hid (∀ i, i < j + 1 → X.getD i [] = Y.getD i []) := Lib.hid (fun i hi => by
                by_cases e : i = j
                · subst e
                  rw [hs1.out, ht1.out]
                  exact ext_getD0 (by rw [hn1.out, hn2.out]) (fun i hi => hQ.out i (by have := hn1.out; omega))
                · exact hE.out i (by omega))
              go_wp2
              go_roundw
              case rel => exact ⟨j + 1, by omega, by go_num, hst, nx hB.out hZ.out⟩
              case measure => simp [intOf]; omega
        · have b1 : ((n1 : Int) != (n2 : Int)) = true := by rw [bne_iff_ne]; omega
          have hend : Hid (r = false) := Lib.hid (by
            rw [← hr.out, decide_eq_false_iff_not]
            intro h
            subst h
            exact hnn (by rw [← hn1.out, ← hn2.out, ← hs1.out, ← ht1.out]))
          go_wp2
          go_quiet (fail)
          go_wp2
          go_ret
          exact ⟨ret_bool hend.out.symm, bdN hB.out _⟩
      · have hend : Hid (r = true) := Lib.hid (by
          rw [← hr.out, decide_eq_true_iff]
          exact ext_getDL (by rw [hn.out, hn'.out]) (fun i hi => hE.out i (by have := hn.out; omega)))
        go_wp2
        go_ret
        exact ⟨ret_bool hend.out.symm, hB.out⟩
  · have b0 : ((n : Int) != (n' : Int)) = true := by rw [bne_iff_ne]; omega
    have hend : Hid (r = false) := Lib.hid (by
      rw [← hr.out, decide_eq_false_iff_not]
      intro h
      subst h
      exact he (by rw [← hn.out, ← hn'.out]))
    go_enter Tryz.func8, Tryz.ntmps8
    go_wp2
    go_ret
    exact ⟨ret_bool hend.out.symm, Below.refl _ _⟩
end Go.Proofs.YtohjllnfnkajjaaGreat

namespace Go.Proofs.YtohjllnfnkajjaaGreat
open Go.RowKit
set_option linter.unusedVariables false
set_option linter.unusedSimpArgs false

/-- An expression that the call made, and whether it is one. -/
def FrQ (y : Ex) (r : Bool) (w : World) (x : Ending) (w' : World) : Prop := (∃ k s m u A n c, x = .returned (.tuple #[xe k s m u A n c, .bool r]) ∧ TIn (Lo w'.heap.size) w' ⟨k, s, m, u, A, n, c⟩ y) ∧ Below w.heap.size w w'
theorem take_snocD {α : Type} {l : List α} {q : Nat} {d : α} (h : q < l.length) : l.take (q + 1) = l.take q ++ [l.getD q d] := by
  rw [List.take_add_one, List.getD_eq_getElem?_getD, List.getElem?_eq_getElem h]; simp
theorem inX_bad {n : Nat} {X : List (List Int)} {j q : Nat} {v : Int} (hj : j < X.length) (hq : q < (X.getD j []).length) (hv : (X.getD j []).getD q 0 = v) (h : ¬ (0 ≤ v ∧ v < (n : Int))) : ¬ InX n X := fun hx => h (by
  have h1 := hx _ (getD_memL hj) v (by rw [← hv]; generalize X.getD j [] = s at hq ⊢; rw [List.getD_eq_getElem?_getD, List.getElem?_eq_getElem hq]; exact List.getElem_mem hq)
  exact h1)
theorem inX_all {n : Nat} {X : List (List Int)} (h : ∀ j, j < X.length → ∀ i ∈ X.getD j [], 0 ≤ i ∧ i < (n : Int)) : InX n X := fun s hs => by
  obtain ⟨j, hj, rfl⟩ := List.mem_iff_getElem.1 hs
  have h1 := h j hj
  rw [List.getD_eq_getElem?_getD, List.getElem?_eq_getElem hj] at h1
  exact h1
set_option maxHeartbeats 8000000 in
set_option maxRecDepth 100000 in
theorem rFrom_is (L : List A3) (X : List (List Int)) (A : Option Addr) (n c : Nat) (A' : Option Addr) (n' c' : Nat) (w : World) (r : Bool) (hL : QRd w A L) (hX : SRd w A' X) (hn : Hid (L.length = n)) (hn' : Hid (X.length = n')) (hr : Hid (frmB L X = r)) (y : Ex) (hy : Hid (y = if r = true then frm L X else Ex.zero)) :
    Calls Tryz.prog 27 #[.slice A n c, .slice A' n' c'] w (FrQ y r w) := by
  have HL := Lib.hid hL
  have HX := Lib.hid hX
  have HR0 := Lib.hid (Blk.new w [.int .i64 0, .string ⟨#[]⟩, .int .i64 0, .int .i64 0, .slice none 0 0] 28 rfl)
  clear hL hX
  by_cases h24 : (24 : Int) < (n' : Int)
  · have h24' : 24 < n' := by omega
    have hend : Hid (r = false) := Lib.hid (by rw [← hr.out, frmB_no]; intro h; have h1 := (frm_few h.2).1; rw [hn'.out] at h1; omega)
    have hend2 := hend.out
    subst hend2
    have hyz := hy.out
    rw [if_neg (by decide)] at hyz
    subst hyz
    go_enter Tryz.func27, Tryz.ntmps27
    go_wp2
    refine bodyPost_ret (v := .tuple #[xe 0 ⟨#[]⟩ 0 0 none 0 0, .bool false]) (by simp [results, Tryz.results27, go_sem]) rfl ⟨⟨_, _, _, _, _, _, _, rfl, tin0 _ _⟩, newB _ _⟩
  · have h24' : ¬ 24 < n' := by omega
    have HE0 := Lib.hid (Blk.new (w.alloc (.cells #[.int .i64 0, .string ⟨#[]⟩, .int .i64 0, .int .i64 0, .slice none 0 0] 28)) [.int .i64 1, .string ⟨#[]⟩, .int .i64 0, .int .i64 0, .slice none 0 0] 28 (g := w.heap.size + 1) (by simp))
    have HR1 := Lib.hid (HR0.out.grow (.cells #[.int .i64 1, .string ⟨#[]⟩, .int .i64 0, .int .i64 0, .slice none 0 0] 28))
    have HB0 := Lib.hid (new2 w (.cells #[.int .i64 0, .string ⟨#[]⟩, .int .i64 0, .int .i64 0, .slice none 0 0] 28) (.cells #[.int .i64 1, .string ⟨#[]⟩, .int .i64 0, .int .i64 0, .slice none 0 0] 28))
    go_enter Tryz.func27, Tryz.ntmps27
    go_upto_region 4 with fail
    generalize hWG : (w.alloc (.cells #[.int .i64 0, .string ⟨#[]⟩, .int .i64 0, .int .i64 0, .slice none 0 0] 28)).alloc (.cells #[.int .i64 1, .string ⟨#[]⟩, .int .i64 0, .int .i64 0, .slice none 0 0] 28) = W2 at HE0 HR1 HB0 ⊢
    go_wp2_with fail
    go_loopw [7] (fun i wr => ∃ (j : Nat) (es : List Ex) (vs : List XV) (A2 : Option Addr) (nn2 c2 : Nat), j ≤ n' ∧ i = .int .i64 j ∧ Hid (es = (X.take j).map (frmG L)) ∧ Hid (∀ i, i < j → ∀ v ∈ X.getD i [], 0 ≤ v ∧ v < (n : Int)) ∧ Hid (KT (w.heap.size + 2) (w.heap.size + 1) (.slice A2 nn2 c2) es vs wr) ∧ Hid (Blk wr w.heap.size [.int .i64 0, .string ⟨#[]⟩, .int .i64 0, .int .i64 0, .slice none 0 0]) ∧ Hid (Blk wr (w.heap.size + 1) [.int .i64 1, .string ⟨#[]⟩, .int .i64 0, .int .i64 0, .slice A2 nn2 c2]) ∧ Hid (Below w.heap.size w wr)) (fun i _ => n' - (intOf i).toNat)
    case atStart => exact ⟨0, [], [], none, 0, 0, by omega, rfl, Lib.hid rfl, Lib.hid (fun i hi => absurd hi (Nat.not_lt_zero i)), KT.nil _ _ _, HR1.out, HE0.out, HB0.out⟩
    case round =>
      obtain ⟨j, es, vs, A2, nn2, c2, hj, rfl, hes, hin, hK, hR, hE, hB⟩ := hrel
      obtain ⟨WR, hWR⟩ : ∃ W, W = wr := ⟨_, rfl⟩
      subst hWR
      clear HR0 HR1 HE0 HB0
      by_cases hjl : (j : Int) < (n' : Int)
      · have hjn : j < n' := by omega
        have hjl2 : j < X.length := by have := hn'.out; omega
        have e5 : IntKind.i64.wrap ((j : Int) + 1) = (j : Int) + 1 := by rw [IntKind.wrap_i64]; omega
        obtain ⟨g, o, A1, n1, c1, rfl, hg, z1, hn1, hc1, hr1⟩ := (HX.out.below hB.out).at_ hjl2
        obtain ⟨s, hs1⟩ : ∃ s, Hid (X.getD j [] = s) := ⟨_, Lib.hid rfl⟩
        rw [hs1.out] at hn1 hr1
        have HR1 := Lib.hid hr1
        have HG := Lib.hid hg
        clear hr1 hc1
        by_cases h25 : (24 : Int) < (n1 : Int)
        · have h25' : 24 < n1 := by omega
          have hend : Hid (r = false) := Lib.hid (by rw [← hr.out, frmB_no]; intro h; have h1 := (frm_few h.2).2 _ (getD_memL hjl2); rw [hs1.out, hn1.out] at h1; omega)
          have hend2 := hend.out
          subst hend2
          have hyz := hy.out
          rw [if_neg (by decide)] at hyz
          subst hyz
          have r0 := hR.out.cell 0 rfl
          have r1 := hR.out.cell 1 rfl
          have r2 := hR.out.cell 2 rfl
          have r3 := hR.out.cell 3 rfl
          have r4 := hR.out.cell 4 rfl
          have rf := hR.out.fz
          have rl := hR.out.lt
          go_wp2
          refine bodyPost_ret (v := .tuple #[xe 0 ⟨#[]⟩ 0 0 none 0 0, .bool false]) (by simp [results, Tryz.results27, go_sem, r0, r1, r2, r3, r4, rf]) rfl ⟨⟨_, _, _, _, _, _, _, rfl, tin0 _ _⟩, hB.out.trans (five_below _ w.heap.size _ _ _ _ _)⟩
        · have h25' : ¬ 24 < n1 := by omega
          have HB4 := Lib.hid (newB WR (.cells #[.int .i64 n1, .string ⟨#[]⟩, .int .i64 0, .int .i64 0, .slice none 0 0] 28))
          have HG4 := Lib.hid (Blk.new WR [.int .i64 n1, .string ⟨#[]⟩, .int .i64 0, .int .i64 0, .slice none 0 0] 28 rfl)
          go_upto_region 10 with fail
          obtain ⟨gb, hgb⟩ : ∃ gb, WR.heap.size = gb := ⟨_, rfl⟩
          have HGB := Lib.hid hgb
          rw [hgb] at HG4 ⊢
          generalize hW4 : WR.alloc (.cells #[.int .i64 n1, .string ⟨#[]⟩, .int .i64 0, .int .i64 0, .slice none 0 0] 28) = W4 at HB4 HG4 ⊢
          clear hgb hW4
          go_wp2_with fail
          go_loopw [9] (fun i wz => ∃ (q : Nat) (es2 : List Ex) (vs2 : List XV) (A3 : Option Addr) (nn3 c3 : Nat), q ≤ n1 ∧ i = .int .i64 q ∧ Hid (es2 = (s.take q).map (leafE L)) ∧ Hid (∀ v ∈ s.take q, 0 ≤ v ∧ v < (n : Int)) ∧ Hid (KT (gb + 1) gb (.slice A3 nn3 c3) es2 vs2 wz) ∧ Hid (Blk wz gb [.int .i64 n1, .string ⟨#[]⟩, .int .i64 0, .int .i64 0, .slice A3 nn3 c3]) ∧ Hid (Below WR.heap.size WR wz)) (fun i _ => n1 - (intOf i).toNat)
          case atStart => exact ⟨0, [], [], none, 0, 0, by omega, rfl, Lib.hid rfl, Lib.hid (fun v hv => by cases hv), KT.nil _ _ _, HG4.out, HB4.out⟩
          case round =>
            obtain ⟨q, es2, vs2, A3, nn3, c3, hq, rfl, hes2, hin2, hK3, hX3, hZ⟩ := hrel
            obtain ⟨wz, hwz⟩ : ∃ W, W = wr := ⟨_, rfl⟩
            subst hwz
            have p1 := (hZ.out.cell (p := ⟨g, o + j, none⟩) HG.out).trans z1
            have HRz := Lib.hid (hR.out.up hZ.out hR.out.lt)
            by_cases hqt : (q : Int) < (n1 : Int)
            · have hqn : q < n1 := by omega
              have hql2 : q < s.length := by have := hn1.out; omega
              have e6 : IntKind.i64.wrap ((q : Int) + 1) = (q : Int) + 1 := by rw [IntKind.wrap_i64]; omega
              obtain ⟨b1', o1, hA1, hb1', y1⟩ := (HR1.out.below hZ.out).at_ hql2
              subst hA1
              obtain ⟨v, hv⟩ : ∃ v, Hid (s.getD q 0 = v) := ⟨_, Lib.hid rfl⟩
              rw [hv.out] at y1
              by_cases hv0 : v < 0
              · have hend : Hid (r = false) := Lib.hid (by rw [← hr.out, frmB_no]; intro h; exact inX_bad (q := q) (v := v) hjl2 (by rw [hs1.out, hn1.out]; exact hqn) (by rw [hs1.out]; exact hv.out) (by rw [hn.out]; omega) h.1)
                have hend2 := hend.out
                subst hend2
                have hyz := hy.out
                rw [if_neg (by decide)] at hyz
                subst hyz
                have r0 := HRz.out.cell 0 rfl
                have r1 := HRz.out.cell 1 rfl
                have r2 := HRz.out.cell 2 rfl
                have r3 := HRz.out.cell 3 rfl
                have r4 := HRz.out.cell 4 rfl
                have rf := HRz.out.fz
                have rl := HRz.out.lt
                go_wp2
                refine bodyPost_ret (v := .tuple #[xe 0 ⟨#[]⟩ 0 0 none 0 0, .bool false]) (by simp [results, Tryz.results27, go_sem, r0, r1, r2, r3, r4, rf]) rfl ⟨⟨_, _, _, _, _, _, _, rfl, tin0 _ _⟩, (nx hB.out hZ.out).trans (five_below _ w.heap.size _ _ _ _ _)⟩
              · by_cases hvn : (n : Int) ≤ v
                · have hend : Hid (r = false) := Lib.hid (by rw [← hr.out, frmB_no]; intro h; exact inX_bad (q := q) (v := v) hjl2 (by rw [hs1.out, hn1.out]; exact hqn) (by rw [hs1.out]; exact hv.out) (by rw [hn.out]; omega) h.1)
                  have hend2 := hend.out
                  subst hend2
                  have hyz := hy.out
                  rw [if_neg (by decide)] at hyz
                  subst hyz
                  have r0 := HRz.out.cell 0 rfl
                  have r1 := HRz.out.cell 1 rfl
                  have r2 := HRz.out.cell 2 rfl
                  have r3 := HRz.out.cell 3 rfl
                  have r4 := HRz.out.cell 4 rfl
                  have rf := HRz.out.fz
                  have rl := HRz.out.lt
                  go_wp2
                  refine bodyPost_ret (v := .tuple #[xe 0 ⟨#[]⟩ 0 0 none 0 0, .bool false]) (by simp [results, Tryz.results27, go_sem, r0, r1, r2, r3, r4, rf]) rfl ⟨⟨_, _, _, _, _, _, _, rfl, tin0 _ _⟩, (nx hB.out hZ.out).trans (five_below _ w.heap.size _ _ _ _ _)⟩
                · obtain ⟨i, rfl⟩ : ∃ i : Nat, v = (i : Int) := ⟨v.toNat, by omega⟩
                  have hin' : i < n := by omega
                  have hvn' : (i : Int) < (n : Int) := by omega
                  obtain ⟨ga, oa, sa, ma, ua, hAa, hlta, hla, x0, x1, x2⟩ := (HL.out.below (nx hB.out hZ.out)).at_ (i := i) (by have := hn.out; omega)
                  subst hAa
                  have hvs : Hid (vs2.length + 1 ≤ 1000000) := Lib.hid (by rw [hK3.out.len, hes2.out, List.length_map, List.length_take]; omega)
                  have hleaf : Hid (leafE L (i : Int) = .nd 0 (sa, ma, ua) []) := Lib.hid (by unfold leafE; rw [show ((i : Int)).toNat = i from rfl, hla.out])
                  have hest : Hid (es2 ++ [Ex.nd 0 (sa, ma, ua) []] = (s.take (q + 1)).map (leafE L)) := Lib.hid (by rw [take_snocD (d := 0) hql2, List.map_append, ← hes2.out, List.map_singleton, hv.out, hleaf.out])
                  have hin3 : Hid (∀ v ∈ s.take (q + 1), 0 ≤ v ∧ v < (n : Int)) := Lib.hid (by
                    intro v hm
                    rw [take_snocD (d := 0) hql2] at hm
                    rcases List.mem_append.1 hm with hm | hm
                    · exact hin2.out v hm
                    · rw [List.mem_singleton.1 hm, hv.out]; omega)
                  have HNW : Hid (Below wz.heap.size wz ((wz.alloc (.cells #[.int .i64 0, .string sa, .int .i64 ma, .int .i64 ua, .slice none 0 0] 28)).drew)) := Lib.hid (bdD (newB wz _))
                  have xc := hX3.out.cell 4 rfl
                  have xf := hX3.out.fz
                  have xl := hX3.out.lt
                  go_upto_region 16 with fail
                  go_region_law (refine step_app_expr rfl (.tmp 61) (.tmp 67) rfl (gb + 1) (.slice A3 nn3 c3) vs2 _ [(⟨0, sa, ma, ua, none, 0, 0⟩ : XV)] 1 1 (Lib.hid rfl) (by simp [Act.eval, Act.put]) (by simp [Act.eval, Act.put]) (own_kept hK3.out.own (fun g hg => HNW.out.block g (own_lt hK3.out.own hg).2)) (XRd.one_at wz _ (⟨0, sa, ma, ua, none, 0, 0⟩ : XV) rfl) hvs (Nat.le_trans hX3.out.lt HNW.out.size) ?_; intro V5 w5 ho5 hg5 hn5; obtain ⟨A5, c5, hV5, -, -, -, -⟩ := ho5.form; obtain ⟨k5, hk5⟩ : ∃ k5, Hid ((vs2 ++ [(⟨0, sa, ma, ua, none, 0, 0⟩ : XV)]).length = k5) := ⟨_, Lib.hid rfl⟩; rw [hk5.out] at hV5; subst hV5; have hkz := hK3.out.up HNW.out (Nat.succ_pos _); have hsz := HNW.out.size; have HK5 := Lib.hid (KT.app hkz (Nat.lt_of_lt_of_le hX3.out.lt hsz) ho5 hg5 hn5 (atom_tin _ sa ma ua)); have hrow : ∀ g, (Value.slice A3 nn3 c3).ownBlock = some g → (gb + 1) ≤ g := (fun g hg => (own_lt hK3.out.own hg).1); have HX5 := Lib.hid (hX3.out.of ((hg5.block _ (Nat.lt_of_lt_of_le hX3.out.lt hsz) (fun e => hK3.out.apart _ e.symm rfl)).trans (HNW.out.block _ hX3.out.lt))); have HB5 := Lib.hid (hZ.out.trans (gB_own (gB_trans (gB_below HNW.out (Nat.le_refl _)) hg5) (fun g hg => by have h1 := hrow g hg; have h2 := HGB.out; omega) hZ.out.size)); clear ho5 hg5 hn5 hkz hsz xc xf xl; have xc := HX5.out.cell 4 rfl; have xf := HX5.out.fz; have xl := HX5.out.lt)
                  all_goals (
                    go_wp2
                    exact ⟨⟨q + 1, es2 ++ [Ex.nd 0 (sa, ma, ua) []], vs2 ++ [(⟨0, sa, ma, ua, none, 0, 0⟩ : XV)], A5, k5, c5, by omega, by go_num, hest, hin3, HK5.out.set 4 _, HX5.out.set 4 _, HB5.out.setCell (p := ⟨gb, 4, none⟩) (show WR.heap.size ≤ gb by have := HGB.out; omega) _⟩, by simp [intOf]; omega⟩)
            · have hqe : q = n1 := by omega
              have he2 : Hid (es2 = s.map (leafE L)) := Lib.hid (by rw [hes2.out, hqe, List.take_of_length_le (by rw [hn1.out]; exact Nat.le_refl _)])
              have hin4 : Hid (∀ i, i < j + 1 → ∀ v ∈ X.getD i [], 0 ≤ v ∧ v < (n : Int)) := Lib.hid (fun i hi => by
                by_cases e : i = j
                · subst e
                  rw [hs1.out]
                  have h := hin2.out
                  rw [hqe, List.take_of_length_le (by rw [hn1.out]; exact Nat.le_refl _)] at h
                  exact h
                · exact hin.out i (by omega))
              have hest : Hid (es ++ [frmG L s] = (X.take (j + 1)).map (frmG L)) := Lib.hid (by rw [take_snocD (d := []) hjl2, List.map_append, ← hes.out, List.map_singleton, hs1.out])
              obtain ⟨f1, f2, f3, f4⟩ := hK3.out.fin
              have HTz : Hid (TIn (fun k => Snc (w.heap.size + 2) wz k ∧ (Value.slice A2 nn2 c2).ownBlock ≠ some k ∧ k ≠ w.heap.size + 1) wz ⟨(n1 : Int), ⟨#[]⟩, 0, 0, A3, nn3, c3⟩ (frmG L s)) := Lib.hid (by
                refine ⟨⟨?_, f2, f3⟩, ?_⟩
                · unfold XV.ks Ex.ks frmG
                  show ((n1 : Int), _, nn3) = ((s.length : Int), _, (s.map (leafE L)).length)
                  rw [f1, he2.out, List.length_map, hn1.out]
                  rfl
                · have h := f4
                  rw [he2.out] at h
                  refine h.of (fun k hk => ⟨⟨by have h1 := hk.1.1; have h2 := HGB.out; have h3 := hB.out.size; have h4 := hE.out.lt; omega, hk.1.2⟩, fun e => ?_, fun e => ?_⟩) (fun _ _ _ => rfl) (Nat.le_refl _)
                  · have h1 := (own_lt hK.out.own e).2; have h2 := HGB.out; have h3 := hk.1.1; omega
                  · have h1 := hE.out.lt; have h2 := HGB.out; have h3 := hk.1.1; omega)
              have HKz := Lib.hid (hK.out.up hZ.out (Nat.succ_pos _))
              have HEz := Lib.hid (hE.out.up hZ.out hE.out.lt)
              have HLW : Hid (w.heap.size + 2 ≤ wz.heap.size) := Lib.hid HEz.out.lt
              have hvs : Hid (vs.length + 1 ≤ 1000000) := Lib.hid (by rw [hK.out.len, hes.out, List.length_map, List.length_take]; omega)
              have xc := HEz.out.cell 4 rfl
              have xf := HEz.out.fz
              have xl := HEz.out.lt
              have u0 := hX3.out.cell 0 rfl
              have u1 := hX3.out.cell 1 rfl
              have u2 := hX3.out.cell 2 rfl
              have u3 := hX3.out.cell 3 rfl
              have u4 := hX3.out.cell 4 rfl
              have uf := hX3.out.fz
              have ul := hX3.out.lt
              clear f1 f2 f3 f4
              go_wp2_with (at_builtin; (refine app_ex9 rfl (.tmp 71) (.tmp 73) rfl (w.heap.size + 2) (.slice A2 nn2 c2) vs _ [(⟨(n1 : Int), ⟨#[]⟩, 0, 0, A3, nn3, c3⟩ : XV)] 1 1 (Lib.hid rfl) (by simp [Act.eval, Act.put]) (by simp [Act.eval, Act.put]) (own_kept HKz.out.own (fun g hg => (newB wz _).block g (own_lt HKz.out.own hg).2)) (XRd.one_at _ _ (⟨(n1 : Int), ⟨#[]⟩, 0, 0, A3, nn3, c3⟩ : XV) rfl) hvs (Nat.le_trans HLW.out (newB wz _).size) ?_); intro V5 w5 ho5 hg5 hn5; obtain ⟨A5, c5, hV5, -, -, -, -⟩ := ho5.form; obtain ⟨k5, hk5⟩ : ∃ k5, Hid ((vs ++ [(⟨(n1 : Int), ⟨#[]⟩, 0, 0, A3, nn3, c3⟩ : XV)]).length = k5) := ⟨_, Lib.hid rfl⟩; rw [hk5.out] at hV5; subst hV5; have hnw := newB wz (.cells #[.int .i64 n1, .string ⟨#[]⟩, .int .i64 0, .int .i64 0, .slice A3 nn3 c3] 28); have hsz := hnw.size; have hkz := HKz.out.up hnw (Nat.succ_pos _); have htz := HTz.out.of (D' := fun k => Snc (w.heap.size + 2) (wz.alloc (.cells #[.int .i64 n1, .string ⟨#[]⟩, .int .i64 0, .int .i64 0, .slice A3 nn3 c3] 28)) k ∧ (Value.slice A2 nn2 c2).ownBlock ≠ some k ∧ k ≠ w.heap.size + 1) (fun k hk => ⟨⟨hk.1.1, Nat.lt_of_lt_of_le hk.1.2 hsz⟩, hk.2⟩) (fun k hk _ => hnw.block k hk.1.2) hsz; have HK5 := Lib.hid (KT.app hkz (Nat.lt_of_lt_of_le HEz.out.lt hsz) ho5 hg5 hn5 htz); have hrow : ∀ g, (Value.slice A2 nn2 c2).ownBlock = some g → (w.heap.size + 2) ≤ g := (fun g hg => (own_lt HKz.out.own hg).1); have HE5 := Lib.hid (HEz.out.of ((hg5.block _ (Nat.lt_of_lt_of_le HEz.out.lt hsz) (fun e => HKz.out.apart _ e.symm rfl)).trans (hnw.block _ HEz.out.lt))); have HR5 := Lib.hid (HRz.out.of ((hg5.block _ (Nat.lt_of_lt_of_le HRz.out.lt hsz) (fun e => by have h1 := hrow _ e.symm; omega)).trans (hnw.block _ HRz.out.lt))); have HB5 := Lib.hid ((nx hB.out hZ.out).trans (gB_own (gB_trans (gB_below hnw (Nat.le_refl _)) hg5) (fun g hg => by have h1 := hrow g hg; omega) (nx hB.out hZ.out).size)); clear ho5 hg5 hn5 hnw hkz htz hsz xc xf xl; have xc := HE5.out.cell 4 rfl; have xf := HE5.out.fz; have xl := HE5.out.lt)
              go_roundw
              case rel => exact ⟨j + 1, es ++ [frmG L s], vs ++ [(⟨(n1 : Int), ⟨#[]⟩, 0, 0, A3, nn3, c3⟩ : XV)], A5, k5, c5, by omega, by go_num, hest, hin4, HK5.out.set 4 _, HR5.out.of (block_set _ _ _ (by omega)), HE5.out.set 4 _, HB5.out.setCell (p := ⟨w.heap.size + 1, 4, none⟩) (show w.heap.size ≤ w.heap.size + 1 by omega) _⟩
              case measure => simp [intOf]; omega
      · have hjn : j = n' := by omega
        have hes2 : Hid (es = X.map (frmG L)) := Lib.hid (by rw [hes.out, hjn, List.take_of_length_le (by rw [hn'.out]; exact Nat.le_refl _)])
        have hinx : InX L.length X := inX_all (fun i hi v hv => by rw [hn.out]; exact hin.out i (by have := hn'.out; omega) v hv)
        have hrv : Hid (vexB (frm L X) = r) := Lib.hid (by
          rw [← hr.out, Bool.eq_iff_iff, vexB_iff, frmB_iff]
          exact ⟨fun h => ⟨hinx, h⟩, fun h => h.2⟩)
        obtain ⟨f1, f2, f3, f4⟩ := hK.out.fin
        have HTE : Hid (TIn (fun k => Snc (w.heap.size + 2) WR k) WR ⟨1, ⟨#[]⟩, 0, 0, A2, nn2, c2⟩ (frm L X)) := Lib.hid (by
          refine ⟨⟨?_, f2, f3⟩, ?_⟩
          · unfold XV.ks Ex.ks frm
            show ((1 : Int), _, nn2) = ((1 : Int), _, (X.map (frmG L)).length)
            rw [f1, hes2.out]
            rfl
          · have h := f4
            rw [hes2.out] at h
            exact h.of (fun k hk => hk.1) (fun _ _ _ => rfl) (Nat.le_refl _))
        have x0 := hE.out.cell 0 rfl
        have x1 := hE.out.cell 1 rfl
        have x2 := hE.out.cell 2 rfl
        have x3 := hE.out.cell 3 rfl
        have x4 := hE.out.cell 4 rfl
        clear f1 f2 f3 f4
        cases r with
        | false =>
          have hyz := hy.out
          rw [if_neg (by decide)] at hyz
          subst hyz
          go_wp2_with (go_at_call 21; refine (refValidExpr_is (e := frm L X) 1 ⟨#[]⟩ 0 0 A2 nn2 c2 _ (HTE.out.mono (fun k hk => hk.2)) hrv).mono ?_; rintro x W3 ⟨rfl, hb3⟩; have HR3 := Lib.hid (hR.out.up hb3 hR.out.lt); have r0 := HR3.out.cell 0 rfl; have r1 := HR3.out.cell 1 rfl; have r2 := HR3.out.cell 2 rfl; have r3 := HR3.out.cell 3 rfl; have r4 := HR3.out.cell 4 rfl; have rf := HR3.out.fz; have rl := HR3.out.lt; have HB3 := Lib.hid (nx hB.out hb3); clear hb3)
          refine bodyPost_ret (v := .tuple #[xe 0 ⟨#[]⟩ 0 0 none 0 0, .bool false]) (by simp [results, Tryz.results27, go_sem, r0, r1, r2, r3, r4, rf]) rfl ⟨⟨_, _, _, _, _, _, _, rfl, tin0 _ _⟩, HB3.out.trans (five_below _ w.heap.size _ _ _ _ _)⟩
        | true =>
          have hyz := hy.out
          rw [if_pos rfl] at hyz
          subst hyz
          go_wp2_with (go_at_call 21; refine (refValidExpr_is (e := frm L X) 1 ⟨#[]⟩ 0 0 A2 nn2 c2 _ (HTE.out.mono (fun k hk => hk.2)) hrv).mono ?_; rintro x W3 ⟨rfl, hb3⟩; have HR3 := Lib.hid (hR.out.up hb3 hR.out.lt); have HE3 := Lib.hid (hE.out.up hb3 hE.out.lt); clear x0 x1 x2 x3 x4; have x0 := HE3.out.cell 0 rfl; have x1 := HE3.out.cell 1 rfl; have x2 := HE3.out.cell 2 rfl; have x3 := HE3.out.cell 3 rfl; have x4 := HE3.out.cell 4 rfl; have r0 := HR3.out.cell 0 rfl; have r1 := HR3.out.cell 1 rfl; have r2 := HR3.out.cell 2 rfl; have r3 := HR3.out.cell 3 rfl; have r4 := HR3.out.cell 4 rfl; have rf := HR3.out.fz; have rl := HR3.out.lt; have HB3 := Lib.hid (nx hB.out hb3); have HT3 := Lib.hid (HTE.out.of (D' := fun k => Snc (w.heap.size + 2) W3 k) (fun k hk => ⟨hk.1, Nat.lt_of_lt_of_le hk.2 hb3.size⟩) (fun k hk _ => hb3.block k hk.2) hb3.size); clear hb3)
          refine bodyPost_ret (v := .tuple #[xe 1 ⟨#[]⟩ 0 0 A2 nn2 c2, .bool true]) (by simp [results, Tryz.results27, go_sem, r0, r1, r2, r3, r4, rf]) rfl ⟨⟨_, _, _, _, _, _, _, rfl, ?_⟩, HB3.out.trans (five_below _ w.heap.size _ _ _ _ _)⟩
          exact (TIn.fiveT (lo := 0) HT3.out (fun q hq => ⟨Nat.zero_le _, hq.2, fun e => by have h1 := hq.1; omega⟩) _ _ _ _ _).mono (fun q hq => hq.2)
end Go.Proofs.YtohjllnfnkajjaaGreat

namespace Go.Proofs.YtohjllnfnkajjaaGreat
open Go.RowKit
set_option linter.unusedVariables false
set_option linter.unusedSimpArgs false

set_option maxHeartbeats 2000000 in
set_option maxRecDepth 8000 in
theorem rmin_no {e : Ex} (k : Int) (s : ByteArray) (m u : Int) (A : Option Addr) (n c : Nat) (w : World) (hT : TIn (Lo w.heap.size) w ⟨k, s, m, u, A, n, c⟩ e) (hv : Hid (¬ Vex e)) :
    Calls Tryz.prog 28 #[xe k s m u A n c] w fun x w' => x = .returned (.slice none 0 0) ∧ Below w.heap.size w w' := by
  have HT0 := Lib.hid (hT.grow (.cells #[.int .i64 k, .string s, .int .i64 m, .int .i64 u, .slice A n c] 28))
  clear hT
  go_enter Tryz.func28, Tryz.ntmps28
  go_wp2_with (first | (go_at_call 13; refine (refAtoms_no (e := e) k s m u A n c _ HT0.out hv).mono ?_; rintro x W1 ⟨rfl, hb1⟩; have HB1 := Lib.hid (dn1 hb1); clear hb1))
  go_ret
  exact ⟨rfl, HB1.out⟩
/-- A list of sets. -/
def MnQ (f : List Bool → Bool) (N : Nat) (w : World) (x : Ending) (w' : World) : Prop := (∃ X A c, x = .returned (.slice A X.length c) ∧ MinOf f N X ∧ SRd w' A (ofN X) ∧ X.length ≤ c) ∧ Below w.heap.size w w'
set_option maxHeartbeats 2000000 in
set_option maxRecDepth 8000 in
theorem rBlk_yes {e : Ex} {L : List A3} (k : Int) (s : ByteArray) (m u : Int) (A : Option Addr) (n c : Nat) (w : World) (hT : TIn (Lo w.heap.size) w ⟨k, s, m, u, A, n, c⟩ e) (hL : Hid (VL e L)) :
    Calls Tryz.prog 10 #[xe k s m u A n c] w (MnQ (blkF e L) L.length w) := by
  have hr : Hid (vexB e = true) := vexB_iff.2 hL.out.1
  have HTR := Lib.hid hL.out.tr
  have HLD : Hid (VL (dual e) L) := Lib.hid hL.out.dual
  have hcn : Hid (e.cnt ≤ 1000) := by have := hL.out.1.2.1; show _ ≤ _; omega
  have HT0 := Lib.hid (hT.grow (.cells #[.int .i64 k, .string s, .int .i64 m, .int .i64 u, .slice A n c] 28))
  have HK0 := Lib.hid (Blk.new w [.int .i64 k, .string s, .int .i64 m, .int .i64 u, .slice A n c] 28 rfl)
  clear hT
  go_enter Tryz.func10, Tryz.ntmps10
  go_wp2_with (first
    | (go_at_call 21; refine (refValidExpr_is (e := e) k s m u A n c _ HT0.out hr).mono ?_; rintro x W1 ⟨rfl, hb1⟩; have HT1 := Lib.hid (HT0.out.up hb1); have hk1 := HK0.out.up hb1 (by simp); have x0 := hk1.cell 0 rfl; have x1 := hk1.cell 1 rfl; have x2 := hk1.cell 2 rfl; have x3 := hk1.cell 3 rfl; have x4 := hk1.cell 4 rfl; have HB1 := Lib.hid (dn1 hb1); clear hb1 hk1)
    | (go_at_call 34; refine (dual_all e HTR.out k s m u A n c W1 HT1 hcn).mono ?_; rintro x W2 ⟨⟨k', s', m', u', A', n', c', rfl, ht⟩, hb2⟩; have HT2 := Lib.hid (ht.mono (D' := Lo W2.heap.size) (fun q hq => hq.2)); have HB2 := Lib.hid (nx HB1.out hb2); clear hb2 ht)
    | (go_at_call 28; refine (rmin_yes (e := dual e) (L := L) k' s' m' u' A' n' c' _ HT2.out HLD).mono ?_; rintro x W3 ⟨⟨X, A3, c3, rfl, hm, hrd, hcc⟩, hb3⟩; have HM := Lib.hid (And.intro hm (And.intro hrd hcc)); have HB3 := Lib.hid (nx HB2.out hb3); clear hb3 hm hrd hcc))
  go_ret
  exact ⟨⟨X, A3, c3, rfl, (blk_dual hL.out).1 HM.out.1, HM.out.2.1, HM.out.2.2⟩, HB3.out⟩
set_option maxHeartbeats 2000000 in
set_option maxRecDepth 8000 in
theorem rBlk_no {e : Ex} (k : Int) (s : ByteArray) (m u : Int) (A : Option Addr) (n c : Nat) (w : World) (hT : TIn (Lo w.heap.size) w ⟨k, s, m, u, A, n, c⟩ e) (hv : Hid (¬ Vex e)) :
    Calls Tryz.prog 10 #[xe k s m u A n c] w fun x w' => x = .returned (.slice none 0 0) ∧ Below w.heap.size w w' := by
  have hr : Hid (vexB e = false) := vexB_no.2 hv.out
  have HT0 := Lib.hid (hT.grow (.cells #[.int .i64 k, .string s, .int .i64 m, .int .i64 u, .slice A n c] 28))
  clear hT
  go_enter Tryz.func10, Tryz.ntmps10
  go_wp2_with (first
    | (go_at_call 21; refine (refValidExpr_is (e := e) k s m u A n c _ HT0.out hr).mono ?_; rintro x W1 ⟨rfl, hb1⟩; have HB1 := Lib.hid (dn1 hb1); clear hb1))
  go_ret
  exact ⟨rfl, HB1.out⟩
set_option maxHeartbeats 4000000 in
set_option maxRecDepth 20000 in
/-- The first place of an atom, or -1. -/
theorem rindex_is (q : List A3) (A : Option Addr) (n c : Nat) (s : ByteArray) (m u : Int) (w : World) (hR : QRd w A q) (hn : Hid (q.length = n)) (hn8 : n ≤ 1000) (S : List Bool) :
    Calls Tryz.prog 75 #[.slice A n c, av s m u] w fun x w' => (∃ v : Int, x = .returned (.int .i64 v) ∧ ((v = -1 ∧ inS q S (s, m, u) = false) ∨ ∃ i : Nat, v = (i : Int) ∧ i < n ∧ inS q S (s, m, u) = S.getD i false)) ∧ Below w.heap.size w w' := by
  have HR := Lib.hid hR
  have HK1 := Lib.hid (Blk.new w [.string s, .int .i64 m, .int .i64 u] 25 rfl)
  have HB0 := Lib.hid (newB w (.cells #[.string s, .int .i64 m, .int .i64 u] 25))
  clear hR
  go_enter Tryz.func75, Tryz.ntmps75
  go_wp2
  go_loopw [5] (fun i wr => ∃ (j : Nat), j ≤ n ∧ i = .int .i64 j ∧ Hid (inS (q.drop j) (S.drop j) (s, m, u) = inS q S (s, m, u)) ∧ Hid (Below w.heap.size w wr) ∧ Hid (Blk wr w.heap.size [.string s, .int .i64 m, .int .i64 u])) (fun i _ => n - (intOf i).toNat)
  case atStart => exact ⟨0, by omega, rfl, rfl, HB0.out, HK1.out⟩
  case round =>
    obtain ⟨j, hj, rfl, hI, hB, hK⟩ := hrel
    have q1 := hK.out.cell 0 rfl
    have q2 := hK.out.cell 1 rfl
    have q3 := hK.out.cell 2 rfl
    by_cases hlt : (j : Int) < (n : Int)
    · have hjl : j < q.length := by have := hn.out; omega
      obtain ⟨g, o, s', m', u', rfl, hg, hx, c1, c2, c3⟩ := (HR.out.below hB.out).at_ (i := j) hjl
      have e5 : IntKind.i64.wrap ((j : Int) + 1) = (j : Int) + 1 := by rw [IntKind.wrap_i64]; omega
      have e0 : ∀ W, (binOp .eql 25 (av s' m' u') (av s m u)).run Tryz.prog W = .ok (.bool (eqS s' s && decide (m' = m ∧ u' = u))) W := fun W => eqAtom s' s m' u' m u W
      have hstep := inS_drop (S := S) (a := (s, m, u)) hjl
      rw [hx.out, hI.out] at hstep
      cases hq : (eqS s' s && decide (m' = m ∧ u' = u)) with
      | true =>
        rw [hq] at e0
        have hend : Hid (inS q S (s, m, u) = S.getD j false) := by show _ = _; rw [hstep, if_pos (eq_a3.1 hq)]
        clear hq hstep
        go_wp2
        go_quiet (fail)
        go_wp2
        go_ret
        exact ⟨⟨_, rfl, .inr ⟨j, rfl, by omega, hend.out⟩⟩, bdN hB.out _⟩
      | false =>
        rw [hq] at e0
        have hI2 : Hid (inS (q.drop (j + 1)) (S.drop (j + 1)) (s, m, u) = inS q S (s, m, u)) := by
          show _ = _
          rw [hstep, if_neg (fun e => by rw [eq_a3.2 e] at hq; cases hq)]
        clear hq hstep
        go_wp2
        go_quiet (fail)
        go_wp2
        go_roundw
        case rel => exact ⟨j + 1, by omega, by go_num, hI2, bdN hB.out _, hK.out.of rfl⟩
        case measure => simp [intOf]; omega
    · have hend : Hid (inS q S (s, m, u) = false) := by
        show _ = _
        rw [← hI.out, List.drop_eq_nil_of_le (by have := hn.out; omega), inS]
      go_wp2
      go_ret
      exact ⟨⟨_, rfl, .inl ⟨rfl, hend.out⟩⟩, hB.out⟩
end Go.Proofs.YtohjllnfnkajjaaGreat

namespace Go.Proofs.YtohjllnfnkajjaaGreat
open Go.RowKit
set_option linter.unusedVariables false
set_option linter.unusedSimpArgs false

set_option maxHeartbeats 4000000 in
set_option maxRecDepth 20000 in
theorem rimp_no {a b : Ex} (k : Int) (s : ByteArray) (m u : Int) (A : Option Addr) (n c : Nat) (k' : Int) (s' : ByteArray) (m' u' : Int) (A' : Option Addr) (n' c' : Nat) (w : World) (hT : TIn (Lo w.heap.size) w ⟨k, s, m, u, A, n, c⟩ a) (hT' : TIn (Lo w.heap.size) w ⟨k', s', m', u', A', n', c'⟩ b) (hno : Hid (vexB a = false ∨ vexB b = false)) :
    Calls Tryz.prog 42 #[xe k s m u A n c, xe k' s' m' u' A' n' c'] w fun x w' => x = .returned (.bool false) ∧ Below w.heap.size w w' := by
  have HTA := Lib.hid hT
  have HTB := Lib.hid hT'
  have HK0 := Lib.hid ((Blk.new w [.int .i64 k, .string s, .int .i64 m, .int .i64 u, .slice A n c] 28 rfl).grow (.cells #[.int .i64 k', .string s', .int .i64 m', .int .i64 u', .slice A' n' c'] 28))
  have HJ0 := Lib.hid (Blk.new (w.alloc (.cells #[.int .i64 k, .string s, .int .i64 m, .int .i64 u, .slice A n c] 28)) [.int .i64 k', .string s', .int .i64 m', .int .i64 u', .slice A' n' c'] 28 (g := w.heap.size + 1) (by simp))
  have HB0 := Lib.hid (new2 w (.cells #[.int .i64 k, .string s, .int .i64 m, .int .i64 u, .slice A n c] 28) (.cells #[.int .i64 k', .string s', .int .i64 m', .int .i64 u', .slice A' n' c'] 28))
  have HTA0 := Lib.hid (HTA.out.up HB0.out)
  have HTB0 := Lib.hid (HTB.out.up HB0.out)
  clear hT hT'
  obtain ⟨va, hva⟩ : ∃ v, Hid (vexB a = v) := ⟨_, Lib.hid rfl⟩
  obtain ⟨vb, hvb⟩ : ∃ v, Hid (vexB b = v) := ⟨_, Lib.hid rfl⟩
  have MK := Lib.hid trivial
  rw [hva.out, hvb.out] at hno
  go_enter Tryz.func42, Tryz.ntmps42
  cases va with
  | false =>
    go_wp2_with (first
      | (clear MK; go_at_call 37; refine (atoms_is (e := a) k s m u A n c _ HTA0.out hva).mono ?_; rintro x W1 ⟨⟨A1, n1, c1, rfl, -, -⟩, hb1⟩; have HB1 := Lib.hid (nx HB0.out hb1); have HTB1 := Lib.hid (HTB0.out.up hb1); have HJ1 := Lib.hid (HJ0.out.up hb1 (by simp)); have y0 := HJ1.out.cell 0 rfl; have y1 := HJ1.out.cell 1 rfl; have y2 := HJ1.out.cell 2 rfl; have y3 := HJ1.out.cell 3 rfl; have y4 := HJ1.out.cell 4 rfl; clear hb1)
      | (go_at_call 37; refine (atoms_is (e := b) k' s' m' u' A' n' c' _ HTB1.out hvb).mono ?_; rintro x W2 ⟨⟨A2, n2, c2, rfl, -, -⟩, hb2⟩; have HB2 := Lib.hid (nx HB1.out hb2); clear hb2))
    go_ret
    exact ⟨rfl, HB2.out⟩
  | true =>
    obtain rfl : vb = false := hno.out.resolve_left (by simp)
    go_wp2_with (first
      | (clear MK; go_at_call 37; refine (atoms_is (e := a) k s m u A n c _ HTA0.out hva).mono ?_; rintro x W1 ⟨⟨A1, n1, c1, rfl, -, -⟩, hb1⟩; have HB1 := Lib.hid (nx HB0.out hb1); have HTB1 := Lib.hid (HTB0.out.up hb1); have HJ1 := Lib.hid (HJ0.out.up hb1 (by simp)); have y0 := HJ1.out.cell 0 rfl; have y1 := HJ1.out.cell 1 rfl; have y2 := HJ1.out.cell 2 rfl; have y3 := HJ1.out.cell 3 rfl; have y4 := HJ1.out.cell 4 rfl; clear hb1)
      | (go_at_call 37; refine (atoms_is (e := b) k' s' m' u' A' n' c' _ HTB1.out hvb).mono ?_; rintro x W2 ⟨⟨A2, n2, c2, rfl, -, -⟩, hb2⟩; have HB2 := Lib.hid (nx HB1.out hb2); clear hb2))
    go_ret
    exact ⟨rfl, HB2.out⟩
/-- A set of the one's atoms, as the loop fills it. -/
theorem oth_fill (L M : List A3) (S : List Bool) : fillS M.length M.length (fun i => inS L S (M.getD i default)) = oth L S M := by
  rw [fillS_all]
  unfold oth
  refine List.ext_getElem (by simp) fun i h1 h2 => ?_
  have hi : i < M.length := by simpa using h1
  simp [List.getD_eq_getElem?_getD, List.getElem?_eq_getElem hi]
set_option maxHeartbeats 16000000 in
set_option maxRecDepth 100000 in
theorem rimp_yes {a b : Ex} {L M : List A3} (k : Int) (s : ByteArray) (m u : Int) (A : Option Addr) (n c : Nat) (k' : Int) (s' : ByteArray) (m' u' : Int) (A' : Option Addr) (n' c' : Nat) (w : World) (hT : TIn (Lo w.heap.size) w ⟨k, s, m, u, A, n, c⟩ a) (hT' : TIn (Lo w.heap.size) w ⟨k', s', m', u', A', n', c'⟩ b) (hL : Hid (VL a L)) (hM : Hid (VL b M)) {r : Bool} (hr : Hid (impB a b = r)) :
    Calls Tryz.prog 42 #[xe k s m u A n c, xe k' s' m' u' A' n' c'] w fun x w' => x = .returned (.bool r) ∧ Below w.heap.size w w' := by
  have HTA := Lib.hid hT
  have HTB := Lib.hid hT'
  have HK0 := Lib.hid ((Blk.new w [.int .i64 k, .string s, .int .i64 m, .int .i64 u, .slice A n c] 28 rfl).grow (.cells #[.int .i64 k', .string s', .int .i64 m', .int .i64 u', .slice A' n' c'] 28))
  have HJ0 := Lib.hid (Blk.new (w.alloc (.cells #[.int .i64 k, .string s, .int .i64 m, .int .i64 u, .slice A n c] 28)) [.int .i64 k', .string s', .int .i64 m', .int .i64 u', .slice A' n' c'] 28 (g := w.heap.size + 1) (by simp))
  have HB0 := Lib.hid (new2 w (.cells #[.int .i64 k, .string s, .int .i64 m, .int .i64 u, .slice A n c] 28) (.cells #[.int .i64 k', .string s', .int .i64 m', .int .i64 u', .slice A' n' c'] 28))
  have HTA0 := Lib.hid (HTA.out.up HB0.out)
  have HTB0 := Lib.hid (HTB.out.up HB0.out)
  clear hT hT'
  have hva : Hid (vexB a = true) := vexB_iff.2 hL.out.1
  have hvb : Hid (vexB b = true) := vexB_iff.2 hM.out.1
  obtain ⟨N, hN⟩ : ∃ N, Hid (L.length = N) := ⟨_, Lib.hid rfl⟩
  obtain ⟨N', hN'⟩ : ∃ N, Hid (M.length = N) := ⟨_, Lib.hid rfl⟩
  have hn8 : N ≤ 8 := by have h1 := hL.out.n8; have h2 := hN.out; omega
  have hn8' : N' ≤ 8 := by have h1 := hM.out.n8; have h2 := hN'.out; omega
  have e0 := pow_wrap N (by omega)
  have e00 := u64_wrap N (by omega)
  have hmk := make_bools N' (by omega)
  obtain ⟨P, hP⟩ : ∃ P, Hid (2 ^ N = P) := ⟨2 ^ N, Lib.hid rfl⟩
  have hP2 : P ≤ 256 := by have h := hP.out; have h2 := Nat.pow_le_pow_right (n := 2) (by omega) hn8; omega
  rw [hP.out] at e0
  have hall : Hid (r = true ↔ ∀ x, x < P → a.hld L (bitS N x) = true → b.hld M (oth L (bitS N x) M) = true) := Lib.hid (by
    rw [← hr.out, impB_iff, imp_bits hL.out hM.out, hN.out, hP.out]
    constructor
    · exact fun h => h.2.2
    · exact fun h => ⟨hL.out.1, hM.out.1, h⟩)
  have MK := Lib.hid trivial
  clear hr
  go_enter Tryz.func42, Tryz.ntmps42
  go_wp2_with (first
    | (clear MK; go_at_call 37; refine (atoms_is (e := a) k s m u A n c _ HTA0.out hva).mono ?_; rintro x W1 ⟨⟨A1, n1, c1, rfl, -, hy⟩, hb1⟩; obtain ⟨M1, hM1, hMl, hMr⟩ := hy rfl; have hML : M1 = L := (Option.some.inj (hM1.symm.trans hL.out.2)); subst hML; have hnn : n1 = N := hMl.symm.trans hN.out; subst hnn; have HQ1 := Lib.hid hMr; have HB1 := Lib.hid (nx HB0.out hb1); have HTB1 := Lib.hid (HTB0.out.up hb1); have HTA1 := Lib.hid (HTA0.out.up hb1); have HJ1 := Lib.hid (HJ0.out.up hb1 (by simp)); have HK1 := Lib.hid (HK0.out.up hb1 (by simp; omega)); have y0 := HJ1.out.cell 0 rfl; have y1 := HJ1.out.cell 1 rfl; have y2 := HJ1.out.cell 2 rfl; have y3 := HJ1.out.cell 3 rfl; have y4 := HJ1.out.cell 4 rfl; clear hb1 hy hM1 hMl hMr)
    | (go_at_call 37; refine (atoms_is (e := b) k' s' m' u' A' n' c' _ HTB1.out hvb).mono ?_; rintro x W2 ⟨⟨A2, n2, c2, rfl, -, hy⟩, hb2⟩; obtain ⟨M2, hM2, hMl2, hMr2⟩ := hy rfl; have hML2 : M2 = M := (Option.some.inj (hM2.symm.trans hM.out.2)); subst hML2; have hnn2 : n2 = N' := hMl2.symm.trans hN'.out; subst hnn2; have HQ2 := Lib.hid hMr2; have HQ1' := Lib.hid (HQ1.out.below hb2); have HB2 := Lib.hid (nx HB1.out hb2); have HTB2 := Lib.hid (HTB1.out.up hb2); have HTA2 := Lib.hid (HTA1.out.up hb2); have HJ2 := Lib.hid (HJ1.out.up hb2 HJ1.out.lt); have HK2 := Lib.hid (HK1.out.up hb2 HK1.out.lt); clear hb2 hy hM2 hMl2 hMr2))
  go_loopw [9] (fun i wr => ∃ (x : Nat), x ≤ P ∧ i = .int .i64 x ∧ Hid (∀ y, y < x → a.hld M1 (bitS n1 y) = true → b.hld M2 (oth M1 (bitS n1 y) M2) = true) ∧ Hid (Below W2.heap.size W2 wr)) (fun i _ => P - (intOf i).toNat)
  case atStart => exact ⟨0, by omega, rfl, (by show ∀ y, _; intro y hy; omega), Below.refl _ _⟩
  case round =>
    obtain ⟨x, hx, rfl, hG, hB⟩ := hrel
    obtain ⟨WR, hWR⟩ : ∃ W, W = wr := ⟨_, rfl⟩
    subst hWR
    by_cases hlt : (x : Int) < (P : Int)
    · have hx256 : x < 256 := by omega
      have e5 : IntKind.i64.wrap ((x : Int) + 1) = (x : Int) + 1 := by rw [IntKind.wrap_i64]; omega
      obtain ⟨φ, hφ⟩ : ∃ φ, Hid (a.hld M1 (bitS n1 x) = φ) := ⟨_, Lib.hid rfl⟩
      cases φ with
      | false =>
        have hG2 : Hid (∀ y, y < x + 1 → a.hld M1 (bitS n1 y) = true → b.hld M2 (oth M1 (bitS n1 y) M2) = true) := Lib.hid (fun y hy h => by
          by_cases e : y = x
          · subst e; rw [hφ.out] at h; cases h
          · exact hG.out y (by omega) h)
        go_wp2_with (first
          | (go_at_call 14; refine (rset_ex x n1 _ hx256 hn8).mono ?_; rintro z W3 ⟨⟨g3, rfl, hg3⟩, hb3⟩; have HS3 : Hid (SI W3 (bitS n1 x) (some ⟨g3, 0, none⟩) n1) := Lib.hid ⟨bitS_len _ _, hg3.br, by omega⟩; have HG3 := Lib.hid hg3; have HB3 : Hid (Below WR.heap.size WR W3) := Lib.hid hb3; have hk3 := HK2.out.up (nx hB.out hb3) HK2.out.lt; have z0 := hk3.cell 0 rfl; have z1 := hk3.cell 1 rfl; have z2 := hk3.cell 2 rfl; have z3 := hk3.cell 3 rfl; have z4 := hk3.cell 4 rfl; have HTA3 := Lib.hid (HTA2.out.up (nx hB.out hb3)); clear hb3 hk3)
          | (go_at_call 18; refine (refHolds_yes (e := a) (L := M1) (S := bitS n1 x) k s m u A n c _ n1 n1 _ HTA3.out HS3.out hL hφ).mono ?_; rintro z W4 ⟨rfl, hb4⟩; have HB4 := Lib.hid (nx HB3.out hb4); have HG4 := Lib.hid (HG3.out.up hb4 HG3.out.lt); clear hb4))
        go_roundw
        case rel => exact ⟨x + 1, by omega, by go_num, hG2, nx hB.out HB4.out⟩
        case measure => simp [intOf]; omega
      | true =>
        go_upto_block 2 with (first
          | (go_at_call 14; refine (rset_ex x n1 _ hx256 hn8).mono ?_; rintro z W3 ⟨⟨g3, rfl, hg3⟩, hb3⟩; have HS3 : Hid (SI W3 (bitS n1 x) (some ⟨g3, 0, none⟩) n1) := Lib.hid ⟨bitS_len _ _, hg3.br, by omega⟩; have HG3 := Lib.hid hg3; have HB3 : Hid (Below WR.heap.size WR W3) := Lib.hid hb3; have hk3 := HK2.out.up (nx hB.out hb3) HK2.out.lt; have z0 := hk3.cell 0 rfl; have z1 := hk3.cell 1 rfl; have z2 := hk3.cell 2 rfl; have z3 := hk3.cell 3 rfl; have z4 := hk3.cell 4 rfl; have HTA3 := Lib.hid (HTA2.out.up (nx hB.out hb3)); clear hb3 hk3)
          | (go_at_call 18; refine (refHolds_yes (e := a) (L := M1) (S := bitS n1 x) k s m u A n c _ n1 n1 _ HTA3.out HS3.out hL hφ).mono ?_; rintro z W4 ⟨rfl, hb4⟩; have HB4 := Lib.hid (nx HB3.out hb4); have HG4 := Lib.hid (HG3.out.up hb4 HG3.out.lt); clear hb4))
        have HG5 := Lib.hid (HG4.out.grow (.cells (bvs (List.replicate n2 false)).toArray 4))
        have HO5 := Lib.hid (Blk.new W4 (bvs (List.replicate n2 false)) 4 rfl)
        have HB5 := Lib.hid (nxA HB4.out (.cells (bvs (List.replicate n2 false)).toArray 4))
        have hne5 : g3 ≠ W4.heap.size := Nat.ne_of_lt HG4.out.lt
        have HNE := Lib.hid hne5
        have hge5 : WR.heap.size ≤ W4.heap.size := HB4.out.size
        have HGE := Lib.hid hge5
        obtain ⟨g5, hg5⟩ : ∃ g, W4.heap.size = g := ⟨_, rfl⟩
        rw [hg5] at HO5 HNE HGE ⊢
        generalize (W4.alloc (.cells (bvs (List.replicate n2 false)).toArray 4)) = W5 at HG5 HO5 HB5 ⊢
        clear hg5 hne5 hge5 HG3 HS3 HB3 HTA3 HG4 HB4
        have hlm : M2.length = n2 := hN'.out
        go_cut [] from 49 to 71 (fun wx => Blk wx g5 (bvs (oth M1 (bitS n1 x) M2)) ∧ Below WR.heap.size WR wx)
        case first =>
          go_wp2_with fail
          go_loopw [12] (fun i wz => ∃ (j : Nat), j ≤ n2 ∧ i = .int .i64 j ∧ Hid (Blk wz g5 (bvs (fillS n2 j (fun i => inS M1 (bitS n1 x) (M2.getD i default))))) ∧ Hid (Blk wz g3 (bvs (bitS n1 x))) ∧ Hid (Below WR.heap.size WR wz)) (fun i _ => n2 - (intOf i).toNat)
          case atStart => exact ⟨0, by omega, rfl, (by rw [fillS_zero]; exact HO5), HG5.out, HB5.out⟩
          case round =>
            obtain ⟨j, hj, rfl, hO, hG3, hBz⟩ := hrel
            by_cases hjl : (j : Int) < (n2 : Int)
            · have e6 : IntKind.i64.wrap ((j : Int) + 1) = (j : Int) + 1 := by rw [IntKind.wrap_i64]; omega
              obtain ⟨g, o, s1, m1, u1, rfl, hg, hxq, d1, d2, d3⟩ := (HQ2.out.below (nx hB.out hBz.out)).at_ (i := j) (by omega)
              go_upto_region 15 with (first
                | (go_at_call 75; refine (rindex_is M1 A1 n1 c1 s1 m1 u1 _ (HQ1'.out.below (nx hB.out hBz.out)) hN (by omega) (bitS n1 x)).mono ?_; rintro z W6 ⟨⟨v, rfl, hv⟩, hb6⟩; have HV := Lib.hid hv; have HO6 := Lib.hid (hO.out.up hb6 hO.out.lt); have HG6 := Lib.hid (hG3.out.up hb6 hG3.out.lt); have HB6 := Lib.hid (nx hBz.out hb6); clear hb6 hv))
              have hfs := fillS_step (n := n2) (j := j) (fun i => inS M1 (bitS n1 x) (M2.getD i default)) (by omega)
              simp only [hxq.out] at hfs
              have f5 := HO6.out.fz j
              have p5 := HO6.out.cell j (bvs_at (by rw [fillS_len]; omega))
              rcases HV.out with ⟨rfl, h0⟩ | ⟨i, rfl, hi, h0⟩
              · rw [h0] at hfs
                have HST := Lib.hid (show Blk (W6.setCell ⟨g5, j, none⟩ (.bool false)) g5 (bvs (fillS n2 (j + 1) (fun i => inS M1 (bitS n1 x) (M2.getD i default)))) by rw [← hfs]; exact HO6.out.bset j false)
                have HST3 := Lib.hid (HG6.out.of (block_set W6 j (.bool false) HNE.out))
                have HSTB := Lib.hid (HB6.out.setCell (p := ⟨g5, j, none⟩) HGE.out (.bool false))
                clear hfs h0 HV
                go_wp2_with fail
                go_roundw
                case rel => exact ⟨j + 1, by omega, by go_num, HST, HST3, HSTB⟩
                case measure => simp [intOf]; omega
              · obtain ⟨β, hβ⟩ : ∃ β, Hid ((bitS n1 x).getD i false = β) := ⟨_, Lib.hid rfl⟩
                rw [h0, hβ.out] at hfs
                have p3 := HG6.out.cell i (bvs_at (by rw [bitS_len]; exact hi))
                rw [hβ.out] at p3
                have k1' : (0 : Int) ≤ (i : Int) := by omega
                have k2' : (i : Int) < (n1 : Int) := by omega
                have HST := Lib.hid (show Blk (W6.setCell ⟨g5, j, none⟩ (.bool β)) g5 (bvs (fillS n2 (j + 1) (fun i => inS M1 (bitS n1 x) (M2.getD i default)))) by rw [← hfs]; exact HO6.out.bset j β)
                have HST3 := Lib.hid (HG6.out.of (block_set W6 j (.bool β) HNE.out))
                have HSTB := Lib.hid (HB6.out.setCell (p := ⟨g5, j, none⟩) HGE.out (.bool β))
                clear hfs h0 HV
                go_wp2_with fail
                go_roundw
                case rel => exact ⟨j + 1, by omega, by go_num, HST, HST3, HSTB⟩
                case measure => simp [intOf]; omega
            · have hje : j = n2 := by omega
              go_wp2_with fail
              go_meet
              refine ⟨?_, hBz.out⟩
              rw [← oth_fill, hlm]
              rw [hje] at hO
              exact hO.out
        case rest =>
          obtain ⟨hO, hBc⟩ := hcut
          have HSo : Hid (SI wc (oth M1 (bitS n1 x) M2) (some ⟨g5, 0, none⟩) n2) := Lib.hid ⟨by unfold oth; rw [List.length_map, hlm], hO.br, by omega⟩
          have HBC := Lib.hid hBc
          have hj2 := HJ2.out.up (nx hB.out hBc) HJ2.out.lt
          have t0 := hj2.cell 0 rfl
          have t1 := hj2.cell 1 rfl
          have t2 := hj2.cell 2 rfl
          have t3 := hj2.cell 3 rfl
          have t4 := hj2.cell 4 rfl
          have HTB3 := Lib.hid (HTB2.out.up (nx hB.out hBc))
          obtain ⟨ψ, hψ⟩ : ∃ ψ, Hid (b.hld M2 (oth M1 (bitS n1 x) M2) = ψ) := ⟨_, Lib.hid rfl⟩
          clear hj2 hO hBc
          cases ψ with
          | true =>
            have hG2 : Hid (∀ y, y < x + 1 → a.hld M1 (bitS n1 y) = true → b.hld M2 (oth M1 (bitS n1 y) M2) = true) := Lib.hid (fun y hy h => by
              by_cases e : y = x
              · subst e; exact hψ.out
              · exact hG.out y (by omega) h)
            go_wp2_with (go_at_call 18; refine (refHolds_yes (e := b) (L := M2) (S := oth M1 (bitS n1 x) M2) k' s' m' u' A' n' c' _ n2 n2 _ HTB3.out HSo.out hM hψ).mono ?_; rintro z W7 ⟨rfl, hb7⟩; have HB7 := Lib.hid (nx HBC.out hb7); clear hb7)
            go_roundw
            case rel => exact ⟨x + 1, by omega, by go_num, hG2, nx hB.out HB7.out⟩
            case measure => simp [intOf]; omega
          | false =>
            have hend : Hid (r = false) := Lib.hid (by
              cases r with
              | false => rfl
              | true => have h := hall.out.1 rfl x (by omega) hφ.out; rw [hψ.out] at h; cases h)
            go_wp2_with (go_at_call 18; refine (refHolds_yes (e := b) (L := M2) (S := oth M1 (bitS n1 x) M2) k' s' m' u' A' n' c' _ n2 n2 _ HTB3.out HSo.out hM hψ).mono ?_; rintro z W7 ⟨rfl, hb7⟩; have HB7 := Lib.hid (nx HBC.out hb7); clear hb7)
            go_ret
            exact ⟨ret_bool hend.out.symm, nx HB2.out (nx hB.out HB7.out)⟩
    · have hend : Hid (r = true) := Lib.hid (hall.out.2 (fun y hy => hG.out y (by omega)))
      go_wp2
      go_ret
      exact ⟨ret_bool hend.out.symm, nx HB2.out hB.out⟩
/-- Implies of whatever two expressions. -/
theorem rimp_is {a b : Ex} (k : Int) (s : ByteArray) (m u : Int) (A : Option Addr) (n c : Nat) (k' : Int) (s' : ByteArray) (m' u' : Int) (A' : Option Addr) (n' c' : Nat) (w : World) (hT : TIn (Lo w.heap.size) w ⟨k, s, m, u, A, n, c⟩ a) (hT' : TIn (Lo w.heap.size) w ⟨k', s', m', u', A', n', c'⟩ b) {r : Bool} (hr : Hid (impB a b = r)) :
    Calls Tryz.prog 42 #[xe k s m u A n c, xe k' s' m' u' A' n' c'] w fun x w' => x = .returned (.bool r) ∧ Below w.heap.size w w' := by
  cases ha : vexB a with
  | false =>
    have h0 : r = false := by rw [← hr.out, impB_no]; exact fun h => vexB_no.1 ha h.1
    subst h0
    exact rimp_no k s m u A n c k' s' m' u' A' n' c' w hT hT' (.inl ha)
  | true =>
    cases hb : vexB b with
    | false =>
      have h0 : r = false := by rw [← hr.out, impB_no]; exact fun h => vexB_no.1 hb h.2.1
      subst h0
      exact rimp_no k s m u A n c k' s' m' u' A' n' c' w hT hT' (.inr hb)
    | true =>
      obtain ⟨L, hL⟩ := VL.ex (vexB_iff.1 ha)
      obtain ⟨M, hM⟩ := VL.ex (vexB_iff.1 hb)
      exact rimp_yes k s m u A n c k' s' m' u' A' n' c' w hT hT' hL hM hr
set_option maxHeartbeats 4000000 in
set_option maxRecDepth 20000 in
theorem reqv_is {a b : Ex} (k : Int) (s : ByteArray) (m u : Int) (A : Option Addr) (n c : Nat) (k' : Int) (s' : ByteArray) (m' u' : Int) (A' : Option Addr) (n' c' : Nat) (w : World) (hT : TIn (Lo w.heap.size) w ⟨k, s, m, u, A, n, c⟩ a) (hT' : TIn (Lo w.heap.size) w ⟨k', s', m', u', A', n', c'⟩ b) {r : Bool} (hr : Hid ((impB a b && impB b a) = r)) :
    Calls Tryz.prog 22 #[xe k s m u A n c, xe k' s' m' u' A' n' c'] w fun x w' => x = .returned (.bool r) ∧ Below w.heap.size w w' := by
  have HTA := Lib.hid hT
  have HTB := Lib.hid hT'
  have HK0 := Lib.hid ((Blk.new w [.int .i64 k, .string s, .int .i64 m, .int .i64 u, .slice A n c] 28 rfl).grow (.cells #[.int .i64 k', .string s', .int .i64 m', .int .i64 u', .slice A' n' c'] 28))
  have HJ0 := Lib.hid (Blk.new (w.alloc (.cells #[.int .i64 k, .string s, .int .i64 m, .int .i64 u, .slice A n c] 28)) [.int .i64 k', .string s', .int .i64 m', .int .i64 u', .slice A' n' c'] 28 (g := w.heap.size + 1) (by simp))
  have HB0 := Lib.hid (new2 w (.cells #[.int .i64 k, .string s, .int .i64 m, .int .i64 u, .slice A n c] 28) (.cells #[.int .i64 k', .string s', .int .i64 m', .int .i64 u', .slice A' n' c'] 28))
  have HTA0 := Lib.hid (HTA.out.up HB0.out)
  have HTB0 := Lib.hid (HTB.out.up HB0.out)
  clear hT hT'
  obtain ⟨α, hα⟩ : ∃ v, Hid (impB a b = v) := ⟨_, Lib.hid rfl⟩
  obtain ⟨β, hβ⟩ : ∃ v, Hid (impB b a = v) := ⟨_, Lib.hid rfl⟩
  rw [hα.out, hβ.out] at hr
  have e0 := HK0.out.y5
  have e1 := HJ0.out.y5
  obtain ⟨a0, a1, a2, a3, a4⟩ := e0
  obtain ⟨b0, b1, b2, b3, b4⟩ := e1
  have MK := Lib.hid trivial
  go_enter Tryz.func22, Tryz.ntmps22
  cases α with
  | false =>
    have hend : Hid (r = false) := Lib.hid (by rw [← hr.out]; rfl)
    go_wp2_with (first
      | (clear MK; go_at_call 42; refine (rimp_is (a := a) (b := b) k s m u A n c k' s' m' u' A' n' c' _ HTA0.out HTB0.out hα).mono ?_; rintro x W1 ⟨rfl, hb1⟩; have HB1 := Lib.hid (nx HB0.out hb1); clear hb1))
    go_ret
    exact ⟨ret_bool hend.out.symm, HB1.out⟩
  | true =>
    have hend : Hid (r = β) := Lib.hid (by rw [← hr.out]; simp)
    go_wp2_with (first
      | (clear MK; go_at_call 42; refine (rimp_is (a := a) (b := b) k s m u A n c k' s' m' u' A' n' c' _ HTA0.out HTB0.out hα).mono ?_; rintro x W1 ⟨rfl, hb1⟩; have HB1 := Lib.hid (nx HB0.out hb1); have HTA1 := Lib.hid (HTA0.out.up hb1); have HTB1 := Lib.hid (HTB0.out.up hb1); have y0 := (HK0.out.up hb1 (by simp; omega)).y5; have y1 := (HJ0.out.up hb1 (by simp)).y5; obtain ⟨f0, f1, f2, f3, f4⟩ := y0; obtain ⟨h0, h1, h2, h3, h4⟩ := y1; clear hb1)
      | (go_at_call 42; refine (rimp_is (a := b) (b := a) k' s' m' u' A' n' c' k s m u A n c _ HTB1.out HTA1.out hβ).mono ?_; rintro x W2 ⟨rfl, hb2⟩; have HB2 := Lib.hid (nx HB1.out hb2); clear hb2))
    go_ret
    exact ⟨ret_bool hend.out.symm, HB2.out⟩
end Go.Proofs.YtohjllnfnkajjaaGreat
