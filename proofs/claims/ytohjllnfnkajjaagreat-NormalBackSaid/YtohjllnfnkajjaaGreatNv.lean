/- Contracts of the reference: SameExpr of whatever two expressions, Dual, Blocking. -/
import Derived.Test.YtohjllnfnkajjaaGreatQ5
import Derived.Deep.RegionWith
namespace Go.Proofs.YtohjllnfnkajjaaGreat
open Go.RowKit
set_option linter.unusedVariables false
set_option linter.unusedSimpArgs false

noncomputable def sameB (e f : Ex) : Bool := @decide (e = f) (Classical.propDecidable _)
theorem sameB_iff {e f : Ex} : sameB e f = true ↔ e = f := @decide_eq_true_iff _ (Classical.propDecidable _)
theorem sameB_no {e f : Ex} : sameB e f = false ↔ ¬ e = f := by rw [← sameB_iff, Bool.not_eq_true]
def SxOk (e : Ex) : Prop := ∀ (f : Ex) (k : Int) (s : ByteArray) (m u : Int) (A : Option Addr) (n c : Nat) (k' : Int) (s' : ByteArray) (m' u' : Int) (A' : Option Addr) (n' c' : Nat) (w : World) (r : Bool), Hid (TIn (Lo w.heap.size) w ⟨k, s, m, u, A, n, c⟩ e) → Hid (TIn (Lo w.heap.size) w ⟨k', s', m', u', A', n', c'⟩ f) → Hid (sameB e f = r) →
  Calls Tryz.prog 25 #[xe k s m u A n c, xe k' s' m' u' A' n' c'] w fun x w' => x = .returned (.bool r) ∧ Below w.heap.size w w'
theorem list_ext_D {l r : List Ex} (hn : l.length = r.length) (h : ∀ i, i < l.length → l.getD i default = r.getD i default) : l = r := by
  refine List.ext_getElem hn fun i h1 h2 => ?_
  have := h i h1
  rw [List.getD_eq_getElem?_getD, List.getD_eq_getElem?_getD, List.getElem?_eq_getElem h1, List.getElem?_eq_getElem h2] at this
  exact this
set_option maxHeartbeats 8000000 in
set_option maxRecDepth 100000 in
theorem sx_all : ∀ e : Ex, SxOk e := by
  refine Ex.ind fun ek ea l ih => ?_
  intro f k s m u A n c k' s' m' u' A' n' c' w r HT HT2 hr
  obtain ⟨fk, fa, fl⟩ := f
  obtain ⟨es_, em, eu⟩ := ea
  obtain ⟨fs_, fm, fu⟩ := fa
  obtain ⟨a1, a2, a3, a4, a5, a6, a7⟩ := ks_at HT.out.1
  obtain ⟨b1, b2, b3, b4, b5, b6, b7⟩ := ks_at HT2.out.1
  obtain rfl : k = ek := a1
  obtain rfl : s = es_ := a2
  obtain rfl : m = em := a3
  obtain rfl : u = eu := a4
  obtain rfl : k' = fk := b1
  obtain rfl : s' = fs_ := b2
  obtain rfl : m' = fm := b3
  obtain rfl : u' = fu := b4
  have hn : Hid (l.length = n) := a5.symm
  have hn' : Hid (fl.length = n') := b5.symm
  have hbig : n ≤ 9223372036854775807 := by
    have h1 : n ≤ c := a6
    have h2 : c ≤ maxLen := a7
    simp only [maxLen] at h2
    omega
  have HKR : Hid (KRd (Lo w.heap.size) w A l) := HT.out.2
  have HKR2 : Hid (KRd (Lo w.heap.size) w A' fl) := HT2.out.2
  have hne0 : ∀ W : World, (binOp .neq 25 (av s m u) (av s' m' u')).run Tryz.prog W = .ok (.bool (!(eqS s s' && decide (m = m' ∧ u = u')))) W := fun W => neAtom s s' m u m' u' W
  have hK1 := (Blk.new w [.int .i64 k, .string s, .int .i64 m, .int .i64 u, .slice A n c] 28 rfl).grow (.cells #[.int .i64 k', .string s', .int .i64 m', .int .i64 u', .slice A' n' c'] 28)
  have hK2 := Blk.new (w.alloc (.cells #[.int .i64 k, .string s, .int .i64 m, .int .i64 u, .slice A n c] 28)) [.int .i64 k', .string s', .int .i64 m', .int .i64 u', .slice A' n' c'] 28 (g := w.heap.size + 1) (by simp)
  have HK1 := Lib.hid hK1
  have HK2 := Lib.hid hK2
  have HB0 : Hid (Below w.heap.size w ((w.alloc (.cells #[.int .i64 k, .string s, .int .i64 m, .int .i64 u, .slice A n c] 28)).alloc (.cells #[.int .i64 k', .string s', .int .i64 m', .int .i64 u', .slice A' n' c'] 28))) := nx (newB w _) (newB _ _)
  clear a5 a6 a7 b5 b6 b7 hK1 hK2 HT HT2
  by_cases hk : k = k'
  · subst hk
    have t1 : (k != k) = false := by simp
    cases ha : (eqS s s' && decide (m = m' ∧ u = u')) with
    | false =>
      rw [ha] at hne0
      have hend : Hid (r = false) := by
        show _ = _
        rw [← hr.out, sameB_no]
        intro he
        injection he with _ h2 _
        rw [eq_a3.2 h2] at ha
        cases ha
      clear ha hr ih
      go_enter Tryz.func25, Tryz.ntmps25
      go_wp2
      go_ret
      exact ⟨ret_bool hend.out.symm, HB0.out⟩
    | true =>
      rw [ha] at hne0
      have hae : (s, m, u) = ((s', m', u') : A3) := eq_a3.1 ha
      simp only [Prod.mk.injEq] at hae
      obtain ⟨rfl, rfl, rfl⟩ := hae
      clear ha
      by_cases hnn : n = n'
      · subst hnn
        have t2 : ((n : Int) != (n : Int)) = false := by simp
        go_enter Tryz.func25, Tryz.ntmps25
        go_wp2
        go_loopw [5] (fun i wr => ∃ (j : Nat), j ≤ n ∧ i = .int .i64 j ∧ Hid (∀ i, i < j → l.getD i default = fl.getD i default) ∧ Hid (Below w.heap.size w wr) ∧ Hid (Blk wr w.heap.size [.int .i64 k, .string s, .int .i64 m, .int .i64 u, .slice A n c]) ∧ Hid (Blk wr (w.heap.size + 1) [.int .i64 k, .string s, .int .i64 m, .int .i64 u, .slice A' n c'])) (fun i _ => n - (intOf i).toNat)
        case atStart => exact ⟨0, by omega, rfl, (by show ∀ i, _; intro i hi; omega), HB0.out, HK1.out, HK2.out⟩
        case round =>
          obtain ⟨j, hj, rfl, hE, hB, hK, hJ⟩ := hrel
          have q4 := hK.out.cell 4 rfl
          have r4 := hJ.out.cell 4 rfl
          by_cases hlt : (j : Int) < (n : Int)
          · have hjl : j < l.length := by have := hn.out; omega
            have hjl2 : j < fl.length := by have := hn'.out; omega
            obtain ⟨g, o, ⟨k1, s1, m1, u1, A1, n1, c1⟩, rfl, hgb, hgs, ⟨z0, z1, z2, z3, z4⟩, hT1⟩ := (HKR.out.lo hB.out).at_ hjl
            obtain ⟨g', o', ⟨k2, s2, m2, u2, A2, n2, c2⟩, rfl, hgb', hgs', ⟨y0, y1, y2, y3, y4⟩, hT2⟩ := (HKR2.out.lo hB.out).at_ hjl2
            have e5 : IntKind.i64.wrap ((j : Int) + 1) = (j : Int) + 1 := by rw [IntKind.wrap_i64]; omega
            have IH := Lib.hid (ih _ (getD_memX hjl))
            obtain ⟨x, hx⟩ : ∃ x, Hid (l.getD j default = x) := ⟨_, rfl⟩
            obtain ⟨y, hy⟩ : ∃ y, Hid (fl.getD j default = y) := ⟨_, rfl⟩
            rw [hx.out] at IH hT1
            rw [hy.out] at hT2
            have HT1 : Hid (∀ W, Below wr.heap.size wr W → TIn (Lo W.heap.size) W ⟨k1, s1, m1, u1, A1, n1, c1⟩ x) := fun W hW => TIn.up (hT1.mono (fun b h => Nat.lt_of_lt_of_le h hB.out.size)) hW
            have HT2' : Hid (∀ W, Below wr.heap.size wr W → TIn (Lo W.heap.size) W ⟨k2, s2, m2, u2, A2, n2, c2⟩ y) := fun W hW => TIn.up (hT2.mono (fun b h => Nat.lt_of_lt_of_le h hB.out.size)) hW
            obtain ⟨β, hβ⟩ : ∃ β, Hid (sameB x y = β) := ⟨_, rfl⟩
            clear hT1 hT2
            cases β with
            | true =>
              have hE2 : Hid (∀ i, i < j + 1 → l.getD i default = fl.getD i default) := fun i hi => by
                by_cases e : i = j
                · subst e; rw [hx.out, hy.out]; exact sameB_iff.1 hβ.out
                · exact hE.out i (by omega)
              go_wp2_with fail
              go_region_with (go_at_call 25; refine (IH.out y k1 s1 m1 u1 A1 n1 c1 k2 s2 m2 u2 A2 n2 c2 _ true (Lib.hid (HT1.out _ (bdD (Below.refl _ _)))) (Lib.hid (HT2'.out _ (bdD (Below.refl _ _)))) hβ).mono ?_; rintro x W1 ⟨rfl, hb1⟩; have HB1 : Hid (Below wr.heap.size wr W1) := (bdD (Below.refl _ _)).trans hb1; clear hb1)
              all_goals (try go_wp2)
              all_goals exact ⟨⟨j + 1, by omega, by go_num, hE2, hB.out.trans (HB1.out.mono hB.out.size), hK.out.up HB1.out hK.out.lt, hJ.out.up HB1.out hJ.out.lt⟩, by simp [intOf]; omega⟩
            | false =>
              have hend : Hid (r = false) := by
                show _ = _
                rw [← hr.out, sameB_no]
                intro he
                injection he with _ _ h3
                subst h3
                rw [← hx.out, ← hy.out, sameB_no] at hβ
                exact hβ.out rfl
              go_wp2_with fail
              go_region_with (go_at_call 25; refine (IH.out y k1 s1 m1 u1 A1 n1 c1 k2 s2 m2 u2 A2 n2 c2 _ false (Lib.hid (HT1.out _ (bdD (Below.refl _ _)))) (Lib.hid (HT2'.out _ (bdD (Below.refl _ _)))) hβ).mono ?_; rintro x W1 ⟨rfl, hb1⟩; have HB1 : Hid (Below wr.heap.size wr W1) := (bdD (Below.refl _ _)).trans hb1; clear hb1)
              all_goals (go_wp2; go_ret; exact ⟨ret_bool hend.out.symm, hB.out.trans (HB1.out.mono hB.out.size)⟩)
          · have hend : Hid (r = true) := by
              show _ = _
              rw [← hr.out, sameB_iff, list_ext_D (by rw [hn.out, hn'.out]) (fun i hi => hE.out i (by have := hn.out; omega))]
            go_wp2
            go_ret
            exact ⟨ret_bool hend.out.symm, hB.out⟩
      · have t2 : ((n : Int) != (n' : Int)) = true := by rw [bne_iff_ne]; omega
        have hend : Hid (r = false) := by
          show _ = _
          rw [← hr.out, sameB_no]
          intro he
          injection he with _ _ h3
          exact hnn (by rw [← hn.out, ← hn'.out, h3])
        clear hr ih
        go_enter Tryz.func25, Tryz.ntmps25
        go_wp2
        go_ret
        exact ⟨ret_bool hend.out.symm, HB0.out⟩
  · have t1 : (k != k') = true := by rw [bne_iff_ne]; exact hk
    have hend : Hid (r = false) := by
      show _ = _
      rw [← hr.out, sameB_no]
      intro he
      injection he with h1 _ _
      exact hk h1
    clear hr ih hne0
    go_enter Tryz.func25, Tryz.ntmps25
    go_wp2
    go_ret
    exact ⟨ret_bool hend.out.symm, HB0.out⟩
/-- An expression that the call made, or any. -/
def ExQ9 (y : Ex) (w : World) (x : Ending) (w' : World) : Prop := (∃ k s m u A n c, x = .returned (xe k s m u A n c) ∧ TIn (Lo w'.heap.size) w' ⟨k, s, m, u, A, n, c⟩ y) ∧ Below w.heap.size w w'
theorem tin0 (D : Nat → Prop) (w : World) : TIn D w ⟨0, ⟨#[]⟩, 0, 0, none, 0, 0⟩ Ex.zero := ⟨⟨rfl, by decide, by decide⟩, .nil _⟩
end Go.Proofs.YtohjllnfnkajjaaGreat
