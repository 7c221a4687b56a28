/- Contracts of the program: what a node is; each; dual, Dual. Contracts of the program: equal (over slices.EqualFunc). Contracts of the program: opened, distinct (over slices.ContainsFunc with a closure). -/
import Derived.Test.YtohjllnfnkajjaaGreatQ7
namespace Go.Proofs.YtohjllnfnkajjaaGreat
open Go.RowKit
set_option linter.unusedVariables false
set_option linter.unusedSimpArgs false

theorem isAtom_is (k : Int) (s : ByteArray) (m u : Int) (A : Option Addr) (n c : Nat) (w : World) {β : Bool} (h : Hid ((k == 0) = β)) :
    Calls Tryz.prog 69 #[xe k s m u A n c] w fun x w' => x = .returned (.bool β) ∧ Below w.heap.size w w' := by
  go_enter Tryz.func69, Tryz.ntmps69
  go_wp2
  go_ret
  exact ⟨ret_bool h.out, newB _ _⟩
theorem needsOne_is (k : Int) (s : ByteArray) (m u : Int) (A : Option Addr) (n c : Nat) (w : World) {β : Bool} (h : Hid ((k == 1) = β)) :
    Calls Tryz.prog 71 #[xe k s m u A n c] w fun x w' => x = .returned (.bool β) ∧ Below w.heap.size w w' := by
  go_enter Tryz.func71, Tryz.ntmps71
  go_wp2
  go_ret
  exact ⟨ret_bool h.out, newB _ _⟩
theorem needsAll_is (k : Int) (s : ByteArray) (m u : Int) (A : Option Addr) (n c : Nat) (w : World) {β : Bool} (h : Hid ((!(k == 0) && (k == (n : Int))) = β)) :
    Calls Tryz.prog 74 #[xe k s m u A n c] w fun x w' => x = .returned (.bool β) ∧ Below w.heap.size w w' := by
  have HK := Lib.hid (Blk.new w [.int .i64 k, .string s, .int .i64 m, .int .i64 u, .slice A n c] 28 rfl)
  have HB := Lib.hid (newB w (.cells #[.int .i64 k, .string s, .int .i64 m, .int .i64 u, .slice A n c] 28))
  by_cases hk : k = 0
  · have hb : (k == 0) = true := by rw [beq_iff_eq]; exact hk
    have hend : Hid (β = false) := Lib.hid (by rw [← h.out, hb]; rfl)
    have HBB : Hid ((k == 0) = true) := hb
    clear hb hk h
    go_enter Tryz.func74, Tryz.ntmps74
    go_wp2_with (go_at_call 69; refine (isAtom_is k s m u A n c _ HBB).mono ?_; rintro x W1 ⟨rfl, hb1⟩; have HB1 := Lib.hid (nx HB.out hb1); have HK1 := Lib.hid (HK.out.up hb1 (by simp)); have x0 := HK1.out.cell 0 rfl; have x4 := HK1.out.cell 4 rfl; clear hb1)
    go_ret
    exact ⟨ret_bool hend.out.symm, HB1.out⟩
  · have hb : (k == 0) = false := by rw [beq_eq_false_iff_ne]; exact hk
    have hend : Hid ((k == (n : Int)) = β) := Lib.hid (by rw [← h.out, hb]; rfl)
    have HBB : Hid ((k == 0) = false) := hb
    clear hb hk h
    go_enter Tryz.func74, Tryz.ntmps74
    go_wp2_with (go_at_call 69; refine (isAtom_is k s m u A n c _ HBB).mono ?_; rintro x W1 ⟨rfl, hb1⟩; have HB1 := Lib.hid (nx HB.out hb1); have HK1 := Lib.hid (HK.out.up hb1 (by simp)); have x0 := HK1.out.cell 0 rfl; have x4 := HK1.out.cell 4 rfl; clear hb1)
    go_ret
    exact ⟨ret_bool hend.out, HB1.out⟩
/-- What each leaves: the kids in new blocks. -/
def EachQ (es : List Ex) (w : World) (x : Ending) (w' : World) : Prop := (∃ A n c, x = .returned (.slice A n c) ∧ n = es.length ∧ n ≤ c ∧ c ≤ maxLen ∧ KRd (Snc w.heap.size w') w' A es) ∧ Below w.heap.size w w'
/-- The function K makes f of an expression. -/
def Maker (K : Nat) (f : Ex → Ex) (e : Ex) : Prop := ∀ (k : Int) (s : ByteArray) (m u : Int) (A : Option Addr) (n c : Nat) (w : World), Hid (TIn (Lo w.heap.size) w ⟨k, s, m, u, A, n, c⟩ e) → Calls Tryz.prog K #[xe k s m u A n c] w (DuQ (f e) w)
set_option maxHeartbeats 4000000 in
set_option maxRecDepth 20000 in
theorem each_is (K : Nat) (f : Ex → Ex) (eK : ∀ args w, (callFunc K args).run Tryz.prog w = .ok (.enter K args) w) (l : List Ex) (A : Option Addr) (n c : Nat) (w : World) (HL : Hid (KRd (Lo w.heap.size) w A l)) (hn : Hid (l.length = n)) (hb : n ≤ 1000) (IH : Hid (∀ e ∈ l, Maker K f e)) :
    Calls Tryz.prog 70 #[.slice A n c, .func (.func K) #[] #[]] w (EachQ (l.map f) w) := by
  go_enter Tryz.func70, Tryz.ntmps70
  go_wp2
  go_loopw [5, 10] (fun v i wr => ∃ (j : Nat) (es : List Ex) (vs : List XV) (A2 : Option Addr) (nn2 c2 : Nat), j ≤ n ∧ i = .int .i64 j ∧ v = .slice A2 nn2 c2 ∧ Hid (es = (l.take j).map f) ∧ Hid (KT w.heap.size w.heap.size (.slice A2 nn2 c2) es vs wr) ∧ Hid (Below w.heap.size w wr)) (fun _ i _ => n - (intOf i).toNat)
  case atStart => exact ⟨0, [], [], none, 0, 0, by omega, rfl, rfl, Lib.hid (by simp), KT.nil _ _ _, Below.refl _ _⟩
  case round =>
    obtain ⟨j, es, vs, A2, nn2, c2, hj, rfl, rfl, hes, hK, hB⟩ := hrel
    obtain ⟨WR, hWR⟩ : ∃ W, W = wr := ⟨_, rfl⟩
    subst hWR
    by_cases hjl : (j : Int) < (n : Int)
    · have hjl2 : j < l.length := by have := hn.out; omega
      have e5 : IntKind.i64.wrap ((j : Int) + 1) = (j : Int) + 1 := by rw [IntKind.wrap_i64]; omega
      have hlen : es.length = j := by rw [hes.out, List.length_map, List.length_take]; omega
      have hvs : Hid (vs.length + 1 ≤ 1000000) := Lib.hid (by rw [hK.out.len, hlen]; omega)
      obtain ⟨g, o, ⟨k1, s1, m1, u1, A1, n1, c1⟩, rfl, hgb, hgs, ⟨z0, z1, z2, z3, z4⟩, hT1⟩ := (HL.out.lo hB.out).at_ hjl2
      have h0w : Hid (0 < w.heap.size) := Lib.hid (by have h1 : g < w.heap.size := hgb; omega)
      have HIH := Lib.hid (IH.out _ (getD_memX hjl2))
      obtain ⟨y, hy⟩ : ∃ y, Hid (f (l.getD j default) = y) := ⟨_, Lib.hid rfl⟩
      have hest : Hid (es ++ [y] = (l.take (j + 1)).map f) := Lib.hid (by rw [take_snocX hjl2, List.map_append, ← hes.out, ← hy.out]; rfl)
      have HNB := Lib.hid (newB WR (.cells #[.int .i64 k1, .string s1, .int .i64 m1, .int .i64 u1, .slice A1 n1 c1] 28))
      have HT1 : Hid (TIn (Lo (WR.alloc (.cells #[.int .i64 k1, .string s1, .int .i64 m1, .int .i64 u1, .slice A1 n1 c1] 28)).heap.size) (WR.alloc (.cells #[.int .i64 k1, .string s1, .int .i64 m1, .int .i64 u1, .slice A1 n1 c1] 28)) ⟨k1, s1, m1, u1, A1, n1, c1⟩ (l.getD j default)) := Lib.hid ((hT1.mono (D' := Lo WR.heap.size) (fun b h => Nat.lt_of_lt_of_le h hB.out.size)).up HNB.out)
      have HSZ : Hid ((WR.alloc (.cells #[.int .i64 k1, .string s1, .int .i64 m1, .int .i64 u1, .slice A1 n1 c1] 28)).heap.size = WR.heap.size + 1) := Lib.hid (by simp)
      clear hT1 hlen
      go_wp2_with (first
        | (go_at_fn K; refine (HIH.out k1 s1 m1 u1 A1 n1 c1 _ HT1).mono ?_; rintro e W8 ⟨⟨k', s', m', u', A', n', c', rfl, ht⟩, hb8⟩; rw [hy.out] at ht; have hb9 : Below WR.heap.size WR W8 := nx HNB.out hb8; have HB8 := Lib.hid hb9; have HK8 := Lib.hid (hK.out.up hb9 h0w.out); have HXL : Hid (w.heap.size < W8.heap.size) := Lib.hid (by have h1 := hb8.size; have h2 := hB.out.size; have h3 := HSZ.out; omega); have HY8 := Lib.hid (TIn.apart (lo := w.heap.size) (x := w.heap.size) (V := .slice A2 nn2 c2) ht (by have h2 := hB.out.size; have h3 := HSZ.out; omega) (by have h2 := hB.out.size; have h3 := HSZ.out; omega) (fun g hg => by have h1 := (own_lt hK.out.own hg).2; have h3 := HSZ.out; omega)); clear hb8 hb9 ht)
        | (at_builtin; (refine app_ex9 rfl (.tmp 14) (.tmp 18) rfl w.heap.size (.slice A2 nn2 c2) vs _ [⟨k', s', m', u', A', n', c'⟩] 1 1 (Lib.hid rfl) (by simp [Act.eval, Act.put]) (by simp [Act.eval, Act.put]) (own_kept HK8.out.own (fun g hg => (newB W8 _).block g (own_lt HK8.out.own hg).2)) (XRd.one_at _ _ ⟨k', s', m', u', A', n', c'⟩ rfl) hvs (Nat.le_trans (Nat.le_of_lt HXL.out) (newB W8 _).size) ?_); intro V5 w5 ho5 hg5 hn5; obtain ⟨A5, c5, hV5, -, -, -, -⟩ := ho5.form; obtain ⟨k5, hk5⟩ : ∃ k5, Hid ((vs ++ [(⟨k', s', m', u', A', n', c'⟩ : XV)]).length = k5) := ⟨_, Lib.hid rfl⟩; rw [hk5.out] at hV5; subst hV5; have hnw := newB W8 (.cells #[.int .i64 k', .string s', .int .i64 m', .int .i64 u', .slice A' n' c'] 28); have hkz := HK8.out.up hnw h0w.out; have htz := HY8.out.of (D' := fun k => Snc w.heap.size (W8.alloc (.cells #[.int .i64 k', .string s', .int .i64 m', .int .i64 u', .slice A' n' c'] 28)) k ∧ (Value.slice A2 nn2 c2).ownBlock ≠ some k ∧ k ≠ w.heap.size) (fun k hk => ⟨⟨hk.1.1, Nat.lt_of_lt_of_le hk.1.2 hnw.size⟩, hk.2⟩) (fun k hk _ => hnw.block k hk.1.2) hnw.size; have HK5 := Lib.hid (KT.app hkz (Nat.lt_of_lt_of_le HXL.out hnw.size) ho5 hg5 hn5 htz); have hrow : ∀ g, (Value.slice A2 nn2 c2).ownBlock = some g → w.heap.size ≤ g := (fun g hg => (own_lt HK8.out.own hg).1); have HB5 := Lib.hid ((nx hB.out HB8.out).trans (gB_own (gB_trans (gB_below hnw (Nat.le_refl _)) hg5) (fun g hg => hrow g hg) (nx hB.out HB8.out).size)); clear ho5 hg5 hn5 hnw hkz htz))
      go_roundw
      case rel => exact ⟨j + 1, es ++ [y], vs ++ [(⟨k', s', m', u', A', n', c'⟩ : XV)], A5, k5, c5, by omega, by go_num, rfl, hest, HK5.out, HB5.out⟩
      case measure => simp [intOf]; omega
    · have hjn : j = n := by omega
      have hes2 : Hid (es = l.map f) := Lib.hid (by have h := hes.out; rw [List.take_of_length_le (by rw [hn.out]; omega)] at h; exact h)
      go_wp2
      go_ret
      obtain ⟨f1, f2, f3, f4⟩ := hK.out.fin
      rw [← hes2.out]
      exact ⟨⟨_, _, _, rfl, f1, f2, f3, f4.of (fun k hk => hk.1) (fun _ _ _ => rfl) (Nat.le_refl _)⟩, hB.out⟩
end Go.Proofs.YtohjllnfnkajjaaGreat

namespace Go.Proofs.YtohjllnfnkajjaaGreat
open Go.RowKit
set_option linter.unusedVariables false
set_option linter.unusedSimpArgs false

noncomputable def sameBL (l r : List Ex) : Bool := @decide (l = r) (Classical.propDecidable _)
theorem sameBL_iff {l r : List Ex} : sameBL l r = true ↔ l = r := @decide_eq_true_iff _ (Classical.propDecidable _)
theorem sameBL_no {l r : List Ex} : sameBL l r = false ↔ ¬ l = r := by rw [← sameBL_iff, Bool.not_eq_true]
def EqOk (e : Ex) : Prop := ∀ (f : Ex) (k : Int) (s : ByteArray) (m u : Int) (A : Option Addr) (n c : Nat) (k' : Int) (s' : ByteArray) (m' u' : Int) (A' : Option Addr) (n' c' : Nat) (w : World) (r : Bool), Hid (TIn (Lo w.heap.size) w ⟨k, s, m, u, A, n, c⟩ e) → Hid (TIn (Lo w.heap.size) w ⟨k', s', m', u', A', n', c'⟩ f) → Hid (sameB e f = r) →
  Calls Tryz.prog 96 #[xe k s m u A n c, xe k' s' m' u' A' n' c'] w fun x w' => x = .returned (.bool r) ∧ Below w.heap.size w w'
set_option maxHeartbeats 4000000 in
set_option maxRecDepth 20000 in
theorem eqf_is (l l' : List Ex) (A : Option Addr) (n c : Nat) (A' : Option Addr) (n' c' : Nat) (w : World) (HL : Hid (KRd (Lo w.heap.size) w A l)) (HL' : Hid (KRd (Lo w.heap.size) w A' l')) (hn : Hid (l.length = n)) (hn' : Hid (l'.length = n')) (hbig : n ≤ 9223372036854775807) (IH : Hid (∀ e ∈ l, EqOk e)) (r : Bool) (hr : Hid (sameBL l l' = r)) :
    Calls Tryz.prog 120 #[.slice A n c, .slice A' n' c', .func (.func 96) #[] #[]] w fun x w' => x = .returned (.bool r) ∧ Below w.heap.size w w' := by
  by_cases hnn : n = n'
  · subst hnn
    have t2 : ((n : Int) != (n : Int)) = false := by simp
    go_enter Tryz.func120, Tryz.ntmps120
    go_wp2
    go_loopw [17] (fun i wr => ∃ (j : Nat), j ≤ n ∧ i = .int .i64 j ∧ Hid (∀ i, i < j → l.getD i default = l'.getD i default) ∧ Hid (Below w.heap.size w wr)) (fun i _ => n - (intOf i).toNat)
    case atStart => exact ⟨0, by omega, rfl, Lib.hid (fun i hi => absurd hi (Nat.not_lt_zero i)), Below.refl _ _⟩
    case round =>
      obtain ⟨j, hj, rfl, hE, hB⟩ := hrel
      obtain ⟨WR, hWR⟩ : ∃ W, W = wr := ⟨_, rfl⟩
      subst hWR
      by_cases hlt : (j : Int) < (n : Int)
      · have hjl : j < l.length := by have := hn.out; omega
        have hjl2 : j < l'.length := by have := hn'.out; omega
        obtain ⟨g, o, ⟨k1, s1, m1, u1, A1, n1, c1⟩, rfl, hgb, hgs, ⟨z0, z1, z2, z3, z4⟩, hT1⟩ := (HL.out.lo hB.out).at_ hjl
        obtain ⟨g', o', ⟨k2, s2, m2, u2, A2, n2, c2⟩, rfl, hgb', hgs', ⟨y0, y1, y2, y3, y4⟩, hT2⟩ := (HL'.out.lo hB.out).at_ hjl2
        have e5 : IntKind.i64.wrap ((j : Int) + 1) = (j : Int) + 1 := by rw [IntKind.wrap_i64]; omega
        have HIH := Lib.hid (IH.out _ (getD_memX hjl))
        obtain ⟨x, hx⟩ : ∃ x, Hid (l.getD j default = x) := ⟨_, rfl⟩
        obtain ⟨y, hy⟩ : ∃ y, Hid (l'.getD j default = y) := ⟨_, rfl⟩
        rw [hx.out] at HIH hT1
        rw [hy.out] at hT2
        have HNB := Lib.hid (new2 WR (.cells #[.int .i64 k1, .string s1, .int .i64 m1, .int .i64 u1, .slice A1 n1 c1] 28) (.cells #[.int .i64 k2, .string s2, .int .i64 m2, .int .i64 u2, .slice A2 n2 c2] 28))
        have HT1 := Lib.hid ((hT1.mono (D' := Lo WR.heap.size) (fun b h => Nat.lt_of_lt_of_le h hB.out.size)).up HNB.out)
        have HT2 := Lib.hid ((hT2.mono (D' := Lo WR.heap.size) (fun b h => Nat.lt_of_lt_of_le h hB.out.size)).up HNB.out)
        obtain ⟨β, hβ⟩ : ∃ β, Hid (sameB x y = β) := ⟨_, rfl⟩
        clear hT1 hT2
        cases β with
        | true =>
          have hE2 : Hid (∀ i, i < j + 1 → l.getD i default = l'.getD i default) := fun i hi => by
            by_cases e : i = j
            · subst e; rw [hx.out, hy.out]; exact sameB_iff.1 hβ.out
            · exact hE.out i (by omega)
          go_wp2_with (go_at_call 96; refine (HIH.out y k1 s1 m1 u1 A1 n1 c1 k2 s2 m2 u2 A2 n2 c2 _ true HT1 HT2 hβ).mono ?_; rintro x W1 ⟨rfl, hb1⟩; have HB1 := Lib.hid (nx hB.out (nx HNB.out hb1)); clear hb1)
          go_roundw
          case rel => exact ⟨j + 1, by omega, by go_num, hE2, HB1.out⟩
          case measure => simp [intOf]; omega
        | false =>
          have hend : Hid (r = false) := by
            show _ = _
            rw [← hr.out, sameBL_no]
            intro he
            subst he
            rw [← hx.out, ← hy.out, sameB_no] at hβ
            exact hβ.out rfl
          go_wp2_with (go_at_call 96; refine (HIH.out y k1 s1 m1 u1 A1 n1 c1 k2 s2 m2 u2 A2 n2 c2 _ false HT1 HT2 hβ).mono ?_; rintro x W1 ⟨rfl, hb1⟩; have HB1 := Lib.hid (nx hB.out (nx HNB.out hb1)); clear hb1)
          go_ret
          exact ⟨ret_bool hend.out.symm, HB1.out⟩
      · have hend : Hid (r = true) := by
          show _ = _
          rw [← hr.out, sameBL_iff, list_ext_D (by rw [hn.out, hn'.out]) (fun i hi => hE.out i (by have := hn.out; omega))]
        go_wp2
        go_ret
        exact ⟨ret_bool hend.out.symm, hB.out⟩
  · have t2 : ((n : Int) != (n' : Int)) = true := by rw [bne_iff_ne]; omega
    have hend : Hid (r = false) := by
      show _ = _
      rw [← hr.out, sameBL_no]
      intro he
      subst he
      exact hnn (by rw [← hn.out, hn'.out])
    clear hnn
    go_enter Tryz.func120, Tryz.ntmps120
    go_wp2
    go_ret
    exact ⟨ret_bool hend.out.symm, Below.refl _ _⟩
set_option maxHeartbeats 4000000 in
set_option maxRecDepth 20000 in
theorem eq_all : ∀ e : Ex, EqOk e := by
  refine Ex.ind fun ek ea l ih => ?_
  intro f k s m u A n c k' s' m' u' A' n' c' w r HT HT2 hr
  obtain ⟨fk, fa, fl⟩ := f
  obtain ⟨es_, em, eu⟩ := ea
  obtain ⟨fs_, fm, fu⟩ := fa
  obtain ⟨a1, a2, a3, a4, a5, a6, a7⟩ := ks_at HT.out.1
  obtain ⟨b1, b2, b3, b4, b5, b6, b7⟩ := ks_at HT2.out.1
  obtain rfl : k = ek := a1
  obtain rfl : s = es_ := a2
  obtain rfl : m = em := a3
  obtain rfl : u = eu := a4
  obtain rfl : k' = fk := b1
  obtain rfl : s' = fs_ := b2
  obtain rfl : m' = fm := b3
  obtain rfl : u' = fu := b4
  have hn : Hid (l.length = n) := a5.symm
  have hn' : Hid (fl.length = n') := b5.symm
  have hbig : n ≤ 9223372036854775807 := by
    have h1 : n ≤ c := a6
    have h2 : c ≤ maxLen := a7
    simp only [maxLen] at h2
    omega
  have HKR : Hid (KRd (Lo w.heap.size) w A l) := HT.out.2
  have HKR2 : Hid (KRd (Lo w.heap.size) w A' fl) := HT2.out.2
  have hne0 : ∀ W : World, (binOp .eql 25 (av s m u) (av s' m' u')).run Tryz.prog W = .ok (.bool (eqS s s' && decide (m = m' ∧ u = u'))) W := fun W => eqAtom s s' m u m' u' W
  have HB0 : Hid (Below w.heap.size w ((w.alloc (.cells #[.int .i64 k, .string s, .int .i64 m, .int .i64 u, .slice A n c] 28)).alloc (.cells #[.int .i64 k', .string s', .int .i64 m', .int .i64 u', .slice A' n' c'] 28))) := nx (newB w _) (newB _ _)
  have HKR0 : Hid (KRd (Lo ((w.alloc (.cells #[.int .i64 k, .string s, .int .i64 m, .int .i64 u, .slice A n c] 28)).alloc (.cells #[.int .i64 k', .string s', .int .i64 m', .int .i64 u', .slice A' n' c'] 28)).heap.size) ((w.alloc (.cells #[.int .i64 k, .string s, .int .i64 m, .int .i64 u, .slice A n c] 28)).alloc (.cells #[.int .i64 k', .string s', .int .i64 m', .int .i64 u', .slice A' n' c'] 28)) A l) := Lib.hid ((HKR.out.lo HB0.out).of (fun b h => Nat.lt_of_lt_of_le h HB0.out.size) (fun _ _ _ => rfl) (Nat.le_refl _))
  have HKR20 : Hid (KRd (Lo ((w.alloc (.cells #[.int .i64 k, .string s, .int .i64 m, .int .i64 u, .slice A n c] 28)).alloc (.cells #[.int .i64 k', .string s', .int .i64 m', .int .i64 u', .slice A' n' c'] 28)).heap.size) ((w.alloc (.cells #[.int .i64 k, .string s, .int .i64 m, .int .i64 u, .slice A n c] 28)).alloc (.cells #[.int .i64 k', .string s', .int .i64 m', .int .i64 u', .slice A' n' c'] 28)) A' fl) := Lib.hid ((HKR2.out.lo HB0.out).of (fun b h => Nat.lt_of_lt_of_le h HB0.out.size) (fun _ _ _ => rfl) (Nat.le_refl _))
  have hIH : Hid (∀ e ∈ l, EqOk e) := Lib.hid ih
  clear a5 a6 a7 b5 b6 b7 HT HT2 ih HKR HKR2
  by_cases hk : k = k'
  · subst hk
    have t1 : (k == k) = true := by simp
    cases ha : (eqS s s' && decide (m = m' ∧ u = u')) with
    | false =>
      rw [ha] at hne0
      have hend : Hid (r = false) := by
        show _ = _
        rw [← hr.out, sameB_no]
        intro he
        injection he with _ h2 _
        rw [eq_a3.2 h2] at ha
        cases ha
      clear ha hr
      go_enter Tryz.func96, Tryz.ntmps96
      go_wp2
      go_ret
      exact ⟨ret_bool hend.out.symm, HB0.out⟩
    | true =>
      rw [ha] at hne0
      have hae : (s, m, u) = ((s', m', u') : A3) := eq_a3.1 ha
      simp only [Prod.mk.injEq] at hae
      obtain ⟨rfl, rfl, rfl⟩ := hae
      have hr2 : Hid (sameBL l fl = r) := Lib.hid (by
        rw [← hr.out, Bool.eq_iff_iff, sameBL_iff, sameB_iff]
        constructor
        · rintro rfl; rfl
        · intro he; injection he)
      clear ha hr
      go_enter Tryz.func96, Tryz.ntmps96
      go_wp2_with (go_at_call 120; refine (eqf_is l fl A n c A' n' c' _ HKR0 HKR20 hn hn' hbig hIH r hr2).mono ?_; rintro x W1 ⟨rfl, hb1⟩; have HB1 := Lib.hid (nx HB0.out hb1); clear hb1)
      go_ret
      exact ⟨rfl, HB1.out⟩
  · have t1 : (k == k') = false := by rw [beq_eq_false_iff_ne]; exact hk
    have hend : Hid (r = false) := by
      show _ = _
      rw [← hr.out, sameB_no]
      intro he
      injection he with h1 _ _
      exact hk h1
    clear hr hk hne0
    go_enter Tryz.func96, Tryz.ntmps96
    go_wp2
    go_ret
    exact ⟨ret_bool hend.out.symm, HB0.out⟩
end Go.Proofs.YtohjllnfnkajjaaGreat

namespace Go.Proofs.YtohjllnfnkajjaaGreat
open Go.RowKit
set_option linter.unusedVariables false
set_option linter.unusedSimpArgs false

/-! ### A row of the call's own whose trees are older -/
structure KD (D : Nat → Prop) (lo : Nat) (V : Value) (es : List Ex) (vs : List XV) (w : World) : Prop where
  own : OwnX w lo V vs
  len : vs.length = es.length
  tree : ∀ i, i < es.length → TIn D w (vs.getD i default) (es.getD i default)
theorem KD.nil (D : Nat → Prop) (lo : Nat) (w : World) : KD D lo (.slice none 0 0) [] [] w := ⟨World.ownsRow_nil w lo _ 5, rfl, fun i hi => by simp at hi⟩
theorem KD.up {D : Nat → Prop} {lo : Nat} {V : Value} {es : List Ex} {vs : List XV} {w w' : World} (h : KD D lo V es vs w) (hb : Below w.heap.size w w') : KD D lo V es vs w' :=
  ⟨own_kept h.own (fun g hg => hb.block g (own_lt h.own hg).2), h.len, fun i hi => (h.tree i hi).of (fun _ h => h) (fun k _ hk => hb.block k hk) hb.size⟩
theorem KD.app {D : Nat → Prop} {lo : Nat} {V V' : Value} {es ys : List Ex} {vs us : List XV} {w w' : World} (h : KD D lo V es vs w) (hD : ∀ k, D k → k < lo) (ho : OwnX w' lo V' (vs ++ us)) (hg : w.grownBy w' V.ownBlock)
    (hu : us.length = ys.length) (ht : ∀ i, i < ys.length → TIn D w (us.getD i default) (ys.getD i default)) : KD D lo V' (es ++ ys) (vs ++ us) w' := by
  have tr : ∀ {u : XV} {y : Ex}, TIn D w u y → TIn D w' u y := fun hu =>
    hu.of (fun _ h => h) (fun k h1 h2 => hg.block k h2 (fun e => by have h3 := (own_lt h.own e.symm).1; have h4 := hD k h1; omega)) hg.size
  refine ⟨ho, by rw [List.length_append, List.length_append, h.len, hu], fun i hi => ?_⟩
  rcases Nat.lt_or_ge i es.length with h1 | h1
  · have e1 : (vs ++ us).getD i default = vs.getD i default := by simp [List.getD_eq_getElem?_getD, List.getElem?_append_left (show i < vs.length by rw [h.len]; exact h1)]
    have e2 : (es ++ ys).getD i default = es.getD i default := by simp [List.getD_eq_getElem?_getD, List.getElem?_append_left h1]
    rw [e1, e2]
    exact tr (h.tree i h1)
  · have hi2 : i - es.length < ys.length := by rw [List.length_append] at hi; omega
    have e1 : (vs ++ us).getD i default = us.getD (i - es.length) default := by simp [List.getD_eq_getElem?_getD, List.getElem?_append_right (show vs.length ≤ i by rw [h.len]; exact h1), h.len]
    have e2 : (es ++ ys).getD i default = ys.getD (i - es.length) default := by simp [List.getD_eq_getElem?_getD, List.getElem?_append_right h1]
    rw [e1, e2]
    exact tr (ht _ hi2)
theorem KD.app1 {D : Nat → Prop} {lo : Nat} {V V' : Value} {es : List Ex} {y : Ex} {vs : List XV} {v : XV} {w w' : World} (h : KD D lo V es vs w) (hD : ∀ k, D k → k < lo) (ho : OwnX w' lo V' (vs ++ [v])) (hg : w.grownBy w' V.ownBlock) (ht : TIn D w v y) : KD D lo V' (es ++ [y]) (vs ++ [v]) w' :=
  h.app hD ho hg (ys := [y]) rfl (fun i hi => by
    obtain rfl : i = 0 := by simpa using hi
    exact ht)
theorem KD.fin {D : Nat → Prop} {lo : Nat} {es : List Ex} {vs : List XV} {w : World} {A : Option Addr} {n c : Nat} (h : KD D lo (.slice A n c) es vs w) : n = es.length ∧ n ≤ c ∧ c ≤ maxLen ∧ KRd (fun k => D k ∨ Snc lo w k) w A es := by
  obtain ⟨A', c', hV, hfit, hm, hrd, hg⟩ := h.own.form
  obtain ⟨rfl, rfl, rfl⟩ : A = A' ∧ n = vs.length ∧ c = c' := by simpa using hV
  refine ⟨h.len, hfit, hm, ?_⟩
  cases hes : es with
  | nil => exact .nil _
  | cons e0 r0 =>
    have h0 : 0 < vs.length := by rw [h.len, hes]; simp
    obtain ⟨g, rfl, hlo, hlt⟩ := hg h0
    obtain ⟨b', o', hA, hlt', hz⟩ := hrd (by intro e; rw [e] at h0; simp at h0)
    obtain ⟨rfl, rfl⟩ : g = b' ∧ 0 = o' := by simpa using hA
    rw [← hes]
    exact .row g 0 es vs (.inr ⟨hlo, hlt⟩) hlt h.len (fun i hi => hz i (by rw [h.len]; exact hi)) (fun i hi => (h.tree i hi).1) (fun i hi => ((h.tree i hi).mono (fun k hk => .inl hk)).2)
/-- What opened and distinct leave. -/
def RowQ (D : Nat → Prop) (es : List Ex) (w : World) (x : Ending) (w' : World) : Prop := (∃ A n c, x = .returned (.slice A n c) ∧ n = es.length ∧ n ≤ c ∧ c ≤ maxLen ∧ KRd (fun k => D k ∨ Snc w.heap.size w' k) w' A es) ∧ Below w.heap.size w w'
theorem cntL_takes (l : List Ex) (j : Nat) : cntL (l.take j) ≤ cntL l := by
  have h := cntL_append (l.take j) (l.drop j)
  rw [List.take_append_drop] at h
  omega
theorem flt_takes (one all : Bool) (l : List Ex) (j : Nat) : (flt one all (l.take j)).length ≤ cntL l := by
  have h1 := flt_cnt one all (l.take j)
  have h2 := cntL_len (flt one all (l.take j))
  have h3 := cntL_takes l j
  omega
/-- The function K says which kids are merged. -/
def Merger (K : Nat) (one all : Bool) : Prop := ∀ (y : Ex) (k : Int) (s : ByteArray) (m u : Int) (A : Option Addr) (n c : Nat) (w : World), ShV ⟨k, s, m, u, A, n, c⟩ y → Calls Tryz.prog K #[xe k s m u A n c] w fun x w' => x = .returned (.bool (mrg one all y)) ∧ Below w.heap.size w w'
set_option maxHeartbeats 4000000 in
set_option maxRecDepth 20000 in
theorem opened_is (K : Nat) (one all : Bool) (eK : ∀ args w, (callFunc K args).run Tryz.prog w = .ok (.enter K args) w) (HK : Hid (Merger K one all)) (D : Nat → Prop) (l : List Ex) (A : Option Addr) (n c : Nat) (w : World) (hD : ∀ k, D k → k < w.heap.size) (HL : Hid (KRd D w A l)) (hn : Hid (l.length = n)) (hb : Hid (cntL l ≤ 1000)) :
    Calls Tryz.prog 73 #[.slice A n c, .func (.func K) #[] #[]] w (RowQ D (flt one all l) w) := by
  have HD := Lib.hid hD
  have hn1 : n ≤ 1000 := by have h1 := cntL_len l; have h2 := hn.out; have h3 := hb.out; omega
  clear hD
  go_enter Tryz.func73, Tryz.ntmps73
  go_wp2
  go_loopw [5, 10] (fun v i wr => ∃ (j : Nat) (es : List Ex) (vs : List XV) (A2 : Option Addr) (nn2 c2 : Nat), j ≤ n ∧ i = .int .i64 j ∧ v = .slice A2 nn2 c2 ∧ Hid (es = flt one all (l.take j)) ∧ Hid (KD D w.heap.size (.slice A2 nn2 c2) es vs wr) ∧ Hid (Below w.heap.size w wr)) (fun _ i _ => n - (intOf i).toNat)
  case atStart => exact ⟨0, [], [], none, 0, 0, by omega, rfl, rfl, Lib.hid rfl, KD.nil _ _ _, Below.refl _ _⟩
  case round =>
    obtain ⟨j, es, vs, A2, nn2, c2, hj, rfl, rfl, hes, hK, hB⟩ := hrel
    obtain ⟨WR, hWR⟩ : ∃ W, W = wr := ⟨_, rfl⟩
    subst hWR
    by_cases hjl : (j : Int) < (n : Int)
    · have hjl2 : j < l.length := by have := hn.out; omega
      have e5 : IntKind.i64.wrap ((j : Int) + 1) = (j : Int) + 1 := by rw [IntKind.wrap_i64]; omega
      have HLR := Lib.hid (HL.out.of (D' := D) (fun _ h => h) (fun b _ h => hB.out.block b h) hB.out.size)
      obtain ⟨g, o, ⟨k1, s1, m1, u1, A1, n1, c1⟩, rfl, hgb, hgs, ⟨z0, z1, z2, z3, z4⟩, hT1⟩ := HLR.out.at_ hjl2
      obtain ⟨y, hy⟩ : ∃ y, Hid (l.getD j default = y) := ⟨_, Lib.hid rfl⟩
      rw [hy.out] at hT1
      have hfs : Hid (flt one all (l.take (j + 1)) = es ++ (if mrg one all y = true then y.l else [y])) := Lib.hid (by rw [take_snocX hjl2, flt_snoc, hy.out, hes.out])
      have hfl : Hid ((flt one all (l.take (j + 1))).length ≤ 1000) := Lib.hid (by have h1 := flt_takes one all l (j + 1); have h2 := hb.out; omega)
      rw [hfs.out] at hfl
      have HNB := Lib.hid (newB WR (.cells #[.int .i64 k1, .string s1, .int .i64 m1, .int .i64 u1, .slice A1 n1 c1] 28))
      have HBX := Lib.hid (Blk.new WR [.int .i64 k1, .string s1, .int .i64 m1, .int .i64 u1, .slice A1 n1 c1] 28 rfl)
      have HKN := Lib.hid (hK.out.up HNB.out)
      have HT1 := Lib.hid (hT1.of (D' := D) (fun _ h => h) (fun b _ h => HNB.out.block b h) HNB.out.size)
      have HSH := Lib.hid hT1.1
      obtain ⟨β, hβ⟩ : ∃ β, Hid (mrg one all y = β) := ⟨_, Lib.hid rfl⟩
      have HMK := Lib.hid (HK.out y k1 s1 m1 u1 A1 n1 c1 (WR.alloc (.cells #[.int .i64 k1, .string s1, .int .i64 m1, .int .i64 u1, .slice A1 n1 c1] 28)) hT1.1)
      rw [hβ.out] at HMK hfs hfl
      have HSZ : Hid ((WR.alloc (.cells #[.int .i64 k1, .string s1, .int .i64 m1, .int .i64 u1, .slice A1 n1 c1] 28)).heap.size = WR.heap.size + 1) := Lib.hid (by simp)
      clear hT1
      cases β with
      | true =>
        rw [if_pos rfl] at hfs hfl
        obtain ⟨us, hul, hxr, hut⟩ := HT1.out.2.rows
        have hus : Hid (us.length = n1) := Lib.hid (by rw [hul]; have h := congrArg (fun p => p.2.2) HSH.out.1; exact h.symm)
        have hvs : Hid (vs.length + n1 ≤ 1000000) := Lib.hid (by have h1 := hfl.out; rw [List.length_append, ← hK.out.len, ← hul, hus.out] at h1; omega)
        have HXR := Lib.hid hxr
        have HUT := Lib.hid hut
        have HUL := Lib.hid hul
        clear hxr hut hul
        go_wp2_with (first
          | (go_at_fn K; refine HMK.out.mono ?_; rintro x W8 ⟨rfl, hb8⟩; have HK8 := Lib.hid (HKN.out.up hb8); have HX8 := Lib.hid (HXR.out.up hb8); have HU8 : Hid (∀ i, i < y.l.length → TIn D W8 (us.getD i default) (y.l.getD i default)) := Lib.hid (fun i hi => (HUT.out i hi).of (fun _ h => h) (fun b _ h => hb8.block b h) hb8.size); have HB8 := Lib.hid (nx hB.out (nx HNB.out hb8)); have hbx := HBX.out.up hb8 (by simp); have x4 := hbx.cell 4 rfl; clear hb8 hbx)
          | (at_builtin; (refine app_ex9 rfl (.tmp 17) (.tmp 19) rfl w.heap.size (.slice A2 nn2 c2) vs A1 us n1 c1 hus (by simp [Act.eval, Act.put]) (by simp [Act.eval, Act.put]) HK8.out.own HX8.out hvs HB8.out.size ?_); intro V5 w5 ho5 hg5 hn5; obtain ⟨A5, c5, hV5, -, -, -, -⟩ := ho5.form; obtain ⟨k5, hk5⟩ : ∃ k5, Hid ((vs ++ us).length = k5) := ⟨_, Lib.hid rfl⟩; rw [hk5.out] at hV5; subst hV5; have HK5 := Lib.hid (KD.app HK8.out HD.out ho5 hg5 HUL.out HU8.out); have HB5 := Lib.hid (HB8.out.trans (gB_own hg5 (fun g hg => (own_lt HK8.out.own hg).1) HB8.out.size)); clear ho5 hg5 hn5))
        go_roundw
        case rel => exact ⟨j + 1, es ++ y.l, vs ++ us, A5, k5, c5, by omega, by go_num, rfl, Lib.hid hfs.out.symm, HK5, HB5⟩
        case measure => simp [intOf]; omega
      | false =>
        rw [if_neg (by decide)] at hfs hfl
        have hvs : Hid (vs.length + 1 ≤ 1000000) := Lib.hid (by have h1 := hfl.out; rw [List.length_append, ← hK.out.len, List.length_singleton] at h1; omega)
        go_wp2_with (first
          | (go_at_fn K; refine HMK.out.mono ?_; rintro x W8 ⟨rfl, hb8⟩; have HK8 := Lib.hid (HKN.out.up hb8); have HT8 := Lib.hid (HT1.out.of (D' := D) (fun _ h => h) (fun b _ h => hb8.block b h) hb8.size); have HB8 := Lib.hid (nx hB.out (nx HNB.out hb8)); have hbx := HBX.out.up hb8 (by simp); have x0 := hbx.cell 0 rfl; have x1 := hbx.cell 1 rfl; have x2 := hbx.cell 2 rfl; have x3 := hbx.cell 3 rfl; have x4 := hbx.cell 4 rfl; clear hb8 hbx)
          | (at_builtin; (refine app_ex9 rfl (.tmp 21) (.tmp 23) rfl w.heap.size (.slice A2 nn2 c2) vs _ [⟨k1, s1, m1, u1, A1, n1, c1⟩] 1 1 (Lib.hid rfl) (by simp [Act.eval, Act.put]) (by simp [Act.eval, Act.put]) (own_kept HK8.out.own (fun g hg => (newB W8 _).block g (own_lt HK8.out.own hg).2)) (XRd.one_at _ _ ⟨k1, s1, m1, u1, A1, n1, c1⟩ rfl) hvs (Nat.le_trans HB8.out.size (newB W8 _).size) ?_); intro V5 w5 ho5 hg5 hn5; obtain ⟨A5, c5, hV5, -, -, -, -⟩ := ho5.form; obtain ⟨k5, hk5⟩ : ∃ k5, Hid ((vs ++ [(⟨k1, s1, m1, u1, A1, n1, c1⟩ : XV)]).length = k5) := ⟨_, Lib.hid rfl⟩; rw [hk5.out] at hV5; subst hV5; have hnw := newB W8 (.cells #[.int .i64 k1, .string s1, .int .i64 m1, .int .i64 u1, .slice A1 n1 c1] 28); have hkz := HK8.out.up hnw; have htz := HT8.out.of (D' := D) (fun _ h => h) (fun b _ h => hnw.block b h) hnw.size; have HK5 := Lib.hid (KD.app1 hkz HD.out ho5 hg5 htz); have HB5 := Lib.hid (HB8.out.trans (gB_own (gB_trans (gB_below hnw (Nat.le_refl _)) hg5) (fun g hg => (own_lt HK8.out.own hg).1) HB8.out.size)); clear ho5 hg5 hn5 hnw hkz htz))
        go_roundw
        case rel => exact ⟨j + 1, es ++ [y], vs ++ [(⟨k1, s1, m1, u1, A1, n1, c1⟩ : XV)], A5, k5, c5, by omega, by go_num, rfl, Lib.hid hfs.out.symm, HK5, HB5⟩
        case measure => simp [intOf]; omega
    · have hjn : j = n := by omega
      have hes2 : Hid (es = flt one all l) := Lib.hid (by have h := hes.out; rw [List.take_of_length_le (by rw [hn.out]; omega)] at h; exact h)
      go_wp2
      go_ret
      obtain ⟨f1, f2, f3, f4⟩ := hK.out.fin
      rw [← hes2.out]
      exact ⟨⟨_, _, _, rfl, f1, f2, f3, f4⟩, hB.out⟩
/-! ### distinct -/
noncomputable def memX (y : Ex) (l : List Ex) : Bool := @decide (y ∈ l) (Classical.propDecidable _)
theorem memX_yes {y : Ex} {l : List Ex} : memX y l = true ↔ y ∈ l := @decide_eq_true_iff _ (Classical.propDecidable _)
theorem memX_no {y : Ex} {l : List Ex} : memX y l = false ↔ ¬ y ∈ l := by rw [← memX_yes, Bool.not_eq_true]
/-- The closure: is the expression the kid? -/
theorem isKid_is {e y : Ex} (k : Int) (s : ByteArray) (m u : Int) (A : Option Addr) (n c : Nat) (g : Nat) (k' : Int) (s' : ByteArray) (m' u' : Int) (A' : Option Addr) (n' c' : Nat) (w : World) (hT : TIn (Lo w.heap.size) w ⟨k, s, m, u, A, n, c⟩ e) (hT' : TIn (Lo w.heap.size) w ⟨k', s', m', u', A', n', c'⟩ y) (hg : Blk w g [.int .i64 k', .string s', .int .i64 m', .int .i64 u', .slice A' n' c']) {r : Bool} (hr : Hid (sameB e y = r)) :
    Calls Tryz.prog 95 #[xe k s m u A n c, .pointer (some ⟨g, 0, none⟩)] w fun x w' => x = .returned (.bool r) ∧ Below w.heap.size w w' := by
  have hb0 := newB w (.cells #[.int .i64 k, .string s, .int .i64 m, .int .i64 u, .slice A n c] 28)
  have HT := Lib.hid (hT.up hb0)
  have HT' := Lib.hid (hT'.up hb0)
  have HB0 := Lib.hid hb0
  have hg1 := hg.up hb0 hg.lt
  have x0 := hg1.cell 0 rfl
  have x1 := hg1.cell 1 rfl
  have x2 := hg1.cell 2 rfl
  have x3 := hg1.cell 3 rfl
  have x4 := hg1.cell 4 rfl
  clear hT hT' hg hg1 hb0
  go_enter Tryz.func95, Tryz.ntmps95
  go_wp2_with (go_at_call 96; refine (eq_all e y k s m u A n c k' s' m' u' A' n' c' _ r HT HT' hr).mono ?_; rintro x W1 ⟨rfl, hb1⟩; have HB1 := Lib.hid (nx HB0.out hb1); clear hb1)
  go_ret
  exact ⟨rfl, HB1.out⟩
set_option maxHeartbeats 2000000 in
set_option maxRecDepth 8000 in
theorem indexX_is {y : Ex} (l : List Ex) (A : Option Addr) (n c : Nat) (g : Nat) (k' : Int) (s' : ByteArray) (m' u' : Int) (A' : Option Addr) (n' c' : Nat) (w : World) (HL : Hid (KRd (Lo w.heap.size) w A l)) (hn : Hid (l.length = n)) (hb : n ≤ 1000) (HT' : Hid (TIn (Lo w.heap.size) w ⟨k', s', m', u', A', n', c'⟩ y)) (HG : Hid (Blk w g [.int .i64 k', .string s', .int .i64 m', .int .i64 u', .slice A' n' c'])) :
    Calls Tryz.prog 121 #[.slice A n c, .func (.func 95) #[] #[.pointer (some ⟨g, 0, none⟩)]] w fun x w' => (∃ i : Int, x = .returned (.int .i64 i) ∧ Hid (decide (0 ≤ i) = memX y l)) ∧ Below w.heap.size w w' := by
  go_enter Tryz.func121, Tryz.ntmps121
  go_wp2
  go_loopw [8] (fun i wr => ∃ (j : Nat), j ≤ n ∧ i = .int .i64 j ∧ Hid (¬ y ∈ l.take j) ∧ Hid (Below w.heap.size w wr)) (fun i _ => n - (intOf i).toNat)
  case atStart => exact ⟨0, by omega, rfl, Lib.hid (by rw [List.take_zero]; simp), Below.refl _ _⟩
  case round =>
    obtain ⟨j, hj, rfl, hE, hB⟩ := hrel
    obtain ⟨WR, hWR⟩ : ∃ W, W = wr := ⟨_, rfl⟩
    subst hWR
    by_cases hlt : (j : Int) < (n : Int)
    · have hjl2 : j < l.length := by have := hn.out; omega
      have e5 : IntKind.i64.wrap ((j : Int) + 1) = (j : Int) + 1 := by rw [IntKind.wrap_i64]; omega
      obtain ⟨g1, o, ⟨k1, s1, m1, u1, A1, n1, c1⟩, rfl, hgb, hgs, ⟨z0, z1, z2, z3, z4⟩, hT1⟩ := (HL.out.lo hB.out).at_ hjl2
      obtain ⟨x1, hx1⟩ : ∃ x1, Hid (l.getD j default = x1) := ⟨_, Lib.hid rfl⟩
      rw [hx1.out] at hT1
      have HT1 := Lib.hid (hT1.mono (D' := Lo WR.heap.size) (fun b h => Nat.lt_of_lt_of_le h hB.out.size))
      have HT2 := Lib.hid (HT'.out.up hB.out)
      have HG2 := Lib.hid (HG.out.up hB.out HG.out.lt)
      obtain ⟨β, hβ⟩ : ∃ β, Hid (sameB x1 y = β) := ⟨_, Lib.hid rfl⟩
      have hts : Hid (y ∈ l.take (j + 1) ↔ sameB x1 y = true) := Lib.hid (by
        rw [take_snocX hjl2, List.mem_append, List.mem_singleton, hx1.out, sameB_iff]
        exact ⟨fun h => (h.resolve_left hE.out).symm, fun h => .inr h.symm⟩)
      rw [hβ.out] at hts
      clear hT1
      cases β with
      | true =>
        have hend : Hid (memX y l = true) := Lib.hid (memX_yes.2 (List.mem_of_mem_take (hts.out.2 rfl)))
        go_wp2_with (go_at_call 95; refine (isKid_is k1 s1 m1 u1 A1 n1 c1 g k' s' m' u' A' n' c' _ HT1.out HT2.out HG2.out hβ).mono ?_; rintro x W1 ⟨rfl, hb1⟩; have HB1 := Lib.hid (nx hB.out hb1); clear hb1)
        go_ret
        exact ⟨⟨_, rfl, Lib.hid (by rw [hend.out]; exact decide_eq_true (by omega))⟩, HB1.out⟩
      | false =>
        have hE2 : Hid (¬ y ∈ l.take (j + 1)) := Lib.hid (fun h => by have := hts.out.1 h; cases this)
        go_wp2_with (go_at_call 95; refine (isKid_is k1 s1 m1 u1 A1 n1 c1 g k' s' m' u' A' n' c' _ HT1.out HT2.out HG2.out hβ).mono ?_; rintro x W1 ⟨rfl, hb1⟩; have HB1 := Lib.hid (nx hB.out hb1); clear hb1)
        go_roundw
        case rel => exact ⟨j + 1, by omega, by go_num, hE2, HB1.out⟩
        case measure => simp [intOf]; omega
    · have hjn : j = n := by omega
      have hend : Hid (memX y l = false) := Lib.hid (memX_no.2 (by have h := hE.out; rw [List.take_of_length_le (by rw [hn.out]; omega)] at h; exact h))
      go_wp2
      go_ret
      exact ⟨⟨-1, rfl, Lib.hid (by rw [hend.out]; exact decide_eq_false (by omega))⟩, hB.out⟩
set_option maxHeartbeats 2000000 in
set_option maxRecDepth 8000 in
theorem containsX_is {y : Ex} (l : List Ex) (A : Option Addr) (n c : Nat) (g : Nat) (k' : Int) (s' : ByteArray) (m' u' : Int) (A' : Option Addr) (n' c' : Nat) (w : World) (HL : Hid (KRd (Lo w.heap.size) w A l)) (hn : Hid (l.length = n)) (hb : n ≤ 1000) (HT' : Hid (TIn (Lo w.heap.size) w ⟨k', s', m', u', A', n', c'⟩ y)) (HG : Hid (Blk w g [.int .i64 k', .string s', .int .i64 m', .int .i64 u', .slice A' n' c'])) {β : Bool} (hβ : Hid (memX y l = β)) :
    Calls Tryz.prog 97 #[.slice A n c, .func (.func 95) #[] #[.pointer (some ⟨g, 0, none⟩)]] w fun x w' => x = .returned (.bool β) ∧ Below w.heap.size w w' := by
  go_enter Tryz.func97, Tryz.ntmps97
  go_wp2_with (go_at_call 121; refine (indexX_is l A n c g k' s' m' u' A' n' c' _ HL hn hb HT' HG).mono ?_; rintro x W1 ⟨⟨i, rfl, hi⟩, hb1⟩; rw [hβ.out] at hi; have HB1 := Lib.hid hb1; clear hb1)
  go_ret
  exact ⟨ret_bool hi.out, HB1.out⟩
set_option maxHeartbeats 4000000 in
set_option maxRecDepth 20000 in
theorem distinct_is (D : Nat → Prop) (l : List Ex) (A : Option Addr) (n c : Nat) (w : World) (hD : ∀ k, D k → k < w.heap.size) (HL : Hid (KRd D w A l)) (hn : Hid (l.length = n)) (hb : n ≤ 1000) :
    Calls Tryz.prog 72 #[.slice A n c] w (RowQ D (ddp [] l) w) := by
  have HD := Lib.hid hD
  clear hD
  go_enter Tryz.func72, Tryz.ntmps72
  go_wp2
  go_loopw [3, 9] (fun v i wr => ∃ (j : Nat) (es : List Ex) (vs : List XV) (A2 : Option Addr) (nn2 c2 : Nat), j ≤ n ∧ i = .int .i64 j ∧ v = .slice A2 nn2 c2 ∧ Hid (es = ddp [] (l.take j)) ∧ Hid (KD D w.heap.size (.slice A2 nn2 c2) es vs wr) ∧ Hid (Below w.heap.size w wr)) (fun _ i _ => n - (intOf i).toNat)
  case atStart => exact ⟨0, [], [], none, 0, 0, by omega, rfl, rfl, Lib.hid rfl, KD.nil _ _ _, Below.refl _ _⟩
  case round =>
    obtain ⟨j, es, vs, A2, nn2, c2, hj, rfl, rfl, hes, hK, hB⟩ := hrel
    obtain ⟨WR, hWR⟩ : ∃ W, W = wr := ⟨_, rfl⟩
    subst hWR
    by_cases hjl : (j : Int) < (n : Int)
    · have hjl2 : j < l.length := by have := hn.out; omega
      have e5 : IntKind.i64.wrap ((j : Int) + 1) = (j : Int) + 1 := by rw [IntKind.wrap_i64]; omega
      have HLR := Lib.hid (HL.out.of (D' := D) (fun _ h => h) (fun b _ h => hB.out.block b h) hB.out.size)
      obtain ⟨g, o, ⟨k1, s1, m1, u1, A1, n1, c1⟩, rfl, hgb, hgs, ⟨z0, z1, z2, z3, z4⟩, hT1⟩ := HLR.out.at_ hjl2
      obtain ⟨y, hy⟩ : ∃ y, Hid (l.getD j default = y) := ⟨_, Lib.hid rfl⟩
      rw [hy.out] at hT1
      have hds := ddp_snoc y (l.take j) []
      rw [← hy.out, ← take_snocX hjl2, hy.out, ← hes.out] at hds
      have hel : es.length ≤ 1000 := by have h1 := ddp_len_le (l.take j) []; rw [← hes.out, List.length_take] at h1; simp at h1; omega
      have HEL := Lib.hid hel
      have HNB := Lib.hid (newB WR (.cells #[.int .i64 k1, .string s1, .int .i64 m1, .int .i64 u1, .slice A1 n1 c1] 28))
      have HBX := Lib.hid (Blk.new WR [.int .i64 k1, .string s1, .int .i64 m1, .int .i64 u1, .slice A1 n1 c1] 28 rfl)
      have HKN := Lib.hid (hK.out.up HNB.out)
      have HT1 := Lib.hid (hT1.of (D' := D) (fun _ h => h) (fun b _ h => HNB.out.block b h) HNB.out.size)
      have HWS : Hid (w.heap.size ≤ (WR.alloc (.cells #[.int .i64 k1, .string s1, .int .i64 m1, .int .i64 u1, .slice A1 n1 c1] 28)).heap.size) := Lib.hid (Nat.le_trans hB.out.size HNB.out.size)
      have HTL := Lib.hid (HT1.out.mono (D' := Lo (WR.alloc (.cells #[.int .i64 k1, .string s1, .int .i64 m1, .int .i64 u1, .slice A1 n1 c1] 28)).heap.size) (fun b h => Nat.lt_of_lt_of_le (HD.out b h) HWS.out))
      obtain ⟨f1, f2, f3, f4⟩ := HKN.out.fin
      have HEN : Hid (es.length = nn2) := Lib.hid f1.symm
      have HKL : Hid (KRd (Lo (WR.alloc (.cells #[.int .i64 k1, .string s1, .int .i64 m1, .int .i64 u1, .slice A1 n1 c1] 28)).heap.size) (WR.alloc (.cells #[.int .i64 k1, .string s1, .int .i64 m1, .int .i64 u1, .slice A1 n1 c1] 28)) A2 es) := Lib.hid (f4.of (fun b h => h.elim (fun h => Nat.lt_of_lt_of_le (HD.out b h) HWS.out) (fun h => h.2)) (fun _ _ _ => rfl) (Nat.le_refl _))
      obtain ⟨β, hβ⟩ : ∃ β, Hid (memX y es = β) := ⟨_, Lib.hid rfl⟩
      have hnn : nn2 ≤ 1000 := by omega
      clear hT1 f1 f2 f3 f4 hel
      cases β with
      | true =>
        have HE2 : Hid (es = ddp [] (l.take (j + 1))) := Lib.hid (hds.1 (memX_yes.1 hβ.out)).symm
        clear hds
        go_wp2_with (go_at_call 97; refine (containsX_is es A2 nn2 c2 WR.heap.size k1 s1 m1 u1 A1 n1 c1 _ HKL HEN hnn HTL HBX hβ).mono ?_; rintro x W8 ⟨rfl, hb8⟩; have HK8 := Lib.hid (HKN.out.up hb8); have HB8 := Lib.hid (nx hB.out (nx HNB.out hb8)); clear hb8)
        go_roundw
        case rel => exact ⟨j + 1, es, vs, A2, nn2, c2, by omega, by go_num, rfl, HE2, HK8, HB8⟩
        case measure => simp [intOf]; omega
      | false =>
        have HE2 : Hid (es ++ [y] = ddp [] (l.take (j + 1))) := Lib.hid (hds.2 (memX_no.1 hβ.out)).symm
        have hvs : Hid (vs.length + 1 ≤ 1000000) := Lib.hid (by rw [hK.out.len]; have := HEL.out; omega)
        clear hds
        go_wp2_with (first
          | (go_at_call 97; refine (containsX_is es A2 nn2 c2 WR.heap.size k1 s1 m1 u1 A1 n1 c1 _ HKL HEN hnn HTL HBX hβ).mono ?_; rintro x W8 ⟨rfl, hb8⟩; have HK8 := Lib.hid (HKN.out.up hb8); have HT8 := Lib.hid (HT1.out.of (D' := D) (fun _ h => h) (fun b _ h => hb8.block b h) hb8.size); have HB8 := Lib.hid (nx hB.out (nx HNB.out hb8)); have hbx := HBX.out.up hb8 (by simp); have x0 := hbx.cell 0 rfl; have x1 := hbx.cell 1 rfl; have x2 := hbx.cell 2 rfl; have x3 := hbx.cell 3 rfl; have x4 := hbx.cell 4 rfl; clear hb8 hbx)
          | (at_builtin; (refine app_ex9 rfl (.tmp 18) (.tmp 20) rfl w.heap.size (.slice A2 nn2 c2) vs _ [⟨k1, s1, m1, u1, A1, n1, c1⟩] 1 1 (Lib.hid rfl) (by simp [Act.eval, Act.put]) (by simp [Act.eval, Act.put]) (own_kept HK8.out.own (fun g hg => (newB W8 _).block g (own_lt HK8.out.own hg).2)) (XRd.one_at _ _ ⟨k1, s1, m1, u1, A1, n1, c1⟩ rfl) hvs (Nat.le_trans HB8.out.size (newB W8 _).size) ?_); intro V5 w5 ho5 hg5 hn5; obtain ⟨A5, c5, hV5, -, -, -, -⟩ := ho5.form; obtain ⟨k5, hk5⟩ : ∃ k5, Hid ((vs ++ [(⟨k1, s1, m1, u1, A1, n1, c1⟩ : XV)]).length = k5) := ⟨_, Lib.hid rfl⟩; rw [hk5.out] at hV5; subst hV5; have hnw := newB W8 (.cells #[.int .i64 k1, .string s1, .int .i64 m1, .int .i64 u1, .slice A1 n1 c1] 28); have hkz := HK8.out.up hnw; have htz := HT8.out.of (D' := D) (fun _ h => h) (fun b _ h => hnw.block b h) hnw.size; have HK5 := Lib.hid (KD.app1 hkz HD.out ho5 hg5 htz); have HB5 := Lib.hid (HB8.out.trans (gB_own (gB_trans (gB_below hnw (Nat.le_refl _)) hg5) (fun g hg => (own_lt HK8.out.own hg).1) HB8.out.size)); clear ho5 hg5 hn5 hnw hkz htz))
        go_roundw
        case rel => exact ⟨j + 1, es ++ [y], vs ++ [(⟨k1, s1, m1, u1, A1, n1, c1⟩ : XV)], A5, k5, c5, by omega, by go_num, rfl, HE2, HK5, HB5⟩
        case measure => simp [intOf]; omega
    · have hjn : j = n := by omega
      have hes2 : Hid (es = ddp [] l) := Lib.hid (by have h := hes.out; rw [List.take_of_length_le (by rw [hn.out]; omega)] at h; exact h)
      go_wp2
      go_ret
      obtain ⟨f1, f2, f3, f4⟩ := hK.out.fin
      rw [← hes2.out]
      exact ⟨⟨_, _, _, rfl, f1, f2, f3, f4⟩, hB.out⟩
end Go.Proofs.YtohjllnfnkajjaaGreat
