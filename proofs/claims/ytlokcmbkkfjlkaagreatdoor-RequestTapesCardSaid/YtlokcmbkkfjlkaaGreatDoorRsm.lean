/- Contracts: SameExpr, SameRequest, where both are the same. -/
import Derived.Test.YtlokcmbkkfjlkaaGreatDoorRfor
import Derived.Test.YtlokcmbkkfjlkaaGreatDoorRat
namespace Go.Proofs.YtlokcmbkkfjlkaaGreatDoor
open Go.RowKit
set_option linter.unusedVariables false
set_option linter.unusedSimpArgs false

def SameOk (e : Ex) : Prop := ∀ (k : Int) (s : ByteArray) (m u : Int) (A : Option Addr) (n c : Nat) (k' : Int) (s' : ByteArray) (m' u' : Int) (A' : Option Addr) (n' c' : Nat) (w : World), Hid (TIn (Lo w.heap.size) w ⟨k, s, m, u, A, n, c⟩ e) → Hid (TIn (Lo w.heap.size) w ⟨k', s', m', u', A', n', c'⟩ e) →
  Calls Tryz.prog 39 #[xe k s m u A n c, xe k' s' m' u' A' n' c'] w fun x w' => x = .returned (.bool true) ∧ Below w.heap.size w w'
theorem ks_is {v : XV} {e : Ex} (h : ShV v e) : v.k = e.k ∧ v.s = e.a.1 ∧ v.m = e.a.2.1 ∧ v.u = e.a.2.2 ∧ v.n = e.l.length ∧ v.n ≤ v.c ∧ v.c ≤ maxLen := by
  obtain ⟨h1, h2, h3⟩ := h
  unfold XV.ks Ex.ks at h1
  simp only [Prod.mk.injEq] at h1
  obtain ⟨a, b, c⟩ := h1
  exact ⟨a, by rw [← b], by rw [← b], by rw [← b], c, h2, h3⟩
set_option maxHeartbeats 8000000 in
set_option maxRecDepth 100000 in
theorem same_all : ∀ e : Ex, SameOk e := by
  refine Ex.ind fun ek ea l ih => ?_
  intro k s m u A n c k' s' m' u' A' n' c' w HT HT2
  obtain ⟨a1, a2, a3, a4, a5, a6, a7⟩ := ks_is HT.out.1
  obtain ⟨b1, b2, b3, b4, b5, b6, b7⟩ := ks_is HT2.out.1
  obtain rfl : k = k' := a1.trans b1.symm
  obtain rfl : s = s' := a2.trans b2.symm
  obtain rfl : m = m' := a3.trans b3.symm
  obtain rfl : u = u' := a4.trans b4.symm
  obtain rfl : n = n' := a5.trans b5.symm
  have hn : Hid (l.length = n) := a5.symm
  have hbig : n ≤ 9223372036854775807 := by
    have h1 : n ≤ c := a6
    have h2 : c ≤ maxLen := a7
    simp only [maxLen] at h2
    omega
  have HKR : Hid (KRd (Lo w.heap.size) w A l) := HT.out.2
  have HKR2 : Hid (KRd (Lo w.heap.size) w A' l) := HT2.out.2
  have hne : ∀ W : World, (binOp .neq 25 (av s m u) (av s m u)).run Tryz.prog W = .ok (.bool false) W := fun W => by rw [neAtom, eqS_iff.2 rfl]; simp
  have hK1 := (Blk.new w [.int .i64 k, .string s, .int .i64 m, .int .i64 u, .slice A n c] 28 rfl).grow (.cells #[.int .i64 k, .string s, .int .i64 m, .int .i64 u, .slice A' n c'] 28)
  have hK2 := Blk.new (w.alloc (.cells #[.int .i64 k, .string s, .int .i64 m, .int .i64 u, .slice A n c] 28)) [.int .i64 k, .string s, .int .i64 m, .int .i64 u, .slice A' n c'] 28 (g := w.heap.size + 1) (by simp)
  have HK1 := Lib.hid hK1
  have HK2 := Lib.hid hK2
  have HB0 : Hid (Below w.heap.size w ((w.alloc (.cells #[.int .i64 k, .string s, .int .i64 m, .int .i64 u, .slice A n c] 28)).alloc (.cells #[.int .i64 k, .string s, .int .i64 m, .int .i64 u, .slice A' n c'] 28))) := nx (newB w _) (newB _ _)
  clear a1 a2 a3 a4 a5 a6 a7 b1 b2 b3 b4 b5 b6 b7 hK1 hK2
  go_enter Tryz.func39, Tryz.ntmps39
  go_wp2
  go_loopw [5] (fun i wr => ∃ (j : Nat), j ≤ n ∧ i = .int .i64 j ∧ Hid (Below w.heap.size w wr) ∧ Hid (Blk wr w.heap.size [.int .i64 k, .string s, .int .i64 m, .int .i64 u, .slice A n c]) ∧ Hid (Blk wr (w.heap.size + 1) [.int .i64 k, .string s, .int .i64 m, .int .i64 u, .slice A' n c'])) (fun i _ => n - (intOf i).toNat)
  case atStart => exact ⟨0, by omega, rfl, HB0.out, HK1.out, HK2.out⟩
  case round =>
    obtain ⟨j, hj, rfl, hB, hK, hJ⟩ := hrel
    have q4 := hK.out.cell 4 rfl
    have r4 := hJ.out.cell 4 rfl
    by_cases hlt : (j : Int) < (n : Int)
    · have hjl : j < l.length := by have := hn.out; omega
      obtain ⟨g, o, ⟨k1, s1, m1, u1, A1, n1, c1⟩, rfl, hgb, hgs, ⟨z0, z1, z2, z3, z4⟩, hT1⟩ := (HKR.out.lo hB.out).at_ hjl
      obtain ⟨g', o', ⟨k2, s2, m2, u2, A2, n2, c2⟩, rfl, hgb', hgs', ⟨y0, y1, y2, y3, y4⟩, hT2⟩ := (HKR2.out.lo hB.out).at_ hjl
      have e5 : IntKind.i64.wrap ((j : Int) + 1) = (j : Int) + 1 := by rw [IntKind.wrap_i64]; omega
      have IH := Lib.hid (ih _ (getD_memX hjl))
      obtain ⟨f, hf⟩ : ∃ f, Hid (l.getD j default = f) := ⟨_, rfl⟩
      rw [hf.out] at IH hT1 hT2
      have HT1 : Hid (∀ W, Below wr.heap.size wr W → TIn (Lo W.heap.size) W ⟨k1, s1, m1, u1, A1, n1, c1⟩ f) := fun W hW => TIn.up (hT1.mono (fun b h => Nat.lt_of_lt_of_le h hB.out.size)) hW
      have HT2' : Hid (∀ W, Below wr.heap.size wr W → TIn (Lo W.heap.size) W ⟨k2, s2, m2, u2, A2, n2, c2⟩ f) := fun W hW => TIn.up (hT2.mono (fun b h => Nat.lt_of_lt_of_le h hB.out.size)) hW
      clear hT1 hT2
      go_wp2_with fail
      go_region_with (go_at_call 39; refine (IH.out k1 s1 m1 u1 A1 n1 c1 k2 s2 m2 u2 A2 n2 c2 _ (Lib.hid (HT1.out _ (bdD (Below.refl _ _)))) (Lib.hid (HT2'.out _ (bdD (Below.refl _ _))))).mono ?_; rintro x W1 ⟨rfl, hb1⟩; have HB1 : Hid (Below wr.heap.size wr W1) := (bdD (Below.refl _ _)).trans hb1; clear hb1)
      all_goals (try go_wp2)
      all_goals exact ⟨⟨j + 1, by omega, by go_num, hB.out.trans (HB1.out.mono hB.out.size), hK.out.up HB1.out hK.out.lt, hJ.out.up HB1.out hJ.out.lt⟩, by simp [intOf]; omega⟩
    · go_wp2
      go_ret
      exact ⟨rfl, hB.out⟩
theorem tin_zero (D : Nat → Prop) (w : World) : TIn D w ⟨0, ⟨#[]⟩, 0, 0, none, 0, 0⟩ (.nd 0 z3 []) := ⟨⟨rfl, by decide, by decide⟩, .nil _⟩
set_option maxHeartbeats 4000000 in
set_option maxRecDepth 8000 in
theorem sameR_is {e : Ex} (k : Int) (s : ByteArray) (m u : Int) (A : Option Addr) (n c : Nat) (k' : Int) (s' : ByteArray) (m' u' : Int) (A' : Option Addr) (n' c' : Nat) (p t : Int) (w : World) (hT : TIn (Lo w.heap.size) w ⟨k, s, m, u, A, n, c⟩ e) (hT' : TIn (Lo w.heap.size) w ⟨k', s', m', u', A', n', c'⟩ e) :
    Calls Tryz.prog 17 #[rq k s m u A n c p t, rq k' s' m' u' A' n' c' p t] w fun x w' => x = .returned (.bool true) ∧ Below w.heap.size w w' := by
  have HT := Lib.hid hT
  have HT' := Lib.hid hT'
  have hK1 := (Blk.new w [.int .i64 k, .string s, .int .i64 m, .int .i64 u, .slice A n c, .int .i64 p, .int .i64 t] 30 rfl).grow (.cells #[.int .i64 k', .string s', .int .i64 m', .int .i64 u', .slice A' n' c', .int .i64 p, .int .i64 t] 30)
  have hK2 := Blk.new (w.alloc (.cells #[.int .i64 k, .string s, .int .i64 m, .int .i64 u, .slice A n c, .int .i64 p, .int .i64 t] 30)) [.int .i64 k', .string s', .int .i64 m', .int .i64 u', .slice A' n' c', .int .i64 p, .int .i64 t] 30 (g := w.heap.size + 1) (by simp)
  have HK1 := Lib.hid hK1
  have HK2 := Lib.hid hK2
  have HB0 : Hid (Below w.heap.size w ((w.alloc (.cells #[.int .i64 k, .string s, .int .i64 m, .int .i64 u, .slice A n c, .int .i64 p, .int .i64 t] 30)).alloc (.cells #[.int .i64 k', .string s', .int .i64 m', .int .i64 u', .slice A' n' c', .int .i64 p, .int .i64 t] 30))) := nx (newB w _) (newB _ _)
  clear hT hT' hK1 hK2
  go_enter Tryz.func17, Tryz.ntmps17
  go_wp2_with (first
    | (go_at_call 39; refine (same_all e k s m u A n c k' s' m' u' A' n' c' _ (Lib.hid (TIn.up HT.out HB0.out)) (Lib.hid (TIn.up HT'.out HB0.out))).mono ?_; rintro x W1 ⟨rfl, hb1⟩; have h1 := HK1.out.up hb1 HK1.out.lt; have h2 := HK2.out.up hb1 HK2.out.lt; obtain ⟨x0, x1, x2, x3, x4, x5, x6⟩ := h1.s7; obtain ⟨y0, y1, y2, y3, y4, y5, y6⟩ := h2.s7; have HB1 := Lib.hid (nx HB0.out hb1); clear hb1 h1 h2))
  go_ret
  exact ⟨rfl, HB1.out⟩
end Go.Proofs.YtlokcmbkkfjlkaaGreatDoor
