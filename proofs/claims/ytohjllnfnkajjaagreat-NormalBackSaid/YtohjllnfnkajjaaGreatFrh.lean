/- Contracts of the reference: holds. -/
import Derived.Test.YtohjllnfnkajjaaGreatFbo
import Derived.Test.YtohjllnfnkajjaaGreatFd
import Derived.Test.YtohjllnfnkajjaaGreatRrv
namespace Go.Proofs.YtohjllnfnkajjaaGreat
open Go.RowKit
set_option linter.unusedVariables false
set_option linter.unusedSimpArgs false

/-- An atom's list and a set, as slices in a world. -/
structure LS (w : World) (L : List A3) (S : List Bool) (A : Option Addr) (n : Nat) (B : Option Addr) (m : Nat) : Prop where
  ln : L.length = n
  lr : QRd w A L
  n8 : n ≤ 1000
  sn : S.length = m
  sr : BR w B S
  m8 : m ≤ 140737488355328
theorem LS.below {w w' : World} {L : List A3} {S : List Bool} {A : Option Addr} {n : Nat} {B : Option Addr} {m : Nat} (h : LS w L S A n B m) (hb : Below w.heap.size w w') : LS w' L S A n B m :=
  ⟨h.ln, h.lr.below hb, h.n8, h.sn, h.sr.below hb, h.m8⟩
def RhOk (e : Ex) : Prop := ∀ (L : List A3) (S : List Bool) (k : Int) (s : ByteArray) (m u : Int) (A : Option Addr) (n c : Nat) (AL : Option Addr) (nL cL : Nat) (AS : Option Addr) (nS cS : Nat) (w : World) (r : Bool),
  Hid (TIn (Lo w.heap.size) w ⟨k, s, m, u, A, n, c⟩ e) → Hid (LS w L S AL nL AS nS) → Hid (e.hld L S = r) →
  Calls Tryz.prog 39 #[xe k s m u A n c, .slice AL nL cL, .slice AS nS cS] w fun x w' => x = .returned (.bool r) ∧ Below w.heap.size w w'
theorem getD_out {S : List Bool} {i : Nat} (h : S.length ≤ i) : S.getD i false = false := by rw [List.getD_eq_getElem?_getD, List.getElem?_eq_none h]; rfl
set_option maxHeartbeats 8000000 in
set_option maxRecDepth 100000 in
theorem rholds_all : ∀ e : Ex, RhOk e := by
  refine Ex.ind fun ek ea l ih => ?_
  intro L S k s m u A n c AL nL cL AS nS cS w r HT HL hr
  obtain ⟨as_, am, au⟩ := ea
  obtain ⟨a1, a2, a3, a4, a5, a6, a7⟩ := ks_at HT.out.1
  obtain rfl : k = ek := a1
  obtain rfl : s = as_ := a2
  obtain rfl : m = am := a3
  obtain rfl : u = au := a4
  have hn : Hid (l.length = n) := a5.symm
  have hnb : n ≤ 9223372036854775807 := by have h1 : n ≤ c := a6; have h2 : c ≤ maxLen := a7; simp only [maxLen] at h2; omega
  have HK1 := Lib.hid (Blk.new w [.int .i64 k, .string s, .int .i64 m, .int .i64 u, .slice A n c] 28 rfl)
  have HB0 := Lib.hid (newB w (.cells #[.int .i64 k, .string s, .int .i64 m, .int .i64 u, .slice A n c] 28))
  have hln : Hid (L.length = nL) := HL.out.ln
  have hsn : Hid (S.length = nS) := HL.out.sn
  have hn8 : nL ≤ 1000 := HL.out.n8
  clear a5 a6 a7
  by_cases hk : k = 0
  · subst hk
    have hr2 : Hid (inS L S (s, m, u) = r) := by have h := hr.out; rw [Ex.hld, if_pos rfl] at h; exact h
    clear hr ih
    go_enter Tryz.func39, Tryz.ntmps39
    go_wp2
    go_loopw [7] (fun i wr => ∃ (j : Nat), j ≤ nL ∧ i = .int .i64 j ∧ Hid (inS (L.drop j) (S.drop j) (s, m, u) = r) ∧ Hid (Below w.heap.size w wr) ∧ Hid (Blk wr w.heap.size [.int .i64 0, .string s, .int .i64 m, .int .i64 u, .slice A n c])) (fun i _ => nL - (intOf i).toNat)
    case atStart => exact ⟨0, by omega, rfl, hr2, HB0.out, HK1.out⟩
    case round =>
      obtain ⟨j, hj, rfl, hI, hB, hK⟩ := hrel
      have q1 := hK.out.cell 1 rfl
      have q2 := hK.out.cell 2 rfl
      have q3 := hK.out.cell 3 rfl
      have HLr := Lib.hid (HL.out.below hB.out)
      by_cases hlt : (j : Int) < (nL : Int)
      · have hjl : j < L.length := by have := hln.out; omega
        obtain ⟨g, o, s', m', u', rfl, hg, hx, c1, c2, c3⟩ := HLr.out.lr.at_ (i := j) hjl
        have e5 : IntKind.i64.wrap ((j : Int) + 1) = (j : Int) + 1 := by rw [IntKind.wrap_i64]; omega
        have e0 : ∀ W, (binOp .eql 25 (av s' m' u') (av s m u)).run Tryz.prog W = .ok (.bool (eqS s' s && decide (m' = m ∧ u' = u))) W := fun W => eqAtom s' s m' u' m u W
        have hstep := inS_drop (S := S) (a := (s, m, u)) hjl
        rw [hx.out, hI.out] at hstep
        cases hq : (eqS s' s && decide (m' = m ∧ u' = u)) with
        | true =>
          rw [hq] at e0
          have hend : Hid (r = S.getD j false) := by show _ = _; rw [hstep, if_pos (eq_a3.1 hq)]
          clear hq hstep
          by_cases hjs : (j : Int) < (nS : Int)
          · obtain ⟨g2, o2, v, rfl, hg2, hv, d1⟩ := HLr.out.sr.at_ (i := j) (by have := hsn.out; omega)
            go_wp2
            go_quiet (fail)
            go_wp2
            go_ret
            exact ⟨ret_bool (by rw [hend.out, hv.out]), bdN hB.out _⟩
          · have hend2 : Hid (r = false) := by show _ = _; rw [hend.out, getD_out (by have := hsn.out; omega)]
            go_wp2
            go_quiet (fail)
            go_wp2
            go_ret
            exact ⟨ret_bool hend2.out.symm, bdN hB.out _⟩
        | false =>
          rw [hq] at e0
          have hI2 : Hid (inS (L.drop (j + 1)) (S.drop (j + 1)) (s, m, u) = r) := by
            show _ = _
            rw [hstep, if_neg (fun e => by rw [eq_a3.2 e] at hq; cases hq)]
          clear hq hstep
          go_wp2
          go_quiet (fail)
          go_wp2
          go_roundw
          case rel => exact ⟨j + 1, by omega, by go_num, hI2, bdN hB.out _, hK.out.of rfl⟩
          case measure => simp [intOf]; omega
      · have hend : Hid (r = false) := by
          show _ = _
          rw [← hI.out, List.drop_eq_nil_of_le (by have := hln.out; omega), inS]
        go_wp2
        go_ret
        exact ⟨ret_bool hend.out.symm, hB.out⟩
  · have hr2 : Hid (decide (k ≤ (hldL L S l : Int)) = r) := by have h := hr.out; rw [Ex.hld, if_neg hk] at h; exact h
    have HKR : Hid (KRd (Lo w.heap.size) w A l) := HT.out.2
    have k0 : (k == 0) = false := by rw [beq_eq_false_iff_ne]; exact hk
    clear hr HT hk
    go_enter Tryz.func39, Tryz.ntmps39
    go_wp2
    go_loopw [8, 9] (fun q i wr => ∃ (j p : Nat), j ≤ n ∧ p ≤ j ∧ i = .int .i64 j ∧ q = .int .i64 p ∧ Hid (hldL L S (l.take j) = p) ∧ Hid (Below w.heap.size w wr) ∧ Hid (Blk wr w.heap.size [.int .i64 k, .string s, .int .i64 m, .int .i64 u, .slice A n c])) (fun _ i _ => n - (intOf i).toNat)
    case atStart => exact ⟨0, 0, by omega, by omega, rfl, rfl, by show _ = _; simp [hldL], HB0.out, HK1.out⟩
    case round =>
      obtain ⟨j, p, hj, hp, rfl, rfl, hH, hB, hK⟩ := hrel
      have q0 := hK.out.cell 0 rfl
      have q4 := hK.out.cell 4 rfl
      by_cases hlt : (j : Int) < (n : Int)
      · have hjl : j < l.length := by have := hn.out; omega
        obtain ⟨g, o, ⟨k1, s1, m1, u1, A1, n1, c1⟩, rfl, hgb, hgs, ⟨z0, z1, z2, z3, z4⟩, hT1⟩ := (HKR.out.lo hB.out).at_ hjl
        have e5 : IntKind.i64.wrap ((j : Int) + 1) = (j : Int) + 1 := by rw [IntKind.wrap_i64]; omega
        have e6 : IntKind.i64.wrap ((p : Int) + 1) = (p : Int) + 1 := by rw [IntKind.wrap_i64]; omega
        have IH := Lib.hid (ih _ (getD_memX hjl))
        have htk := hldL_take (L := L) (S := S) hjl
        rw [hH.out] at htk
        obtain ⟨f, hf⟩ : ∃ f, Hid (l.getD j default = f) := ⟨_, rfl⟩
        rw [hf.out] at IH hT1 htk
        obtain ⟨b, hb⟩ : ∃ b, Hid (f.hld L S = b) := ⟨_, rfl⟩
        rw [hb.out] at htk
        have HT1 : Hid (TIn (Lo wr.heap.size) wr ⟨k1, s1, m1, u1, A1, n1, c1⟩ f) := hT1.mono (fun b h => Nat.lt_of_lt_of_le h hB.out.size)
        have HLr := Lib.hid (HL.out.below hB.out)
        clear hT1
        cases b with
        | true =>
          have hH2 : Hid (hldL L S (l.take (j + 1)) = p + 1) := by show _ = _; rw [htk, if_pos rfl]
          clear htk
          go_wp2_with (go_at_call 39; refine (IH.out L S k1 s1 m1 u1 A1 n1 c1 AL nL cL AS nS cS _ true HT1 HLr hb).mono ?_; rintro x W1 ⟨rfl, hb1⟩; have HB1 := Lib.hid (hB.out.trans (hb1.mono hB.out.size)); have HK2 := Lib.hid (hK.out.up hb1 hK.out.lt); clear hb1)
          exact ⟨⟨j + 1, p + 1, by omega, by omega, by go_num, by go_num, hH2, HB1.out, HK2.out⟩, by simp [intOf]; omega⟩
        | false =>
          have hH2 : Hid (hldL L S (l.take (j + 1)) = p) := by show _ = _; rw [htk, if_neg (by decide)]; rfl
          clear htk
          go_wp2_with (go_at_call 39; refine (IH.out L S k1 s1 m1 u1 A1 n1 c1 AL nL cL AS nS cS _ false HT1 HLr hb).mono ?_; rintro x W1 ⟨rfl, hb1⟩; have HB1 := Lib.hid (hB.out.trans (hb1.mono hB.out.size)); have HK2 := Lib.hid (hK.out.up hb1 hK.out.lt); clear hb1)
          exact ⟨⟨j + 1, p, by omega, by omega, by go_num, rfl, hH2, HB1.out, HK2.out⟩, by simp [intOf]; omega⟩
      · have hje : j = n := by omega
        have hend : Hid (decide (k ≤ (p : Int)) = r) := by
          show _ = _
          rw [← hr2.out, ← hH.out, hje, List.take_of_length_le (by rw [hn.out]; exact Nat.le_refl _)]
        clear hr2 hH hje
        go_wp2
        go_ret
        exact ⟨ret_bool (by rw [← hend.out]), hB.out⟩
end Go.Proofs.YtohjllnfnkajjaaGreat
