/- Contracts of the reference: Add on every expression. -/
import Derived.Test.YtohjllnfnkajjaaGreatRco
namespace Go.Proofs.YtohjllnfnkajjaaGreat
open Go.RowKit
set_option linter.unusedVariables false
set_option linter.unusedSimpArgs false

theorem ks_at {v : XV} {k : Int} {s : ByteArray} {m u : Int} {l : List Ex} (h : ShV v (.nd k (s, m, u) l)) : v.k = k ∧ v.s = s ∧ v.m = m ∧ v.u = u ∧ v.n = l.length ∧ v.n ≤ v.c ∧ v.c ≤ maxLen := by
  obtain ⟨h1, h2, h3⟩ := h
  unfold XV.ks Ex.ks at h1
  simp only [Prod.mk.injEq] at h1
  obtain ⟨a, b, e⟩ := h1
  have b' : (v.s, v.m, v.u) = (s, m, u) := b
  simp only [Prod.mk.injEq] at b'
  obtain ⟨b, c, d⟩ := b'
  exact ⟨a, b, c, d, e, h2, h3⟩
theorem preL_drop {l : List Ex} {j : Nat} (h : j < l.length) : preL (l.drop j) = (l.getD j default).pre ++ preL (l.drop (j + 1)) := by
  rw [List.drop_eq_getElem_cons h, preL, List.getD_eq_getElem?_getD, List.getElem?_eq_getElem h]
  rfl
theorem cntL_drop {l : List Ex} {j : Nat} (h : j < l.length) : cntL (l.drop j) = (l.getD j default).cnt + cntL (l.drop (j + 1)) := by
  rw [List.drop_eq_getElem_cons h, cntL, List.getD_eq_getElem?_getD, List.getElem?_eq_getElem h]
  rfl
/-- Not a group: why. -/
theorem grp_no {k : Int} {s : ByteArray} {m u : Int} {l : List Ex} (h : grp (.nd k (s, m, u) l) = false) : k < 1 ∨ (l.length : Int) < k ∨ azr s m u = false := by
  by_cases h1 : k < 1
  · exact .inl h1
  · by_cases h2 : (l.length : Int) < k
    · exact .inr (.inl h2)
    · right; right
      cases hz : azr s m u with
      | false => rfl
      | true =>
        have : grp (.nd k (s, m, u) l) = true := decide_eq_true ⟨azr_iff.1 hz, by show 1 ≤ k; omega, by show k ≤ (l.length : Int); omega⟩
        rw [this] at h
        cases h
set_option maxHeartbeats 8000000 in
set_option maxRecDepth 100000 in
theorem addq_odd (A0 : Option Addr) (n0 c0 : Nat) (k : Int) (s : ByteArray) (m u : Int) (A : Option Addr) (n c : Nat) (w : World) (hn : 1 ≤ n) (hno : Hid (k < 1 ∨ (n : Int) < k ∨ azr s m u = false)) :
    Calls Tryz.prog 63 #[.slice A0 n0 c0, xe k s m u A n c] w (AddN (.slice A0 n0 c0) w) := by
  have e0 : ∀ W : World, (binOp .neq 25 (av s m u) (av ⟨#[]⟩ 0 0)).run Tryz.prog W = .ok (.bool (!azr s m u)) W := fun W => neAtom s ⟨#[]⟩ m u 0 0 W
  have hn0 : ((n : Int) == 0) = false := by rw [beq_eq_false_iff_ne]; omega
  by_cases h1 : k < 1
  · clear hno e0
    go_enter Tryz.func63, Tryz.ntmps63
    go_wp2
    go_ret2
    exact ⟨_, _, _, rfl, gB_below (newB _ _) (Nat.le_refl _)⟩
  · by_cases h2 : (n : Int) < k
    · clear hno e0
      go_enter Tryz.func63, Tryz.ntmps63
      go_wp2
      go_ret2
      exact ⟨_, _, _, rfl, gB_below (newB _ _) (Nat.le_refl _)⟩
    · have hz : azr s m u = false := by
        rcases hno.out with h | h | h
        · exact absurd h h1
        · exact absurd h h2
        · exact h
      rw [hz] at e0
      clear hno hz
      go_enter Tryz.func63, Tryz.ntmps63
      go_wp2
      go_ret2
      exact ⟨_, _, _, rfl, gB_below (newB _ _) (Nat.le_refl _)⟩
/-- The state at the loop over the kids. -/
structure CoL (base : Nat) (V V2 : Value) (q q2 : List A3) (l : List Ex) (j : Nat) (w wr : World) (cs : List Value) : Prop where
  own : OwnQ wr base V2 q2
  col : coll (preL (l.drop j)) q2 = coll (preL l) q
  gro : w.grownBy wr V.ownBlock
  new : ∀ g, V2.ownBlock = some g → V.ownBlock = some g ∨ w.heap.size + 1 ≤ g
  blk : Blk wr w.heap.size cs
  len : q2.length + cntL (l.drop j) ≤ 1000
theorem CoL.step {base : Nat} {V V2 V3 : Value} {q q2 q3 : List A3} {l : List Ex} {j : Nat} {w wr w1 : World} {cs : List Value} (h : CoL base V V2 q q2 l j w wr cs) (hj : j < l.length) (hV : ∀ g, V.ownBlock = some g → g < w.heap.size) (hc : coll (l.getD j default).pre q2 = some q3) (ho : OwnQ w1 base V3 q3) (hg : wr.grownBy w1 V2.ownBlock) (hn : ∀ g, V3.ownBlock = some g → V2.ownBlock = some g ∨ wr.heap.size ≤ g) :
    CoL base V V3 q q3 l (j + 1) w w1 cs := by
  have hlt : w.heap.size < wr.heap.size := h.blk.lt
  refine ⟨ho, ?_, gB_step h.gro hg (fun g hg => ?_), fun g hg => ?_, h.blk.of (hg.block _ hlt (fun e => ?_)), ?_⟩
  · have := h.col
    rw [preL_drop hj, coll_append, hc] at this
    exact this
  · rcases h.new g hg with h1 | h1
    · exact .inl h1
    · exact .inr (by omega)
  · rcases hn g hg with h1 | h1
    · exact h.new g h1
    · exact .inr (by omega)
  · rcases h.new _ e.symm with h1 | h1
    · have := hV _ h1; omega
    · omega
  · have h1 := coll_len _ _ _ hc
    rw [pre_len.1] at h1
    have h2 := h.len
    rw [cntL_drop hj] at h2
    omega
set_option maxHeartbeats 8000000 in
set_option maxRecDepth 100000 in
theorem addq_all : ∀ e : Ex, ColOk e := by
  refine Ex.ind fun ek ea l ih => ?_
  intro base A0 n0 c0 q k s m u A n c w HO hbase HT hlen
  obtain ⟨es, em, eu⟩ := ea
  obtain ⟨a1, a2, a3, a4, b5, b6, b7⟩ := ks_at HT.out.1
  obtain rfl : k = ek := a1
  obtain rfl : s = es := a2
  obtain rfl : m = em := a3
  obtain rfl : u = eu := a4
  have a5 : n = l.length := b5
  have a6 : n ≤ c := b6
  have a7 : c ≤ maxLen := b7
  clear b5 b6 b7
  by_cases hl : l = []
  · subst hl
    obtain rfl : n = 0 := a5
    by_cases hyes : k = 0 ∧ Nam s ∧ usb m u = true
    · have hc := coll_one (q := q) hyes
      obtain ⟨rfl, hn, hu⟩ := hyes
      refine ⟨fun M hM => addq_atom base A0 n0 c0 q s m u A c w HO hbase (by have := hlen.out; rw [Ex.cnt] at this; show _ ≤ _; omega) (Lib.hid hn) (Lib.hid hu) ?_, fun hM => ?_⟩
      · show _ = _
        have h := hM.out
        rw [hc] at h
        exact (Option.some.inj h).symm
      · have h := hM.out
        rw [hc] at h
        cases h
    · have hc := coll_bad (q := q) hyes
      refine ⟨fun M hM => ?_, fun hM => addq_bad A0 n0 c0 k s m u A c w (Lib.hid hyes)⟩
      have h := hM.out
      rw [hc] at h
      cases h
  · have hn1 : 1 ≤ n := by
      rw [a5]
      rcases l with _ | ⟨x, r⟩
      · exact absurd rfl hl
      · simp [Ex.l]
    have hcz := coll_kids (k := k) (a := (s, m, u)) (q := q) hl
    cases hg : grp (Ex.nd k (s, m, u) l) with
    | false =>
      rw [hg, if_neg (by simp)] at hcz
      refine ⟨fun M hM => ?_, fun hM => addq_odd A0 n0 c0 k s m u A n c w hn1 (by
        have := grp_no hg
        have e : l.length = n := a5.symm
        rw [e] at this
        exact this)⟩
      have h := hM.out
      rw [hcz] at h
      cases h
    | true =>
      rw [hg, if_pos rfl] at hcz
      obtain ⟨g1, g2, g3⟩ := grp_is hg
      have hz : (s, m, u) = z3 := g1
      simp only [Prod.mk.injEq] at hz
      obtain ⟨rfl, rfl, rfl⟩ := hz
      have hk1 : 1 ≤ k := g2
      have hkn : k ≤ (n : Int) := by have : k ≤ (l.length : Int) := g3; rw [a5]; exact this
      have hn : Hid (l.length = n) := a5.symm
      have hbig : n ≤ 9223372036854775807 := by
        have h1 : n ≤ c := a6
        have h2 : c ≤ maxLen := a7
        simp only [maxLen] at h2
        omega
      have HKR : Hid (KRd (Lo base) w A l) := HT.out.2
      have hn0 : ((n : Int) == 0) = false := by rw [beq_eq_false_iff_ne]; omega
      have e0 : ∀ W : World, (binOp .neq 25 (av ⟨#[]⟩ 0 0) (av ⟨#[]⟩ 0 0)).run Tryz.prog W = .ok (.bool false) W := fun W => by rw [neAtom, eqS_iff.2 rfl]; simp
      have hV : ∀ g, (Value.slice A0 n0 c0).ownBlock = some g → g < w.heap.size := fun g hg => (own_lt HO.out hg).2
      have HV := Lib.hid hV
      have hbg : ∀ g, (Value.slice A0 n0 c0).ownBlock = some g → base ≤ g := fun g hg => (own_lt HO.out hg).1
      have HBG := Lib.hid hbg
      have HC0 : Hid (CoL base (.slice A0 n0 c0) (.slice A0 n0 c0) q q l 0 w (w.alloc (.cells #[.int .i64 k, .string ⟨#[]⟩, .int .i64 0, .int .i64 0, .slice A n c] 28)) [.int .i64 k, .string ⟨#[]⟩, .int .i64 0, .int .i64 0, .slice A n c]) :=
        ⟨own_kept HO.out (fun g hg => (newB w _).block g (own_lt HO.out hg).2), rfl, gB_below (newB w _) (Nat.le_refl _), fun g hg => .inl hg, Blk.new w _ _ rfl, by have := hlen.out; rw [Ex.cnt] at this; rw [List.drop_zero]; omega⟩
      have HBASE := Lib.hid hbase
      have key : ∀ (r : Option (List A3)), Hid (coll (preL l) q = r) → Calls Tryz.prog 63 #[.slice A0 n0 c0, xe k ⟨#[]⟩ 0 0 A n c] w fun e w' => (∀ M, r = some M → AddY base (.slice A0 n0 c0) M w e w') ∧ (r = none → AddN (.slice A0 n0 c0) w e w') := by
        intro r HR
        clear hcz a5 a6 a7 hl g1 g2 g3 hg hV hbg HT hlen HO hbase
        go_enter Tryz.func63, Tryz.ntmps63
        go_wp2
        go_loopw [0, 7] (fun v i wr => ∃ (j : Nat) (A2 : Option Addr) (n2 c2 : Nat) (q2 : List A3), j ≤ n ∧ i = .int .i64 j ∧ v = .slice A2 n2 c2 ∧ Hid (CoL base (.slice A0 n0 c0) (.slice A2 n2 c2) q q2 l j w wr [.int .i64 k, .string ⟨#[]⟩, .int .i64 0, .int .i64 0, .slice A n c])) (fun _ i _ => n - (intOf i).toNat)
        case atStart => exact ⟨0, A0, n0, c0, q, by omega, rfl, rfl, HC0.out⟩
        case round =>
          obtain ⟨j, A2, n2, c2, q2, hj, rfl, rfl, HC⟩ := hrel
          have q4 := HC.out.blk.cell 4 rfl
          by_cases hlt : (j : Int) < (n : Int)
          · have hjl : j < l.length := by have := hn.out; omega
            have HBB := Lib.hid (gB_own HC.out.gro HBG.out HBASE.out)
            obtain ⟨g, o, ⟨k1, s1, m1, u1, A1, n1, c1⟩, rfl, hgb, hgs, ⟨z0, z1, z2, z3, z4⟩, hT1⟩ := (HKR.out.lo HBB.out).at_ hjl
            have e5 : IntKind.i64.wrap ((j : Int) + 1) = (j : Int) + 1 := by rw [IntKind.wrap_i64]; omega
            have IH := Lib.hid (ih _ (getD_memX hjl) base A2 n2 c2 q2 k1 s1 m1 u1 A1 n1 c1 wr HC.out.own (Nat.le_trans HBASE.out HC.out.gro.size) (Lib.hid hT1) (by have := HC.out.len; rw [cntL_drop hjl] at this; show _ ≤ _; omega))
            clear hT1
            cases hcj : coll (l.getD j default).pre q2 with
            | some q3 =>
              have HCJ := Lib.hid hcj
              clear hcj
              go_wp2_with (go_at_call 63; refine (IH.out.1 q3 HCJ).mono ?_; rintro e W1 ⟨A3', n3, c3, rfl, ho3, hg3, hn3⟩; have HC3 := Lib.hid (HC.out.step hjl HV.out HCJ.out ho3 hg3 hn3); clear ho3 hg3 hn3)
              go_roundw
              case rel => exact ⟨j + 1, A3', n3, c3, q3, by omega, by go_num, rfl, HC3.out⟩
              case measure => simp [intOf]; omega
            | none =>
              have HCJ := Lib.hid hcj
              have hend : Hid (r = none) := by
                have h := HC.out.col
                rw [preL_drop hjl, coll_append, hcj] at h
                show _ = _
                rw [← HR.out, ← h]
                rfl
              clear hcj
              go_wp2_with (go_at_call 63; refine (IH.out.2 HCJ).mono ?_; rintro e W1 ⟨A3', n3, c3, rfl, hg3⟩; have HG3 := Lib.hid (gB_step HC.out.gro hg3 (fun g hg => (HC.out.new g hg).elim .inl (fun h => .inr (Nat.le_of_succ_le h)))); clear hg3)
              go_ret2
              have e := hend.out
              subst e
              exact ⟨(fun M h => by cases h), fun _ => ⟨_, _, _, rfl, HG3.out⟩⟩
          · have hend : Hid (r = some q2) := by
              have h := HC.out.col
              rw [List.drop_eq_nil_of_le (by have := hn.out; omega)] at h
              show _ = _
              rw [← HR.out, ← h]
              rfl
            go_wp2
            go_ret2
            have e := hend.out
            subst e
            refine ⟨fun M h => ?_, fun h => by cases h⟩
            obtain rfl := Option.some.inj h
            exact ⟨_, _, _, rfl, HC.out.own, HC.out.gro, fun g hg => (HC.out.new g hg).elim .inl (fun h => .inr (Nat.le_of_succ_le h))⟩
      refine ⟨fun M hM => (key (some M) (by show _ = _; rw [← hcz]; exact hM.out)).mono fun e w' h => h.1 M rfl, fun hM => (key none (by show _ = _; rw [← hcz]; exact hM.out)).mono fun e w' h => h.2 rfl⟩
end Go.Proofs.YtohjllnfnkajjaaGreat
