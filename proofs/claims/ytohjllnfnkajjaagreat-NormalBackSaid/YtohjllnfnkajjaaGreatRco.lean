/- Contracts of the reference: Add. -/
import Derived.Test.YtohjllnfnkajjaaGreatRsz
namespace Go.Proofs.YtohjllnfnkajjaaGreat
open Go.RowKit
set_option linter.unusedVariables false
set_option linter.unusedSimpArgs false

theorem gB_step {a w c : World} {r s : Option Nat} (h : a.grownBy w r) (k : w.grownBy c s) (hs : ∀ g, s = some g → r = some g ∨ a.heap.size ≤ g) : a.grownBy c r :=
  ⟨k.os.trans h.os, k.tape.trans h.tape, k.output.trans h.output, Nat.le_trans h.size k.size, fun q hq hn =>
    (k.block q (Nat.lt_of_lt_of_le hq h.size) (fun e => by
      rcases hs q e.symm with h1 | h1
      · exact hn h1.symm
      · omega)).trans (h.block q hq hn)⟩
def AddY (base : Nat) (V : Value) (M : List A3) (w : World) (e : Ending) (w' : World) : Prop :=
  ∃ A n c, e = .returned (.tuple #[.slice A n c, .bool true]) ∧ OwnQ w' base (.slice A n c) M ∧ w.grownBy w' V.ownBlock ∧ (∀ g, (Value.slice A n c).ownBlock = some g → V.ownBlock = some g ∨ w.heap.size ≤ g)
def AddN (V : Value) (w : World) (e : Ending) (w' : World) : Prop :=
  ∃ A n c, e = .returned (.tuple #[.slice A n c, .bool false]) ∧ w.grownBy w' V.ownBlock
def ColOk (e : Ex) : Prop := ∀ (base : Nat) (A0 : Option Addr) (n0 c0 : Nat) (q : List A3) (k : Int) (s : ByteArray) (m u : Int) (A : Option Addr) (n c : Nat) (w : World),
  Hid (OwnQ w base (.slice A0 n0 c0) q) → base ≤ w.heap.size → Hid (TIn (Lo base) w ⟨k, s, m, u, A, n, c⟩ e) → Hid (q.length + e.cnt ≤ 1000) →
  (∀ M, Hid (coll e.pre q = some M) → Calls Tryz.prog 63 #[.slice A0 n0 c0, xe k s m u A n c] w (AddY base (.slice A0 n0 c0) M w)) ∧
  (Hid (coll e.pre q = none) → Calls Tryz.prog 63 #[.slice A0 n0 c0, xe k s m u A n c] w (AddN (.slice A0 n0 c0) w))
theorem coll_len : ∀ (x : List Ex) (l m : List A3), coll x l = some m → m.length ≤ l.length + x.length
  | [], l, m, h => by simp only [coll, Option.some.injEq] at h; subst h; simp
  | e :: x, l, m, h => by
    rw [coll] at h
    rw [List.length_cons]
    split at h
    · have := coll_len x l m h; omega
    · split at h
      · split at h
        · have := coll_len x l m h; omega
        · have := coll_len x _ m h; simp at this; omega
      · cases h
theorem grp_atom {k : Int} {a : A3} : grp (Ex.nd k a []) = false := by
  cases h : grp (.nd k a []) with
  | false => rfl
  | true => have := grp_is h; simp [Ex.k, Ex.l] at this; omega
theorem coll_one {k : Int} {s : ByteArray} {m u : Int} {q : List A3} (h : k = 0 ∧ Nam s ∧ usb m u = true) : coll (Ex.nd k (s, m, u) []).pre q = some (@ite _ ((s, m, u) ∈ q) (Classical.propDecidable _) q (q ++ [(s, m, u)])) := by
  rw [Ex.pre, preL, coll, coll, grp_atom, if_neg (by simp), if_pos (atm_nd.2 ⟨h.1, rfl, h.2.1, h.2.2⟩)]
  rfl
theorem coll_bad {k : Int} {s : ByteArray} {m u : Int} {q : List A3} (h : ¬ (k = 0 ∧ Nam s ∧ usb m u = true)) : coll (Ex.nd k (s, m, u) []).pre q = none := by
  rw [Ex.pre, preL, coll, grp_atom, if_neg (by simp), if_neg (fun h2 => h (by obtain ⟨a, _, b, c⟩ := atm_nd.1 h2; exact ⟨a, b, c⟩))]
theorem coll_kids {k : Int} {a : A3} {l : List Ex} {q : List A3} (hl : l ≠ []) : coll (Ex.nd k a l).pre q = if grp (.nd k a l) = true then coll (preL l) q else none := by
  rw [Ex.pre, coll]
  split
  · rfl
  · rw [if_neg]
    intro h
    exact hl (atm_is h).2.1
theorem mem_getD3 {l : List A3} {x : A3} (h : x ∈ l) : ∃ i, i < l.length ∧ l.getD i default = x := by
  obtain ⟨i, hi, e⟩ := List.getElem_of_mem h
  exact ⟨i, hi, by rw [List.getD_eq_getElem?_getD, List.getElem?_eq_getElem hi]; exact e⟩
theorem getD_mem3 {l : List A3} {i : Nat} (hi : i < l.length) : l.getD i default ∈ l := by
  rw [List.getD_eq_getElem?_getD, List.getElem?_eq_getElem hi]
  exact List.getElem_mem hi
set_option maxHeartbeats 8000000 in
set_option maxRecDepth 100000 in
theorem addq_atom (base : Nat) (A0 : Option Addr) (n0 c0 : Nat) (q : List A3) (s : ByteArray) (m u : Int) (A : Option Addr) (c : Nat) (w : World) (HO : Hid (OwnQ w base (.slice A0 n0 c0) q)) (hbase : base ≤ w.heap.size) (hlen : Hid (q.length + 1 ≤ 1000)) (hn : Hid (Nam s)) (hu : Hid (usb m u = true)) {M : List A3} (hM : Hid (M = @ite _ ((s, m, u) ∈ q) (Classical.propDecidable _) q (q ++ [(s, m, u)]))) :
    Calls Tryz.prog 63 #[.slice A0 n0 c0, xe 0 s m u A 0 c] w (AddY base (.slice A0 n0 c0) M w) := by
  obtain ⟨A', c', hV, hfit, hrd⟩ := HO.out.form
  obtain ⟨rfl, rfl, rfl⟩ : A0 = A' ∧ n0 = q.length ∧ c0 = c' := by simpa using hV
  obtain ⟨n0, hn0⟩ : ∃ n, Hid (q.length = n) := ⟨_, rfl⟩
  rw [hn0.out] at HO ⊢
  have hn8 : n0 ≤ 1000 := by have := hn0.out; have := hlen.out; omega
  have HR := Lib.hid hrd
  have HB0 := Lib.hid (newB w (.cells #[.int .i64 0, .string s, .int .i64 m, .int .i64 u, .slice A 0 c] 28))
  have HK1 := Lib.hid (Blk.new w [.int .i64 0, .string s, .int .i64 m, .int .i64 u, .slice A 0 c] 28 rfl)
  have HBASE := Lib.hid hbase
  clear hrd hV hfit hbase
  go_enter Tryz.func63, Tryz.ntmps63
  go_wp2_with (first
    | (go_at_call 88; refine (refNam_yes _ _ hn).mono ?_; rintro e W1 ⟨rfl, rfl⟩)
    | (go_at_call 89; refine (usable_is _ _ _ hu).mono ?_; rintro e W2 ⟨rfl, hb2⟩; have HB2 := Lib.hid (dn1 hb2); have HK2 := Lib.hid (HK1.out.up hb2 (by simp)); clear hb2))
  go_loopw [6] (fun i wr => ∃ (j : Nat), j ≤ n0 ∧ i = .int .i64 j ∧ Hid (∀ i, i < j → ¬ q.getD i default = (s, m, u)) ∧ Hid (Below w.heap.size w wr) ∧ Hid (Blk wr w.heap.size [.int .i64 0, .string s, .int .i64 m, .int .i64 u, .slice A 0 c])) (fun i _ => n0 - (intOf i).toNat)
  case atStart => exact ⟨0, by omega, rfl, (fun i hi => by omega), HB2.out, HK2.out⟩
  case round =>
    obtain ⟨j, hj, rfl, hno, hB, hK⟩ := hrel
    have q1 := hK.out.cell 1 rfl
    have q2 := hK.out.cell 2 rfl
    have q3 := hK.out.cell 3 rfl
    by_cases hlt : (j : Int) < (n0 : Int)
    · obtain ⟨g, o, s', m', u', rfl, hg, hx, c1, c2, c3⟩ := (HR.out.below hB.out).at_ (i := j) (by have := hn0.out; omega)
      have e5 : IntKind.i64.wrap ((j : Int) + 1) = (j : Int) + 1 := by rw [IntKind.wrap_i64]; omega
      have e0 : ∀ W, (binOp .eql 25 (av s' m' u') (av s m u)).run Tryz.prog W = .ok (.bool (eqS s' s && decide (m' = m ∧ u' = u))) W := fun W => eqAtom s' s m' u' m u W
      cases hq : (eqS s' s && decide (m' = m ∧ u' = u)) with
      | true =>
        rw [hq] at e0
        have hend : Hid (M = q) := by
          show _ = _
          rw [hM.out, if_pos]
          rw [← eq_a3.1 hq, ← hx.out]
          exact getD_mem3 (by have := hn0.out; omega)
        clear hq hM
        go_wp2
        go_quiet (fail)
        go_wp2
        go_ret2
        have e := hend.out
        subst e
        exact ⟨_, _, _, rfl, own_kept HO.out (fun q hq => (bdN hB.out _).block q (own_lt HO.out hq).2), gB_below (bdN hB.out _) (Nat.le_refl _), fun q hq => .inl hq⟩
      | false =>
        rw [hq] at e0
        have hno2 : Hid (∀ i, i < j + 1 → ¬ q.getD i default = (s, m, u)) := fun i hi e => by
          by_cases hjk : i = j
          · subst hjk
            rw [hx.out] at e
            rw [eq_a3.2 e] at hq
            cases hq
          · exact hno.out i (by omega) e
        clear hq
        go_wp2
        go_quiet (fail)
        go_wp2
        go_roundw
        case rel => exact ⟨j + 1, by omega, by go_num, hno2, bdN hB.out _, hK.out.of rfl⟩
        case measure => simp [intOf]; omega
    · have hend : Hid (M = q ++ [(s, m, u)]) := by
        show _ = _
        rw [hM.out, if_neg]
        intro hmem
        obtain ⟨i, hi, he⟩ := mem_getD3 hmem
        exact hno.out i (by have := hn0.out; omega) he
      have h1 : Hid ([((s, m, u) : A3)].length = 1) := rfl
      obtain ⟨k2, hk2⟩ : ∃ k2, Hid ((q ++ [((s, m, u) : A3)]).length = k2) := ⟨_, rfl⟩
      have hl2 : Hid (q.length + 1 ≤ 1000000) := by have := hn0.out; show _ ≤ _; omega
      have HO2 : Hid (OwnQ wr base (.slice A0 n0 c0) q) := by
        exact own_kept HO.out (fun q hq => hB.out.block q (own_lt HO.out hq).2)
      have HB1 := Lib.hid (show base ≤ wr.heap.size from Nat.le_trans HBASE.out hB.out.size)
      clear HO hM
      go_wp2_with (at_builtin; (refine app_atom rfl (.tmp 46) (.tmp 49) rfl base (.slice A0 n0 c0) q _ [(s, m, u)] 1 1 h1 rfl rfl (own_kept HO2.out (fun q hq => (newB wr _).block q (own_lt HO2.out hq).2)) (QRd.one_at _ _ _ _ _ rfl) hl2 (Nat.le_trans HB1.out (by simp)) ?_); intro V2 w2 ho2 hg2 hn2; obtain ⟨A2, c2, hV2, -⟩ := ho2.form; rw [hk2.out] at hV2; subst hV2; have HO3 := Lib.hid ho2; have HG2 := Lib.hid (gB_trans (gB_below (newB wr _) (Nat.le_refl _)) hg2); have HN2 := Lib.hid hn2; clear ho2 hg2 hn2)
      go_ret2
      have e := hend.out
      subst e
      refine ⟨_, _, _, rfl, HO3.out, gB_trans (gB_below hB.out (Nat.le_refl _)) HG2.out, fun q hq => ?_⟩
      have hs := hB.out.size
      rcases HN2.out with h | h
      · exact .inl (by rw [← h]; exact hq)
      · right
        rw [hq] at h
        injection h with h
        rw [h]
        simp
        omega
set_option maxHeartbeats 8000000 in
set_option maxRecDepth 100000 in
theorem addq_bad (A0 : Option Addr) (n0 c0 : Nat) (k : Int) (s : ByteArray) (m u : Int) (A : Option Addr) (c : Nat) (w : World) (hno : Hid (¬ (k = 0 ∧ Nam s ∧ usb m u = true))) :
    Calls Tryz.prog 63 #[.slice A0 n0 c0, xe k s m u A 0 c] w (AddN (.slice A0 n0 c0) w) := by
  by_cases h1 : k = 0
  · subst h1
    by_cases h3 : Nam s
    · have hn := Lib.hid h3
      have hu : Hid (usb m u = false) := by
        cases h : usb m u with
        | false => exact rfl
        | true => exact absurd ⟨rfl, h3, h⟩ hno.out
      clear h3 hno
      go_enter Tryz.func63, Tryz.ntmps63
      go_wp2_with (first
        | (go_at_call 88; refine (refNam_yes _ _ hn).mono ?_; rintro e W1 ⟨rfl, rfl⟩)
        | (go_at_call 89; refine (usable_is _ _ _ hu).mono ?_; rintro e W2 ⟨rfl, hb2⟩; have HB2 := Lib.hid (dn1 hb2); clear hb2))
      go_ret2
      exact ⟨_, _, _, rfl, gB_below HB2.out (Nat.le_refl _)⟩
    · have hn := Lib.hid h3
      clear h3 hno
      go_enter Tryz.func63, Tryz.ntmps63
      go_wp2_with (first
        | (go_at_call 88; refine (refNam_no _ _ hn).mono ?_; rintro e W1 ⟨rfl, rfl⟩))
      go_ret2
      exact ⟨_, _, _, rfl, gB_below (newB _ _) (Nat.le_refl _)⟩
  · clear hno
    have h2b : (k != 0) = true := by rw [bne_iff_ne]; exact h1
    have h2c : (k == 0) = false := by rw [beq_eq_false_iff_ne]; exact h1
    clear h1
    go_enter Tryz.func63, Tryz.ntmps63
    go_wp2
    go_ret2
    exact ⟨_, _, _, rfl, gB_below (newB _ _) (Nat.le_refl _)⟩
end Go.Proofs.YtohjllnfnkajjaaGreat
