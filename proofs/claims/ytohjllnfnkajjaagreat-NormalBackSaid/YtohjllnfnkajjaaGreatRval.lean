/- Contracts: within, isGroup, claimable, isAtom. Contracts: include. -/
import Derived.Test.YtohjllnfnkajjaaGreatRrows
namespace Go.Proofs.YtohjllnfnkajjaaGreat
open Go.RowKit
set_option linter.unusedVariables false
set_option linter.unusedSimpArgs false

def btw (a b c : Int) : Bool := decide (b ≤ a ∧ a ≤ c)
theorem within_any (a b c : Int) (w : World) : Calls Tryz.prog 92 #[.int .i64 a, .int .i64 b, .int .i64 c] w fun e w' => e = .returned (.bool (btw a b c)) ∧ w = w' := by
  obtain ⟨r, hr⟩ : ∃ r, Hid (btw a b c = r) := ⟨_, rfl⟩
  rw [hr.out]
  go_enter Tryz.func92, Tryz.ntmps92
  go_wp2
  all_goals (go_ret; have h := hr.out; unfold btw at h; clear hr; refine ⟨ret_bool ?_, rfl⟩; subst h; (try simp only [beq_iff_eq, beq_eq_false_iff_ne, ne_eq] at *); rw [Bool.eq_iff_iff]; simp; omega)
theorem within_is (a b c : Int) (w : World) {r : Bool} (hr : Hid (btw a b c = r)) : Calls Tryz.prog 92 #[.int .i64 a, .int .i64 b, .int .i64 c] w fun e w' => e = .returned (.bool r) ∧ w = w' := by
  rw [← hr.out]; exact within_any a b c w
theorem nam_yes (s : ByteArray) (w : World) (h : Hid (Nam s)) : Calls Tryz.prog 93 #[.string s] w fun e w' => e = .returned (.bool true) ∧ w = w' := nam_is s w ⟨fun _ => rfl, fun _ => h.out⟩
theorem nam_no (s : ByteArray) (w : World) (h : Hid (¬ Nam s)) : Calls Tryz.prog 93 #[.string s] w fun e w' => e = .returned (.bool false) ∧ w = w' := nam_is s w ⟨fun k => absurd k h.out, fun k => by cases k⟩
/-- Is the atom zero? -/
def azr (s : ByteArray) (m u : Int) : Bool := eqS s ⟨#[]⟩ && decide (m = 0 ∧ u = 0)
theorem azr_iff {s : ByteArray} {m u : Int} : azr s m u = true ↔ (s, m, u) = z3 := by
  unfold azr
  rw [Bool.and_eq_true, eqS_iff, decide_eq_true_iff]
  simp
def gB (k : Int) (s : ByteArray) (m u : Int) (n : Nat) : Bool := azr s m u && btw k 1 n
theorem gB_grp {k : Int} {a : A3} {l : List Ex} : gB k a.1 a.2.1 a.2.2 l.length = grp (.nd k a l) := by
  unfold gB grp btw
  rw [Bool.eq_iff_iff, Bool.and_eq_true, azr_iff, decide_eq_true_iff, decide_eq_true_iff]
  rfl
set_option maxHeartbeats 1000000 in
theorem isGroup_is (k : Int) (s : ByteArray) (m u : Int) (A : Option Addr) (n c : Nat) (w : World) {r : Bool} (hr : Hid (gB k s m u n = r)) :
    Calls Tryz.prog 66 #[xe k s m u A n c] w fun e w' => e = .returned (.bool r) ∧ Below w.heap.size w w' := by
  have e0 : ∀ W, (binOp .eql 25 (av s m u) (av ⟨#[]⟩ 0 0)).run Tryz.prog W = .ok (.bool (azr s m u)) W := fun W => eqAtom s ⟨#[]⟩ m u 0 0 W
  cases hz : azr s m u with
  | false =>
    have hend : Hid (r = false) := by have := hr.out; unfold gB at this; rw [hz] at this; exact this.symm
    rw [hz] at e0
    clear hr hz
    go_enter Tryz.func66, Tryz.ntmps66
    go_wp2
    go_ret
    exact ⟨ret_bool hend.out.symm, newB _ _⟩
  | true =>
    have hb : Hid (btw k 1 n = r) := by have := hr.out; unfold gB at this; rw [hz] at this; exact this
    rw [hz] at e0
    clear hr hz
    go_enter Tryz.func66, Tryz.ntmps66
    go_wp2_with (first | (go_at_call 92; refine (within_is _ _ _ _ hb).mono ?_; rintro e W1 ⟨rfl, rfl⟩))
    go_ret
    exact ⟨rfl, newB _ _⟩
theorem usb_fit (m u : Int) : (fit 1 1 m u || fit 2 8 m u) = usb m u := by
  unfold fit usb
  rw [Bool.eq_iff_iff, Bool.or_eq_true, decide_eq_true_iff, decide_eq_true_iff, decide_eq_true_iff]
  omega
set_option maxHeartbeats 1000000 in
theorem claimable_is (m u : Int) (w : World) {r : Bool} (hr : Hid (usb m u = r)) : Calls Tryz.prog 94 #[aa m u] w fun e w' => e = .returned (.bool r) ∧ Below w.heap.size w w' := by
  obtain ⟨x, hx⟩ : ∃ x, Hid (fit 1 1 m u = x) := ⟨_, rfl⟩
  obtain ⟨y, hy⟩ : ∃ y, Hid (fit 2 8 m u = y) := ⟨_, rfl⟩
  have hxy : Hid ((x || y) = r) := by show _ = _; rw [← hx.out, ← hy.out, usb_fit]; exact hr.out
  clear hr
  cases x with
  | true =>
    go_enter Tryz.func94, Tryz.ntmps94
    go_wp2_with (first | (go_at_call 119; (with_reducible refine (fits_is _ _ _ _ _ _ _ hx).mono ?_); rintro e W1 ⟨rfl, hb1⟩))
    go_ret
    exact ⟨ret_bool hxy.out, dn3 hb1⟩
  | false =>
    go_enter Tryz.func94, Tryz.ntmps94
    go_wp2_with (first
      | (go_at_call 119; (with_reducible refine (fits_is _ _ _ _ _ _ _ hx).mono ?_); rintro e W1 ⟨rfl, hb1⟩; obtain ⟨hc1, hf1⟩ := bcell hb1; have HB1 := Lib.hid hb1; clear hb1)
      | (go_at_call 119; (with_reducible refine (fits_is _ _ _ _ _ _ _ hy).mono ?_); rintro e W2 ⟨rfl, hb2⟩; have HB2 := Lib.hid (nx HB1.out hb2); clear hb2))
    go_ret
    exact ⟨ret_bool (by simpa using hxy.out), dn3 HB2.out⟩
theorem atm_nd {k : Int} {s : ByteArray} {m u : Int} {l : List Ex} : atm (.nd k (s, m, u) l) = true ↔ k = 0 ∧ l.length = 0 ∧ Nam s ∧ usb m u = true :=
  ⟨fun h => by obtain ⟨h1, h2, h3, h4⟩ := atm_is h; exact ⟨h1, by rw [show l = [] from h2]; rfl, h3, h4⟩, fun ⟨h1, h2, h3, h4⟩ => atm_mk ⟨h1, List.eq_nil_of_length_eq_zero h2, h3, h4⟩⟩
set_option maxHeartbeats 1000000 in
theorem isAtom_yes (s : ByteArray) (m u : Int) (A : Option Addr) (c : Nat) (w : World) (hn : Hid (Nam s)) (hu : Hid (usb m u = true)) :
    Calls Tryz.prog 67 #[xe 0 s m u A 0 c] w fun e w' => e = .returned (.bool true) ∧ Below w.heap.size w w' := by
  go_enter Tryz.func67, Tryz.ntmps67
  go_wp2_with (first
    | (go_at_call 93; refine (nam_yes _ _ hn).mono ?_; rintro e W1 ⟨rfl, rfl⟩)
    | (go_at_call 94; refine (claimable_is _ _ _ hu).mono ?_; rintro e W2 ⟨rfl, hb2⟩))
  go_ret
  exact ⟨rfl, dn1 hb2⟩
set_option maxHeartbeats 1000000 in
theorem isAtom_no (k : Int) (s : ByteArray) (m u : Int) (A : Option Addr) (n c : Nat) (w : World) (hno : Hid (¬ (k = 0 ∧ n = 0 ∧ Nam s ∧ usb m u = true))) :
    Calls Tryz.prog 67 #[xe k s m u A n c] w fun e w' => e = .returned (.bool false) ∧ Below w.heap.size w w' := by
  by_cases h1 : k = 0
  · subst h1
    by_cases h2 : n = 0
    · subst h2
      by_cases h3 : Nam s
      · have hn := Lib.hid h3
        have hu : Hid (usb m u = false) := by
          cases h : usb m u with
          | false => exact rfl
          | true => exact absurd ⟨rfl, rfl, h3, h⟩ hno.out
        clear h3 hno
        go_enter Tryz.func67, Tryz.ntmps67
        go_wp2_with (first
          | (go_at_call 93; refine (nam_yes _ _ hn).mono ?_; rintro e W1 ⟨rfl, rfl⟩)
          | (go_at_call 94; refine (claimable_is _ _ _ hu).mono ?_; rintro e W2 ⟨rfl, hb2⟩))
        go_ret
        exact ⟨rfl, dn1 hb2⟩
      · have hn := Lib.hid h3
        clear h3 hno
        go_enter Tryz.func67, Tryz.ntmps67
        go_wp2_with (first
          | (go_at_call 93; refine (nam_no _ _ hn).mono ?_; rintro e W1 ⟨rfl, rfl⟩))
        go_ret
        exact ⟨rfl, newB _ _⟩
    · clear hno
      have h2b : ((n : Int) == 0) = false := by rw [beq_eq_false_iff_ne]; omega
      clear h2
      go_enter Tryz.func67, Tryz.ntmps67
      go_wp2
      go_ret
      exact ⟨rfl, newB _ _⟩
  · clear hno
    have h2b : (k == 0) = false := by rw [beq_eq_false_iff_ne]; exact h1
    go_enter Tryz.func67, Tryz.ntmps67
    go_wp2
    go_ret
    exact ⟨rfl, newB _ _⟩
end Go.Proofs.YtohjllnfnkajjaaGreat

namespace Go.Proofs.YtohjllnfnkajjaaGreat
open Go.RowKit
set_option linter.unusedVariables false
set_option linter.unusedSimpArgs false

theorem app_atom {w : World} {ops : Array Oper} {rest : List Oper} {o : Oper} {a : Act} {Q : Exit → Act → World → Prop} (hgd : Region.wanted o (yielded ops a.tmps) = true) (s y : Operand)
    (ho : o.op = .call { callee := .builtin .append, args := #[s, y], argTypes := #[37, 37] })
    (base : Nat) (V : Value) (xs : List A3) (A : Option Addr) (ys : List A3) (n c : Nat) (hn : Hid (ys.length = n)) (hv : a.eval s = V) (hx : a.eval y = .slice A n c)
    (hd : OwnQ w base V xs) (hs : QRd w A ys) (hlen : Hid (xs.length + n ≤ 1000000)) (hbase : base ≤ w.heap.size)
    (h : ∀ V' w', OwnQ w' base V' (xs ++ ys) → w.grownBy w' V.ownBlock → (V'.ownBlock = V.ownBlock ∨ V'.ownBlock = some w.heap.size) → wpList Tryz.prog ops Q rest (a.put o.dst V') w') :
    wpList Tryz.prog ops Q (o :: rest) a w := by
  have hn' := hn.out
  subst hn'
  obtain ⟨i0, hi, hz0, hz1, hz2⟩ := info_parts atom_info
  have hl := hlen.out
  refine wpList_app w hgd s y 37 37 ho base 25 i0 _ 3 32 Tryz.underlying37 hi hz0 hz1 hz2 rfl V xs.length (avs xs) _ ys.length (avs ys) hv hx (.inl hd)
    (Src.atoms Tryz.underlying37 c hs) (by simp only [maxLen]; omega) (fits_half (by omega)) hbase (fun V' w' h1 h2 h3 h4 => h V' w' ?_ (h3 hd) h4)
  unfold OwnQ
  rw [List.length_append, avs_append]
  exact h1
theorem ZA.new (w : World) (T : TypeId) (s : ByteArray) (m u : Int) : ZA (w.alloc (.cells #[.string s, .int .i64 m, .int .i64 u] T)) w.heap.size 0 (s, m, u) := ⟨by simp, by simp, by simp⟩
theorem scan_drop {l : List A3} {j : Nat} (h : j < l.length) (a : A3) : scan (l.drop j) a = if l.getD j default = a then some true else if (l.getD j default).1 = a.1 then some false else scan (l.drop (j + 1)) a := by
  rw [List.drop_eq_getElem_cons h, scan, List.getD_eq_getElem?_getD, List.getElem?_eq_getElem h]
  rfl
theorem eq_a3 {s t : ByteArray} {m u m' u' : Int} : (eqS s t && decide (m = m' ∧ u = u')) = true ↔ (s, m, u) = ((t, m', u') : A3) := by
  rw [Bool.and_eq_true, eqS_iff, decide_eq_true_iff]
  simp
theorem gB_refl (w : World) (r : Option Nat) : w.grownBy w r := ⟨rfl, rfl, rfl, Nat.le_refl _, fun _ _ _ => rfl⟩
theorem gB_below {a w : World} {r : Option Nat} {B : Nat} (h : Below B a w) (hB : a.heap.size ≤ B) : a.grownBy w r := ⟨h.os, h.tape, h.output, h.size, fun k hk _ => h.block k (by omega)⟩
theorem gB_trans {a w c : World} {r : Option Nat} (h : a.grownBy w r) (k : w.grownBy c r) : a.grownBy c r :=
  ⟨k.os.trans h.os, k.tape.trans h.tape, k.output.trans h.output, Nat.le_trans h.size k.size, fun q hq hn => (k.block q (Nat.lt_of_lt_of_le hq h.size) hn).trans (h.block q hq hn)⟩
/-- What include answers where all is well. -/
def IncY (base : Nat) (V : Value) (l' : List A3) (w : World) (e : Ending) (w' : World) : Prop :=
  ∃ A n c, e = .returned (.tuple #[.slice A n c, .int .i64 0]) ∧ OwnQ w' base (.slice A n c) l' ∧ w.grownBy w' V.ownBlock ∧ (∀ g, (Value.slice A n c).ownBlock = some g → V.ownBlock = some g ∨ w.heap.size ≤ g)
set_option maxHeartbeats 4000000 in
set_option maxRecDepth 8000 in
theorem include_yes (base : Nat) (A : Option Addr) (n c : Nat) (l : List A3) (s : ByteArray) (m u : Int) (w : World) (hO : OwnQ w base (.slice A n c) l) (hbase : base ≤ w.heap.size) (h8 : l.length ≤ 8) {l' : List A3} (hi : Hid (incl l (s, m, u) = (l', 0))) :
    Calls Tryz.prog 68 #[.slice A n c, av s m u] w (IncY base (.slice A n c) l' w) := by
  obtain ⟨A', c', hV, hfit, hrd⟩ := hO.form
  obtain ⟨rfl, rfl, rfl⟩ : A = A' ∧ n = l.length ∧ c = c' := by simpa using hV
  obtain ⟨n, hn⟩ : ∃ n, Hid (l.length = n) := ⟨_, rfl⟩
  rw [hn.out] at hO ⊢
  have HO := Lib.hid hO
  have hn8 : n ≤ 8 := by have := hn.out; omega
  have HR := Lib.hid hrd
  clear hrd hV hO h8
  go_enter Tryz.func68, Tryz.ntmps68
  go_wp2
  go_loopw [10] (fun i wr => ∃ (j : Nat), j ≤ n ∧ i = .int .i64 j ∧ Hid (scan (l.drop j) (s, m, u) = scan l (s, m, u)) ∧ Hid (Below w.heap.size w wr) ∧ Hid (ZA wr w.heap.size 0 (s, m, u))) (fun i _ => n - (intOf i).toNat)
  case atStart => exact ⟨0, by omega, rfl, rfl, newB _ _, ZA.new _ _ _ _ _⟩
  case round =>
    obtain ⟨j, hj, rfl, hsc, hB, hZ⟩ := hrel
    obtain ⟨a0, a1, a2⟩ := hZ.out
    simp only [Nat.zero_add] at a1 a2
    have hk := hZ.out.lt
    by_cases hlt : (j : Int) < (n : Int)
    · obtain ⟨g, o, s', m', u', rfl, hg, hx, c1, c2, c3⟩ := (HR.out.below hB.out).at_ (i := j) (by have := hn.out; omega)
      have e5 : IntKind.i64.wrap ((j : Int) + 1) = (j : Int) + 1 := by rw [IntKind.wrap_i64]; omega
      have hstep : Hid (scan l (s, m, u) = if (s', m', u') = ((s, m, u) : A3) then some true else if s' = s then some false else scan (l.drop (j + 1)) (s, m, u)) := by
        show _ = _
        rw [← hsc.out, scan_drop (by have := hn.out; omega), hx.out]
      have e0 : ∀ W, (binOp .eql 25 (av s' m' u') (av s m u)).run Tryz.prog W = .ok (.bool (eqS s' s && decide (m' = m ∧ u' = u))) W := fun W => eqAtom s' s m' u' m u W
      cases hq : (eqS s' s && decide (m' = m ∧ u' = u)) with
      | true =>
        rw [hq] at e0
        have hend : Hid (l' = l) := by
          have h1 := hi.out
          have h2 := hstep.out
          rw [if_pos (eq_a3.1 hq)] at h2
          unfold incl at h1
          rw [h2] at h1
          exact (Prod.mk.inj h1).1.symm
        clear hi hq
        go_wp2
        go_ret2
        have e := hend.out
        subst e
        have hb2 : Below w.heap.size w (wr.alloc (.cells #[.string s', .int .i64 m', .int .i64 u'] 25)) := hB.out.alloc hB.out.size _
        exact ⟨_, _, _, rfl, own_kept HO.out (fun q hq => hb2.block q (own_lt HO.out hq).2), gB_below hb2 (Nat.le_refl _), fun q hq => .inl hq⟩
      | false =>
        rw [hq] at e0
        by_cases he0 : s' = s
        · exfalso
          have h1 := hi.out
          have h2 := hstep.out
          rw [if_neg (fun h => by rw [eq_a3.2 h] at hq; cases hq), if_pos he0] at h2
          unfold incl at h1
          rw [h2] at h1
          simp at h1
        · have he : (s'.toList == s.toList) = false := eqS_no.2 he0
          have hsc2 : Hid (scan (l.drop (j + 1)) (s, m, u) = scan l (s, m, u)) := by
            have h2 := hstep.out
            rw [if_neg (fun h => by rw [eq_a3.2 h] at hq; cases hq), if_neg he0] at h2
            exact h2.symm
          clear hq he0 hstep
          go_wp2
          go_roundw
          case rel => exact ⟨j + 1, by omega, by go_num, hsc2, hB.out.alloc hB.out.size _, hZ.out.of ((newB wr _).block _ hk)⟩
          case measure => simp [intOf]; omega
    · have hnone : Hid (scan l (s, m, u) = none) := by
        have := hsc.out
        rw [List.drop_eq_nil_of_le (by have := hn.out; omega)] at this
        exact this.symm
      have hne8 : ¬ n = 8 := by
        rintro rfl
        have h1 := hi.out
        unfold incl at h1
        rw [hnone.out] at h1
        simp [hn.out] at h1
      have hend : Hid (l' = l ++ [(s, m, u)]) := by
        have h1 := hi.out
        unfold incl at h1
        rw [hnone.out] at h1
        simp only [hn.out, if_neg hne8] at h1
        exact (Prod.mk.inj h1).1.symm
      have h8b : ((n : Int) == 8) = false := by rw [beq_eq_false_iff_ne]; omega
      have h1 : Hid ([((s, m, u) : A3)].length = 1) := rfl
      obtain ⟨k2, hk2⟩ : ∃ k2, Hid ((l ++ [((s, m, u) : A3)]).length = k2) := ⟨_, rfl⟩
      have hl2 : Hid (l.length + 1 ≤ 1000000) := by have := hn.out; show _ ≤ _; omega
      have HO2 : Hid (OwnQ wr base (.slice A n c) l) := by
        exact own_kept HO.out (fun q hq => hB.out.block q (own_lt HO.out hq).2)
      have HB0 := Lib.hid (show base ≤ wr.heap.size from Nat.le_trans hbase hB.out.size)
      clear hi hne8 hsc HO
      go_wp2_with (at_builtin; (refine app_atom rfl (.tmp 29) (.tmp 31) rfl base (.slice A n c) l _ [(s, m, u)] 1 1 h1 rfl rfl (own_kept HO2.out (fun q hq => (newB wr _).block q (own_lt HO2.out hq).2)) (QRd.one_at _ _ _ _ _ rfl) hl2 (Nat.le_trans HB0.out (by simp)) ?_); intro V2 w2 ho2 hg2 hn2; obtain ⟨A2, c2, hV2, -⟩ := ho2.form; rw [hk2.out] at hV2; subst hV2; have HO3 := Lib.hid ho2; have HG2 := Lib.hid (gB_trans (gB_below (newB wr _) (Nat.le_refl _)) hg2); have HN2 := Lib.hid hn2; clear ho2 hg2 hn2)
      go_ret2
      have e := hend.out
      subst e
      refine ⟨_, _, _, rfl, HO3.out, gB_trans (gB_below hB.out (Nat.le_refl _)) HG2.out, fun q hq => ?_⟩
      have hs := hB.out.size
      rcases HN2.out with h | h
      · exact .inl (by rw [← h]; exact hq)
      · right
        rw [hq] at h
        injection h with h
        rw [h]
        simp
        omega
set_option maxHeartbeats 4000000 in
set_option maxRecDepth 8000 in
theorem include_no (base : Nat) (A : Option Addr) (n c : Nat) (l : List A3) (s : ByteArray) (m u : Int) (w : World) (hO : OwnQ w base (.slice A n c) l) (h8 : l.length ≤ 8) {l' : List A3} {x : Int} (hi : Hid (incl l (s, m, u) = (l', x))) (hx0 : Hid (x ≠ 0)) :
    Calls Tryz.prog 68 #[.slice A n c, av s m u] w fun e w' => e = .returned (.tuple #[.slice none 0 0, .int .i64 x]) ∧ Below w.heap.size w w' := by
  obtain ⟨A', c', hV, hfit, hrd⟩ := hO.form
  obtain ⟨rfl, rfl, rfl⟩ : A = A' ∧ n = l.length ∧ c = c' := by simpa using hV
  obtain ⟨n, hn⟩ : ∃ n, Hid (l.length = n) := ⟨_, rfl⟩
  rw [hn.out]
  have hn8 : n ≤ 8 := by have := hn.out; omega
  have HR := Lib.hid hrd
  clear hrd hV hO h8
  go_enter Tryz.func68, Tryz.ntmps68
  go_wp2
  go_loopw [10] (fun i wr => ∃ (j : Nat), j ≤ n ∧ i = .int .i64 j ∧ Hid (scan (l.drop j) (s, m, u) = scan l (s, m, u)) ∧ Hid (Below w.heap.size w wr) ∧ Hid (ZA wr w.heap.size 0 (s, m, u))) (fun i _ => n - (intOf i).toNat)
  case atStart => exact ⟨0, by omega, rfl, rfl, newB _ _, ZA.new _ _ _ _ _⟩
  case round =>
    obtain ⟨j, hj, rfl, hsc, hB, hZ⟩ := hrel
    obtain ⟨a0, a1, a2⟩ := hZ.out
    simp only [Nat.zero_add] at a1 a2
    have hk := hZ.out.lt
    by_cases hlt : (j : Int) < (n : Int)
    · obtain ⟨g, o, s', m', u', rfl, hg, hx, c1, c2, c3⟩ := (HR.out.below hB.out).at_ (i := j) (by have := hn.out; omega)
      have e5 : IntKind.i64.wrap ((j : Int) + 1) = (j : Int) + 1 := by rw [IntKind.wrap_i64]; omega
      have hstep : Hid (scan l (s, m, u) = if (s', m', u') = ((s, m, u) : A3) then some true else if s' = s then some false else scan (l.drop (j + 1)) (s, m, u)) := by
        show _ = _
        rw [← hsc.out, scan_drop (by have := hn.out; omega), hx.out]
      have e0 : ∀ W, (binOp .eql 25 (av s' m' u') (av s m u)).run Tryz.prog W = .ok (.bool (eqS s' s && decide (m' = m ∧ u' = u))) W := fun W => eqAtom s' s m' u' m u W
      cases hq : (eqS s' s && decide (m' = m ∧ u' = u)) with
      | true =>
        exfalso
        have h1 := hi.out
        have h2 := hstep.out
        rw [if_pos (eq_a3.1 hq)] at h2
        unfold incl at h1
        rw [h2] at h1
        exact hx0.out (Prod.mk.inj h1).2.symm
      | false =>
        rw [hq] at e0
        by_cases he0 : s' = s
        · have he : (s'.toList == s.toList) = true := eqS_iff.2 he0
          have hend : Hid (x = 13) := by
            have h1 := hi.out
            have h2 := hstep.out
            rw [if_neg (fun h => by rw [eq_a3.2 h] at hq; cases hq), if_pos he0] at h2
            unfold incl at h1
            rw [h2] at h1
            exact (Prod.mk.inj h1).2.symm
          clear hi hq he0 hstep
          go_wp2
          go_ret2
          have e := hend.out
          subst e
          exact ⟨rfl, hB.out.alloc hB.out.size _⟩
        · have he : (s'.toList == s.toList) = false := eqS_no.2 he0
          have hsc2 : Hid (scan (l.drop (j + 1)) (s, m, u) = scan l (s, m, u)) := by
            have h2 := hstep.out
            rw [if_neg (fun h => by rw [eq_a3.2 h] at hq; cases hq), if_neg he0] at h2
            exact h2.symm
          clear hq he0 hstep
          go_wp2
          go_roundw
          case rel => exact ⟨j + 1, by omega, by go_num, hsc2, hB.out.alloc hB.out.size _, hZ.out.of ((newB wr _).block _ hk)⟩
          case measure => simp [intOf]; omega
    · have hnone : Hid (scan l (s, m, u) = none) := by
        have := hsc.out
        rw [List.drop_eq_nil_of_le (by have := hn.out; omega)] at this
        exact this.symm
      have he8 : n = 8 := by
        rcases Nat.lt_or_ge n 8 with h | h
        · exfalso
          have h1 := hi.out
          unfold incl at h1
          rw [hnone.out] at h1
          simp only [hn.out, if_neg (show ¬ n = 8 by omega)] at h1
          exact hx0.out (Prod.mk.inj h1).2.symm
        · omega
      have hend : Hid (x = 4) := by
        have h1 := hi.out
        unfold incl at h1
        rw [hnone.out] at h1
        simp only [hn.out, if_pos he8] at h1
        exact (Prod.mk.inj h1).2.symm
      have h8b : ((n : Int) == 8) = true := by rw [beq_iff_eq]; omega
      clear hi he8 hsc
      go_wp2
      go_ret2
      have e := hend.out
      subst e
      exact ⟨rfl, hB.out⟩
end Go.Proofs.YtohjllnfnkajjaaGreat
