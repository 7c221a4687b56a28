/- Contracts of the reference: Size, Nodes, Usable. -/
import Derived.Test.YtohjllnfnkajjaaGreatRvx
namespace Go.Proofs.YtohjllnfnkajjaaGreat
open Go.RowKit
set_option linter.unusedVariables false
set_option linter.unusedSimpArgs false

def szN (d : Nat) (e : Ex) : Nat := if lim d 0 e = true then e.cnt else 25
def szD (d : Nat) (e : Ex) : Nat := if lim d 0 e = true then e.dp else 0
theorem sz_yes {d : Nat} {e : Ex} (h : d + e.dp ≤ 5 ∧ e.cnt ≤ 24) : szN d e = e.cnt ∧ szD d e = e.dp := by
  have : lim d 0 e = true := decide_eq_true (by omega)
  unfold szN szD
  rw [if_pos this, if_pos this]
  exact ⟨rfl, rfl⟩
theorem sz_no {d : Nat} {e : Ex} (h : ¬ (d + e.dp ≤ 5 ∧ e.cnt ≤ 24)) : szN d e = 25 ∧ szD d e = 0 := by
  have : lim d 0 e = false := decide_eq_false (by omega)
  unfold szN szD
  rw [this]
  exact ⟨rfl, rfl⟩
theorem sz_le (d : Nat) (e : Ex) (hd : 1 ≤ d) : szN d e ≤ 25 ∧ szD d e ≤ 4 := by
  by_cases h : d + e.dp ≤ 5 ∧ e.cnt ≤ 24
  · obtain ⟨h1, h2⟩ := sz_yes h; omega
  · obtain ⟨h1, h2⟩ := sz_no h; omega
theorem tup2 {a b : Int} {x y : Nat} (h1 : a = (x : Int)) (h2 : b = (y : Int)) : Ending.returned (.tuple #[.int .i64 a, .int .i64 b]) = Ending.returned (.tuple #[.int .i64 (x : Int), .int .i64 (y : Int)]) := by rw [h1, h2]
def SzOk (e : Ex) : Prop := ∀ (k : Int) (s : ByteArray) (m u : Int) (A : Option Addr) (n c : Nat) (d : Nat) (D : Int) (w : World) (x y : Nat), Hid (TIn (Lo w.heap.size) w ⟨k, s, m, u, A, n, c⟩ e) → 1 ≤ d → d ≤ 5 → Hid (D = (d : Int)) → Hid (szN d e = x) → Hid (szD d e = y) →
  Calls Tryz.prog 43 #[xe k s m u A n c, .int .i64 D] w fun r w' => r = .returned (.tuple #[.int .i64 (x : Int), .int .i64 (y : Int)]) ∧ Below w.heap.size w w'
set_option maxHeartbeats 8000000 in
set_option maxRecDepth 100000 in
theorem size_all : ∀ e : Ex, SzOk e := by
  refine Ex.ind fun ek ea l ih => ?_
  intro k s m u A n c d D w x y HT h1 h5 hD hx hy
  have hD' := hD.out
  subst hD'
  clear hD
  obtain ⟨⟨hks, hnc, hcm⟩, hK⟩ := HT.out
  have hn : Hid (l.length = n) := by have := (Prod.mk.inj (Prod.mk.inj hks).2).2; exact this.symm
  have hmx : n ≤ 9223372036854775807 := by have h1 : n ≤ c := hnc; have h2 : c ≤ maxLen := hcm; unfold maxLen at h2; omega
  have HK : Hid (KRd (Lo w.heap.size) w A l) := hK
  have hK1 := Blk.new w [.int .i64 k, .string s, .int .i64 m, .int .i64 u, .slice A n c] 28 rfl
  have HK1 := Lib.hid hK1
  have HB0 := Lib.hid (newB w (.cells #[.int .i64 k, .string s, .int .i64 m, .int .i64 u, .slice A n c] 28))
  have hbad : ¬ (d + (Ex.nd ek ea l).dp ≤ 5 ∧ (Ex.nd ek ea l).cnt ≤ 24) → x = 25 ∧ y = 0 := fun h => by
    obtain ⟨g1, g2⟩ := sz_no h
    exact ⟨hx.out.symm.trans g1, hy.out.symm.trans g2⟩
  have HBAD := Lib.hid hbad
  clear hks hK hcm hnc hK1 hbad
  by_cases hd4 : 4 < (d : Int)
  · have hend := Lib.hid (HBAD.out (by have := dp_pos (Ex.nd ek ea l); omega))
    clear hx hy
    go_enter Tryz.func43, Tryz.ntmps43
    go_wp2
    go_ret2
    obtain ⟨e1, e2⟩ := hend.out
    subst e1 e2
    exact ⟨rfl, HB0.out⟩
  · by_cases h24 : 24 < (n : Int)
    · have hend := Lib.hid (HBAD.out (by have := cntL_len l; have := hn.out; rw [Ex.cnt]; omega))
      clear hx hy
      go_enter Tryz.func43, Tryz.ntmps43
      go_wp2
      go_ret2
      obtain ⟨e1, e2⟩ := hend.out
      subst e1 e2
      exact ⟨rfl, HB0.out⟩
    · go_enter Tryz.func43, Tryz.ntmps43
      go_wp2
      go_loopw [6, 7, 8] (fun p q i wr => ∃ (j a b : Nat), j ≤ n ∧ a ≤ 24 ∧ b ≤ 4 ∧ i = .int .i64 j ∧ p = .int .i64 a ∧ q = .int .i64 b ∧ Hid (1 + cntL (l.take j) = a) ∧ Hid (dpL (l.take j) = b) ∧ Hid (d + 1 + b ≤ 5) ∧ Hid (Below w.heap.size w wr) ∧ Hid (Blk wr w.heap.size [.int .i64 k, .string s, .int .i64 m, .int .i64 u, .slice A n c])) (fun _ _ i _ => n - (intOf i).toNat)
      case atStart => exact ⟨0, 1, 0, by omega, by omega, by omega, rfl, rfl, rfl, (by show _ = _; simp [cntL]), (by show _ = _; simp [dpL]), (by show _ ≤ _; omega), HB0.out, HK1.out⟩
      case round =>
        obtain ⟨j, a, b, hj, ha, hb, rfl, rfl, rfl, HA, HBd, HD5, hB, hKw⟩ := hrel
        have q4 := hKw.out.cell 4 rfl
        by_cases hlt : (j : Int) < (n : Int)
        · have hjl : j < l.length := by have := hn.out; omega
          obtain ⟨g, o, ⟨k1, s1, m1, u1, A1, n1, c1⟩, rfl, hgb, hgs, ⟨z0, z1, z2, z3, z4⟩, hT1⟩ := (HK.out.lo hB.out).at_ hjl
          have IH := Lib.hid (ih _ (getD_memX hjl))
          have hct := cntL_take hjl
          have hdt := dpL_take hjl
          have hcle := cntL_take_le l (j + 1)
          have hdle := dpL_take_le l (j + 1)
          obtain ⟨f, hf⟩ : ∃ f, Hid (l.getD j default = f) := ⟨_, rfl⟩
          rw [hf.out] at IH hT1 hct hdt
          have HT1 : Hid (TIn (Lo wr.heap.size) wr ⟨k1, s1, m1, u1, A1, n1, c1⟩ f) := hT1.mono (fun b h => Nat.lt_of_lt_of_le h hB.out.size)
          obtain ⟨x1, hx1⟩ : ∃ x1, Hid (szN (d + 1) f = x1) := ⟨_, rfl⟩
          obtain ⟨y1, hy1⟩ : ∃ y1, Hid (szD (d + 1) f = y1) := ⟨_, rfl⟩
          have hsl := sz_le (d + 1) f (by omega)
          rw [hx1.out, hy1.out] at hsl
          obtain ⟨hx25, hy4⟩ := hsl
          have hDD : Hid ((d : Int) + 1 = ((d + 1 : Nat) : Int)) := by show _ = _; omega
          have hd5 : d + 1 ≤ 5 := by omega
          have hd1 : 1 ≤ d + 1 := by omega
          by_cases hgt : 24 < (a : Int) + (x1 : Int)
          · have hend : Hid (x = 25 ∧ y = 0) := Lib.hid (HBAD.out (by
              rintro ⟨g1, g2⟩
              rw [Ex.cnt] at g2
              rw [Ex.dp] at g1
              by_cases hl : d + 1 + f.dp ≤ 5 ∧ f.cnt ≤ 24
              · have := (sz_yes hl).1
                have := hx1.out
                have := HA.out
                omega
              · apply hl
                have := dpL_le (getD_memX hjl)
                have := cntL_le (getD_memX hjl)
                rw [hf.out] at *
                omega))
            clear hx hy HBAD HA HBd hct hdt hcle hdle hT1
            by_cases hyb : (b : Int) < (y1 : Int)
            all_goals
              go_wp2_with (go_at_call 43; refine (IH.out k1 s1 m1 u1 A1 n1 c1 (d + 1) _ _ x1 y1 HT1 hd1 hd5 hDD hx1 hy1).mono ?_; rintro r W1 ⟨rfl, hb1⟩; have HB1 := Lib.hid hb1; clear hb1)
              go_ret2
              obtain ⟨e1, e2⟩ := hend.out
              subst e1 e2
              exact ⟨rfl, nx hB.out HB1.out⟩
          · have hl : d + 1 + f.dp ≤ 5 ∧ f.cnt ≤ 24 := by
              by_cases hl : d + 1 + f.dp ≤ 5 ∧ f.cnt ≤ 24
              · exact hl
              · exfalso
                have := (sz_no hl).1
                have := hx1.out
                have := HA.out
                omega
            obtain ⟨hl1, hl2⟩ := hl
            have ex : x1 = f.cnt := hx1.out.symm.trans (sz_yes ⟨hl1, hl2⟩).1
            have ey : y1 = f.dp := hy1.out.symm.trans (sz_yes ⟨hl1, hl2⟩).2
            have HA2 : Hid (1 + cntL (l.take (j + 1)) = a + x1) := by have := HA.out; show _ = _; omega
            have HB2 : Hid (dpL (l.take (j + 1)) = max b y1) := by have := HBd.out; show _ = _; omega
            have HY5 : Hid (d + 1 + max b y1 ≤ 5) := by have := HD5.out; show _ ≤ _; omega
            have hay : a + x1 ≤ 24 := by omega
            clear hx hy HBAD HA HBd hct hdt hcle hdle hT1 hl1 hl2 ex ey
            by_cases hyb : (b : Int) < (y1 : Int)
            · have hm : Hid (max b y1 = y1) := by show _ = _; omega
              rw [hm.out] at HB2 HY5
              go_wp2_with (go_at_call 43; refine (IH.out k1 s1 m1 u1 A1 n1 c1 (d + 1) _ _ x1 y1 HT1 hd1 hd5 hDD hx1 hy1).mono ?_; rintro r W1 ⟨rfl, hb1⟩; have HB1 := Lib.hid hb1; clear hb1)
              go_roundw
              case rel => exact ⟨j + 1, a + x1, y1, by omega, hay, hy4, by go_num, by go_num, rfl, HA2, HB2, HY5, nx hB.out HB1.out, hKw.out.up HB1.out hKw.out.lt⟩
              case measure => simp [intOf]; omega
            · have hm : Hid (max b y1 = b) := by show _ = _; omega
              rw [hm.out] at HB2 HY5
              go_wp2_with (go_at_call 43; refine (IH.out k1 s1 m1 u1 A1 n1 c1 (d + 1) _ _ x1 y1 HT1 hd1 hd5 hDD hx1 hy1).mono ?_; rintro r W1 ⟨rfl, hb1⟩; have HB1 := Lib.hid hb1; clear hb1)
              go_roundw
              case rel => exact ⟨j + 1, a + x1, b, by omega, hay, hb, by go_num, by go_num, rfl, HA2, HB2, HY5, nx hB.out HB1.out, hKw.out.up HB1.out hKw.out.lt⟩
              case measure => simp [intOf]; omega
        · have hjn : j = l.length := by have := hn.out; omega
          have hend : Hid (x = a ∧ y = b + 1) := by
            have h1 := HA.out
            have h2 := HBd.out
            rw [hjn, List.take_length] at h1 h2
            have g := sz_yes (d := d) (e := Ex.nd ek ea l) (by rw [Ex.dp, Ex.cnt]; have := HD5.out; omega)
            have h3 := hx.out
            have h4 := hy.out
            rw [g.1, Ex.cnt] at h3
            rw [g.2, Ex.dp] at h4
            show _ ∧ _
            omega
          clear hx hy HBAD HA HBd hjn
          go_wp2
          go_ret2
          obtain ⟨e1, e2⟩ := hend.out
          subst e1 e2
          exact ⟨tup2 rfl (by omega), hB.out⟩
def rnN (e : Ex) : Nat := if lim 1 0 e = true then e.cnt else 0
set_option maxHeartbeats 1000000 in
set_option maxRecDepth 8000 in
theorem refNodes_is {e : Ex} (k : Int) (s : ByteArray) (m u : Int) (A : Option Addr) (n c : Nat) (w : World) (hT : TIn (Lo w.heap.size) w ⟨k, s, m, u, A, n, c⟩ e) {v : Nat} (hv : Hid (rnN e = v)) :
    Calls Tryz.prog 23 #[xe k s m u A n c] w fun r w' => r = .returned (.int .i64 (v : Int)) ∧ Below w.heap.size w w' := by
  have HT := Lib.hid hT
  clear hT
  obtain ⟨x, hx⟩ : ∃ x, Hid (szN 1 e = x) := ⟨_, rfl⟩
  obtain ⟨y, hy⟩ : ∃ y, Hid (szD 1 e = y) := ⟨_, rfl⟩
  have h1 : Hid ((1 : Int) = ((1 : Nat) : Int)) := rfl
  have hx25 : x ≤ 25 := by have := (sz_le 1 e (by omega)).1; rw [hx.out] at this; exact this
  by_cases hl : 1 + e.dp ≤ 5 ∧ e.cnt ≤ 24
  · have hxv : Hid (x = v ∧ x ≤ 24) := by
      have h1 := hx.out
      have h2 := hv.out
      have h3 := (sz_yes hl).1
      unfold rnN at h2
      rw [if_pos (show lim 1 0 e = true from decide_eq_true (by omega))] at h2
      show _ ∧ _
      omega
    have hng : ¬ 24 < (x : Int) := by have := hxv.out.2; omega
    clear hl
    go_enter Tryz.func23, Tryz.ntmps23
    go_wp2_with (go_at_call 43; refine (size_all e k s m u A n c 1 _ _ x y (Lib.hid (HT.out.grow _)) (by omega) (by omega) h1 hx hy).mono ?_; rintro r W1 ⟨rfl, hb1⟩; have HB1 := Lib.hid (dn1 hb1); clear hb1)
    go_ret
    obtain ⟨e1, -⟩ := hxv.out
    subst e1
    exact ⟨rfl, HB1.out⟩
  · have hxv : Hid (x = 25 ∧ v = 0) := by
      have h1 := hx.out
      have h2 := hv.out
      have h3 := (sz_no hl).1
      unfold rnN at h2
      rw [show lim 1 0 e = false from decide_eq_false (by omega), if_neg (by simp)] at h2
      show _ ∧ _
      omega
    have hng : 24 < (x : Int) := by have := hxv.out.1; omega
    clear hl
    go_enter Tryz.func23, Tryz.ntmps23
    go_wp2_with (go_at_call 43; refine (size_all e k s m u A n c 1 _ _ x y (Lib.hid (HT.out.grow _)) (by omega) (by omega) h1 hx hy).mono ?_; rintro r W1 ⟨rfl, hb1⟩; have HB1 := Lib.hid (dn1 hb1); clear hb1)
    go_ret
    obtain ⟨-, e1⟩ := hxv.out
    subst e1
    exact ⟨rfl, HB1.out⟩
theorem refNam_yes (s : ByteArray) (w : World) (h : Hid (Nam s)) : Calls Tryz.prog 88 #[.string s] w fun e w' => e = .returned (.bool true) ∧ w = w' := refNam_is s w ⟨fun _ => rfl, fun _ => h.out⟩
theorem refNam_no (s : ByteArray) (w : World) (h : Hid (¬ Nam s)) : Calls Tryz.prog 88 #[.string s] w fun e w' => e = .returned (.bool false) ∧ w = w' := refNam_is s w ⟨fun k => absurd k h.out, fun k => by cases k⟩
theorem refVmd_is (a : Int) (w : World) {r : Bool} (h : Hid (vmd a = r)) : Calls Tryz.prog 114 #[.int .i64 a] w fun e w' => e = .returned (.bool r) ∧ w = w' := by rw [← h.out]; exact refValid_any a w
set_option maxHeartbeats 1000000 in
set_option maxRecDepth 8000 in
theorem usable_is (m u : Int) (w : World) {r : Bool} (hr : Hid (usb m u = r)) : Calls Tryz.prog 89 #[aa m u] w fun e w' => e = .returned (.bool r) ∧ Below w.heap.size w w' := by
  obtain ⟨v, hv⟩ : ∃ v, Hid (vmd m = v) := ⟨_, rfl⟩
  have hu : Hid (usb m u = ((v && decide (u = 0)) || (decide (m = 0) && decide (1 ≤ u) && decide (u ≤ 8)))) := by
    show _ = _
    rw [← hv.out]
    unfold usb vmd
    rw [Bool.eq_iff_iff]
    simp
    omega
  have hend : Hid (r = ((v && decide (u = 0)) || (decide (m = 0) && decide (1 ≤ u) && decide (u ≤ 8)))) := by show _ = _; rw [← hr.out]; exact hu.out
  clear hr hu
  cases v with
  | false =>
    go_enter Tryz.func89, Tryz.ntmps89
    go_wp2_with (go_at_call 114; refine (refVmd_is _ _ hv).mono ?_; rintro e W1 ⟨rfl, rfl⟩)
    all_goals (
      go_ret
      have h := hend.out
      refine ⟨ret_bool ?_, newB _ _⟩
      subst h
      (try simp only [beq_iff_eq, beq_eq_false_iff_ne, ne_eq] at *)
      rw [Bool.eq_iff_iff]
      simp
      omega)
  | true =>
    go_enter Tryz.func89, Tryz.ntmps89
    go_wp2_with (go_at_call 114; refine (refVmd_is _ _ hv).mono ?_; rintro e W1 ⟨rfl, rfl⟩)
    all_goals (
      go_ret
      have h := hend.out
      refine ⟨ret_bool ?_, newB _ _⟩
      subst h
      (try simp only [beq_iff_eq, beq_eq_false_iff_ne, ne_eq] at *)
      rw [Bool.eq_iff_iff]
      simp
      omega)
end Go.Proofs.YtohjllnfnkajjaaGreat
