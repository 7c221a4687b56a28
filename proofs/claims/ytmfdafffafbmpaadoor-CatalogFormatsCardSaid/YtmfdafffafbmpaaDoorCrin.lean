/- Contracts: Insert of the reference. -/
import Derived.Test.YtmfdafffafbmpaaDoorCins
namespace Go.Proofs.YtmfdafffafbmpaaDoor
open Go.RowKit
open Go.Sort (grow)
set_option linter.unusedVariables false
set_option linter.unusedSimpArgs false

theorem putL_lt {l : List P4} {p i : Nat} (r : P4) (hp : p ≤ l.length) (hi : i < p) : (putL l p r).getD i default = l.getD i default := by
  unfold putL
  rw [List.getD_eq_getElem?_getD, List.getElem?_append_left (by rw [List.length_take]; omega), List.getElem?_take, if_pos hi, List.getD_eq_getElem?_getD]
theorem putL_gt {l : List P4} {p i : Nat} (r : P4) (hp : p ≤ l.length) (hi : p ≤ i) : (putL l p r).getD (i + 1) default = l.getD i default := by
  unfold putL
  rw [List.getD_eq_getElem?_getD, List.getElem?_append_right (by rw [List.length_take]; omega), List.length_take, Nat.min_eq_left hp, show i + 1 - p = (i - p) + 1 by omega, List.getElem?_cons_succ, List.getElem?_drop, List.getD_eq_getElem?_getD, show p + (i - p) = i by omega]
theorem no4_b {l : List P4} {s : ByteArray} (h : No4 l s) : ¬ ∃ i, At4 l s i := fun ⟨i, hi⟩ => hi.not h
theorem no4_of {l : List P4} {s : ByteArray} (h : ¬ ∃ i, At4 l s i) : No4 l s := (at_or l s).resolve_left h
theorem find_no (A : Option Addr) (n c : Nat) (l : List P4) (nm : ByteArray) (w : World) (hl : InR w A n c l) (hb : Hid (¬ ∃ i, At4 l nm i)) :
    Calls Tryd.prog 26 #[.slice A n c, .string nm] w fun e w' => e = .returned (.tuple #[ra ⟨#[]⟩ 0 0 0, .bool false]) ∧ Below w.heap.size w w' := refFind_is A n c l nm w hl (.inr ⟨no4_of hb.out, rfl, rfl⟩)
theorem find_yes (A : Option Addr) (n c : Nat) (l : List P4) (nm : ByteArray) (w : World) (hl : InR w A n c l) {p : Nat} {s : ByteArray} {k u h : Int} (hp : Hid (At4 l nm p)) (hx : Hid (l.getD p default = (s, k, u, h))) :
    Calls Tryd.prog 26 #[.slice A n c, .string nm] w fun e w' => e = .returned (.tuple #[ra s k u h, .bool true]) ∧ Below w.heap.size w w' := refFind_is A n c l nm w hl (.inl ⟨p, hp.out, hx.out.symm, rfl⟩)
set_option maxHeartbeats 4000000 in
set_option maxRecDepth 8000 in
theorem refInsert_bad (A : Option Addr) (n c : Nat) (l : List P4) (s : ByteArray) (k u h : Int) (w : World) (hl : InR w A n c l) (hv : Hid (¬ Vcat l)) :
    Calls Tryd.prog 23 #[.slice A n c, ra s k u h] w fun e' w' => e' = .returned (.tuple #[.slice none 0 0, .int .i64 2]) ∧ Below w.heap.size w w' := by
  have HI := Lib.hid hl
  have hn : Hid (l.length = n) := hl.len
  clear hl
  go_enter Tryd.func23, Tryd.ntmps23
  go_wp2_with (first
    | (go_at_call 21; refine (refVcat_no _ _ _ _ _ (HI.out.rd.below (newB _ _)) hn hv).mono ?_; rintro e W1 ⟨rfl, hg1⟩; have hb1 := hg1.below; clear hg1; obtain ⟨hc1, hf1⟩ := bcell hb1))
  exact bodyPost_ret (v := .tuple #[.slice none 0 0, .int .i64 2]) (by simp [results, Tryd.results23, go_sem]) rfl ⟨rfl, dn1 hb1⟩
set_option maxHeartbeats 4000000 in
set_option maxRecDepth 8000 in
theorem refInsert_name (A : Option Addr) (n c : Nat) (l : List P4) (s : ByteArray) (k u h : Int) (w : World) (hl : InR w A n c l) (hv : Hid (Vcat l)) (hnm : Hid (¬ Nam s)) :
    Calls Tryd.prog 23 #[.slice A n c, ra s k u h] w fun e' w' => e' = .returned (.tuple #[.slice none 0 0, .int .i64 9]) ∧ Below w.heap.size w w' := by
  have HI := Lib.hid hl
  have hn : Hid (l.length = n) := hl.len
  clear hl
  go_enter Tryd.func23, Tryd.ntmps23
  go_wp2_with (first
    | (go_at_call 21; refine (refVcat_yes _ _ _ _ _ (HI.out.rd.below (newB _ _)) hn hv).mono ?_; rintro e W1 ⟨rfl, hg1⟩; have hb1 := hg1.below; clear hg1; obtain ⟨hc1, hf1⟩ := bcell hb1)
    | (go_at_call 17; refine (refNam_no _ _ hnm).mono ?_; rintro e W3 ⟨rfl, rfl⟩))
  exact bodyPost_ret (v := .tuple #[.slice none 0 0, .int .i64 9]) (by simp [results, Tryd.results23, go_sem]) rfl ⟨rfl, dn1 hb1⟩
set_option maxHeartbeats 4000000 in
set_option maxRecDepth 8000 in
theorem refInsert_arg (A : Option Addr) (n c : Nat) (l : List P4) (s : ByteArray) (k u h : Int) (w : World) (hl : InR w A n c l) (hv : Hid (Vcat l)) (hnm : Hid (Nam s)) (hrs : Hid (¬ Rsr s k u h)) :
    Calls Tryd.prog 23 #[.slice A n c, ra s k u h] w fun e' w' => e' = .returned (.tuple #[.slice none 0 0, .int .i64 1]) ∧ Below w.heap.size w w' := by
  have HI := Lib.hid hl
  have hn : Hid (l.length = n) := hl.len
  clear hl
  go_enter Tryd.func23, Tryd.ntmps23
  go_wp2_with (first
    | (go_at_call 21; refine (refVcat_yes _ _ _ _ _ (HI.out.rd.below (newB _ _)) hn hv).mono ?_; rintro e W1 ⟨rfl, hg1⟩; have hb1 := hg1.below; clear hg1; obtain ⟨hc1, hf1⟩ := bcell hb1)
    | (go_at_call 17; refine (refNam_yes _ _ hnm).mono ?_; rintro e W3 ⟨rfl, rfl⟩)
    | (go_at_call 19; refine (refRsr_no _ _ _ _ _ hrs).mono ?_; rintro e W4 ⟨rfl, hg4⟩; have hb4 := nx hb1 hg4.below; clear hg4; obtain ⟨hc4, hf4⟩ := bcell hb4))
  exact bodyPost_ret (v := .tuple #[.slice none 0 0, .int .i64 1]) (by simp [results, Tryd.results23, go_sem]) rfl ⟨rfl, dn1 hb4⟩
set_option maxHeartbeats 4000000 in
set_option maxRecDepth 8000 in
theorem refInsert_old (A : Option Addr) (n c : Nat) (l : List P4) (s : ByteArray) (k u h : Int) (w : World) (hl : InR w A n c l) (hv : Hid (Vcat l)) (hnm : Hid (Nam s)) (hrs : Hid (Rsr s k u h)) {p : Nat} (hp : Hid (At4 l s p)) :
    Calls Tryd.prog 23 #[.slice A n c, ra s k u h] w fun e' w' => e' = .returned (.tuple #[.slice none 0 0, .int .i64 11]) ∧ Below w.heap.size w w' := by
  have HI := Lib.hid hl
  have hn : Hid (l.length = n) := hl.len
  obtain ⟨s', k', u', h', hx⟩ : ∃ s' k' u' h', Hid (l.getD p default = (s', k', u', h')) := ⟨_, _, _, _, rfl⟩
  clear hl
  go_enter Tryd.func23, Tryd.ntmps23
  go_wp2_with (first
    | (go_at_call 21; refine (refVcat_yes _ _ _ _ _ (HI.out.rd.below (newB _ _)) hn hv).mono ?_; rintro e W1 ⟨rfl, hg1⟩; have hb1 := hg1.below; clear hg1; obtain ⟨hc1, hf1⟩ := bcell hb1)
    | (go_at_call 17; refine (refNam_yes _ _ hnm).mono ?_; rintro e W3 ⟨rfl, rfl⟩)
    | (go_at_call 19; refine (refRsr_yes _ _ _ _ _ hrs).mono ?_; rintro e W4 ⟨rfl, hg4⟩; have hb4 := nx hb1 hg4.below; clear hg4; obtain ⟨hc4, hf4⟩ := bcell hb4)
    | (go_at_call 26; refine (find_yes _ _ _ _ _ _ (HI.out.below (dn1 hb4)) hp hx).mono ?_; rintro e W5 ⟨rfl, hb5⟩; have hb5 := nx hb4 hb5; obtain ⟨hc5, hf5⟩ := bcell hb5))
  exact bodyPost_ret (v := .tuple #[.slice none 0 0, .int .i64 11]) (by simp [results, Tryd.results23, go_sem]) rfl ⟨rfl, nxA (dn1 hb5) _⟩
set_option maxHeartbeats 4000000 in
set_option maxRecDepth 8000 in
theorem refInsert_many (A : Option Addr) (n c : Nat) (l : List P4) (s : ByteArray) (k u h : Int) (w : World) (hl : InR w A n c l) (hv : Hid (Vcat l)) (hnm : Hid (Nam s)) (hrs : Hid (Rsr s k u h)) (hb : Hid (¬ ∃ i, At4 l s i)) (hfull : (n : Int) = 8) :
    Calls Tryd.prog 23 #[.slice A n c, ra s k u h] w fun e' w' => e' = .returned (.tuple #[.slice none 0 0, .int .i64 4]) ∧ Below w.heap.size w w' := by
  have HI := Lib.hid hl
  have hn : Hid (l.length = n) := hl.len
  clear hl
  go_enter Tryd.func23, Tryd.ntmps23
  go_wp2_with (first
    | (go_at_call 21; refine (refVcat_yes _ _ _ _ _ (HI.out.rd.below (newB _ _)) hn hv).mono ?_; rintro e W1 ⟨rfl, hg1⟩; have hb1 := hg1.below; clear hg1; obtain ⟨hc1, hf1⟩ := bcell hb1)
    | (go_at_call 17; refine (refNam_yes _ _ hnm).mono ?_; rintro e W3 ⟨rfl, rfl⟩)
    | (go_at_call 19; refine (refRsr_yes _ _ _ _ _ hrs).mono ?_; rintro e W4 ⟨rfl, hg4⟩; have hb4 := nx hb1 hg4.below; clear hg4; obtain ⟨hc4, hf4⟩ := bcell hb4)
    | (go_at_call 26; refine (find_no _ _ _ _ _ _ (HI.out.below (dn1 hb4)) hb).mono ?_; rintro e W5 ⟨rfl, hb5⟩; have hb5 := nx hb4 hb5; obtain ⟨hc5, hf5⟩ := bcell hb5))
  exact bodyPost_ret (v := .tuple #[.slice none 0 0, .int .i64 4]) (by simp [results, Tryd.results23, go_sem]) rfl ⟨rfl, nxA (dn1 hb5) _⟩
set_option maxHeartbeats 4000000 in
set_option maxRecDepth 8000 in
theorem refInsert_ok (A : Option Addr) (n c : Nat) (l : List P4) (s : ByteArray) (k u hm : Int) (w : World) (hl : InR w A n c l) (hvc : Vcat l) (hnm : Hid (Nam s)) (hrs : Hid (Rsr s k u hm)) (hb : Hid (¬ ∃ i, At4 l s i)) (hfull : ¬ (n : Int) = 8) {p : Nat} (hp : Hid (Plc l s p)) :
    Calls Tryd.prog 23 #[.slice A n c, ra s k u hm] w fun e' w' => ∃ A' c', e' = .returned (.tuple #[.slice A' (n + 1) c', .int .i64 0]) ∧ InR w' A' (n + 1) c' (putL l p (s, k, u, hm)) ∧ Below w.heap.size w w' := by
  have HI := Lib.hid hl
  have hn : Hid (l.length = n) := hl.len
  have hv : Hid (Vcat l) := hvc
  have h8 : n ≤ 7 := by have := hvc.1; have := hl.len; omega
  have ha : Hid (Asc l) := hvc.asc
  have hpn : p ≤ n := by have := hp.out.1; have := hl.len; omega
  have hno : Hid (No4 l s) := no4_of hb.out
  have mixed : Tryd.prog.follows .mixedOrders = true := by kernel_rfl
  obtain ⟨X, hX⟩ : ∃ X, Hid (putL l p (s, k, u, hm) = X) := ⟨_, rfl⟩
  have hXl : Hid (X.length = n + 1) := by show _ = _; rw [← hX.out, putL_length _ _ (by have := hn.out; omega), hn.out]
  have hXlt : Hid (∀ i, i < p → X.getD i default = l.getD i default) := fun i hi => by rw [← hX.out]; exact putL_lt _ (by have := hn.out; omega) hi
  have hXat : Hid (X.getD p default = (s, k, u, hm)) := by show _ = _; rw [← hX.out]; exact putL_at _ (by have := hn.out; omega)
  have hXgt : Hid (∀ i, p ≤ i → X.getD (i + 1) default = l.getD i default) := fun i hi => by rw [← hX.out]; exact putL_gt _ (by have := hn.out; omega) hi
  obtain ⟨W0, hW0⟩ : ∃ W0, Hid (w.alloc (.cells #[.string s, .int .i64 k, .int .i64 u, .int .i64 hm] 26) = W0) := ⟨_, rfl⟩
  have HB0 : Hid (Below w.heap.size w W0) := by rw [← hW0.out]; exact newB _ _
  have HS0 : Hid (S4 W0 w.heap.size s k u hm ∧ w.heap.size < W0.heap.size) := by rw [← hW0.out]; exact ⟨S4.new _ _ _ _ _, by simp [BX]⟩
  have HW1 := Lib.hid (HI.out.below HB0.out)
  have hfb : ((n : Int) == 8) = false := by simpa using hfull
  clear hl hvc hfull
  go_enter Tryd.func23, Tryd.ntmps23
  go_wp2_with (first
    | (go_at_call 21; rw [hW0.out]; refine (refVcat_yes _ _ _ _ _ HW1.out.rd hn hv).mono ?_; rintro e W1 ⟨rfl, hg1⟩; have hb1 := hg1.below; clear hg1; obtain ⟨k1, k2, k3, k4⟩ := S4.of hb1 HS0.out.2 HS0.out.1; have HB1 := Lib.hid hb1; clear hb1)
    | (go_at_call 17; refine (refNam_yes _ _ hnm).mono ?_; rintro e W3 ⟨rfl, rfl⟩)
    | (go_at_call 19; refine (refRsr_yes _ _ _ _ _ hrs).mono ?_; rintro e W4 ⟨rfl, hg4⟩; have hb4 := nx HB1.out hg4.below; clear hg4 k1 k2 k3 k4; obtain ⟨k1, k2, k3, k4⟩ := S4.of hb4 HS0.out.2 HS0.out.1; have HB4 := Lib.hid hb4; clear hb4)
    | (go_at_call 26; refine (find_no _ _ _ _ _ _ (HW1.out.below HB4.out) hb).mono ?_; rintro e W5 ⟨rfl, hb5⟩; have hb5 := nx HB4.out hb5; clear k1 k2 k3 k4; have HB5 := Lib.hid hb5; clear hb5))
  go_loopw [8, 9, 10] (fun V dn i wr => ∃ (j m : Nat) (d : Bool), j ≤ n ∧ i = .int .i64 j ∧ dn = .bool d ∧ Hid ((d = false ∧ j ≤ p ∧ m = j) ∨ (d = true ∧ p < j ∧ m = j + 1)) ∧ Hid (OwnR wr W0.heap.size V (X.take m)) ∧ Hid (Below W0.heap.size W0 wr)) (fun _ _ i _ => n - (intOf i).toNat)
  case atStart => exact ⟨0, 0, false, by omega, rfl, rfl, .inl ⟨rfl, by omega, rfl⟩, OwnR.nil _ _, nxA HB5.out _⟩
  case round =>
    obtain ⟨j, m, d, hj, rfl, rfl, hd, hO, hB⟩ := hrel
    obtain ⟨k1, k2, k3, k4⟩ := S4.of hB.out HS0.out.2 HS0.out.1
    have hszb : w.heap.size < wr.heap.size := Nat.lt_of_lt_of_le HS0.out.2 hB.out.size
    by_cases hlt : (j : Int) < (n : Int)
    · obtain ⟨g, o, s', k', u', h', rfl, hg0, hxx, d1, d2, d3, d4⟩ := HW1.out.rd.at_ (i := j) (by have := hn.out; omega)
      have Z : Hid (Z4 W0 g (o + j * 4) (s', k', u', h') ∧ g < W0.heap.size) := ⟨⟨d1, d2, d3, d4⟩, hg0⟩
      have hg : g < wr.heap.size := Nat.lt_of_lt_of_le hg0 hB.out.size
      clear d1 d2 d3 d4 hg0
      obtain ⟨c1, c2, c3, c4⟩ := Z.out.1.of hB.out Z.out.2
      have e5 : IntKind.i64.wrap ((j : Int) + 1) = (j : Int) + 1 := by rw [IntKind.wrap_i64]; omega
      have l1 : ∀ n os, (grow (wr.drewN n) os).cell? ⟨g, o + j * 4, none⟩ = some (.string s') := cell_grown hg c1
      have l2 : ∀ n os, (grow (wr.drewN n) os).cell? ⟨g, o + j * 4 + 1, none⟩ = some (.int .i64 k') := cell_grown hg c2
      have l3 : ∀ n os, (grow (wr.drewN n) os).cell? ⟨g, o + j * 4 + 2, none⟩ = some (.int .i64 u') := cell_grown hg c3
      have l4 : ∀ n os, (grow (wr.drewN n) os).cell? ⟨g, o + j * 4 + 3, none⟩ = some (.int .i64 h') := cell_grown hg c4
      have l5 : ∀ n os, (grow (wr.drewN n) os).cell? ⟨w.heap.size, 0, none⟩ = some (.string s) := cell_grown hszb k1
      have l6 : ∀ n os, (grow (wr.drewN n) os).cell? ⟨w.heap.size, 1, none⟩ = some (.int .i64 k) := cell_grown hszb k2
      have l7 : ∀ n os, (grow (wr.drewN n) os).cell? ⟨w.heap.size, 2, none⟩ = some (.int .i64 u) := cell_grown hszb k3
      have l8 : ∀ n os, (grow (wr.drewN n) os).cell? ⟨w.heap.size, 3, none⟩ = some (.int .i64 hm) := cell_grown hszb k4
      clear c1 c2 c3 c4 k1 k2 k3 k4 hg hszb
      cases d with
      | true =>
        have hpj : Hid (p < j ∧ m = j + 1) := by rcases hd.out with ⟨h1, _⟩ | ⟨_, h1⟩; (cases h1); exact h1
        have hcat : Hid (X.take (m + 1) = X.take m ++ [(s', k', u', h')]) := by
          show _ = _
          rw [hpj.out.2, take_snoc4 (by have := hXl.out; omega), hXgt.out j (by have := hpj.out; omega), hxx.out]
        have hlen : Hid ((X.take m).length + 1 ≤ 3518437208880) := by have := hpj.out; show _ ≤ _; rw [List.length_take]; omega
        clear l5 l6 l7 l8
        go_wp2
        refine wp_region_quiet_grown mixed (by kernel_rfl) ?_
        repeat (go_big_quiet_step (first | fail))
        refine wpQuiet_nil ?_
        intro _ hw'
        obtain ⟨⟨nq, osq⟩, hw''⟩ := hw'
        subst hw''
        have hG := Lib.hid (Gro.below (⟨nq, osq, rfl⟩ : Gro wr _))
        go_wp2_with (at_builtin; (refine app_res rfl (.tmp 54) (.tmp 59) rfl W0.heap.size _ (X.take m) _ [(s', k', u', h')] 1 1 rfl rfl rfl ((hO.out.below hG.out).below (newB _ _)) (rrd_at _ _ _ _ _ _ (by simp)) hlen (nxA (nx hB.out hG.out) _).size ?_); intro V1 W2 ho1 hb1; rw [← hcat.out] at ho1; have HO1 := Lib.hid ho1; have HB1 := Lib.hid ((nxA (nx hB.out hG.out) _).trans hb1); clear ho1 hb1)
        go_roundw
        case rel => exact ⟨j + 1, m + 1, true, by omega, by go_num, rfl, .inr ⟨rfl, by have := hpj.out; omega, by have := hpj.out; omega⟩, HO1, HB1⟩
        case measure => simp [intOf]; omega
      | false =>
        have hpj : Hid (j ≤ p ∧ m = j) := by rcases hd.out with ⟨_, h1⟩ | ⟨h1, _⟩; exact h1; (cases h1)
        by_cases hjp : j < p
        · have hq : Op.bytesLess s.toList s'.toList = false := by
            have h1 := hp.out.2.1 j hjp
            rw [hxx.out] at h1
            exact ltS_asymm h1
          have hcat : Hid (X.take (m + 1) = X.take m ++ [(s', k', u', h')]) := by
            show _ = _
            rw [hpj.out.2, take_snoc4 (by have := hXl.out; omega), hXlt.out j hjp, hxx.out]
          have hlen : Hid ((X.take m).length + 1 ≤ 3518437208880) := by have := hpj.out; show _ ≤ _; rw [List.length_take]; omega
          clear l6 l7 l8
          go_wp2
          refine wp_region_quiet_grown mixed (by kernel_rfl) ?_
          repeat (go_big_quiet_step (first | fail))
          refine wpQuiet_nil ?_
          intro _ hw'
          obtain ⟨⟨nq, osq⟩, hw''⟩ := hw'
          subst hw''
          have hG := Lib.hid (Gro.below (⟨nq, osq, rfl⟩ : Gro wr _))
          go_wp2_with (at_builtin; (refine app_res rfl (.tmp 54) (.tmp 59) rfl W0.heap.size _ (X.take m) _ [(s', k', u', h')] 1 1 rfl rfl rfl ((hO.out.below hG.out).below (newB _ _)) (rrd_at _ _ _ _ _ _ (by simp)) hlen (nxA (nx hB.out hG.out) _).size ?_); intro V1 W2 ho1 hb1; rw [← hcat.out] at ho1; have HO1 := Lib.hid ho1; have HB1 := Lib.hid ((nxA (nx hB.out hG.out) _).trans hb1); clear ho1 hb1)
          go_roundw
          case rel => exact ⟨j + 1, m + 1, false, by omega, by go_num, rfl, .inl ⟨rfl, by have := hpj.out; omega, by have := hpj.out; omega⟩, HO1, HB1⟩
          case measure => simp [intOf]; omega
        · have hjp2 : Hid (j = p) := by have := hpj.out; show _ = _; omega
          have hq : Op.bytesLess s.toList s'.toList = true := by
            have h1 := hp.out.no (by have := hjp2.out; have := hn.out; omega) hno.out
            rw [← hjp2.out, hxx.out] at h1
            exact h1
          have hcat1 : Hid (X.take (m + 1) = X.take m ++ [(s, k, u, hm)]) := by
            show _ = _
            rw [hpj.out.2, take_snoc4 (by have := hXl.out; omega), hjp2.out, hXat.out]
          have hcat : Hid (X.take (m + 1 + 1) = X.take (m + 1) ++ [(s', k', u', h')]) := by
            show _ = _
            rw [take_snoc4 (by have := hXl.out; have := hpj.out; omega), hpj.out.2, hXgt.out j (by have := hjp2.out; omega), hxx.out]
          have hlen1 : Hid ((X.take m).length + 1 ≤ 3518437208880) := by have := hpj.out; show _ ≤ _; rw [List.length_take]; omega
          have hlen : Hid ((X.take (m + 1)).length + 1 ≤ 3518437208880) := by have := hpj.out; show _ ≤ _; rw [List.length_take]; omega
          go_wp2
          refine wp_region_quiet_grown mixed (by kernel_rfl) ?_
          repeat (go_big_quiet_step (first | fail))
          refine wpQuiet_nil ?_
          intro _ hw'
          obtain ⟨⟨nq, osq⟩, hw''⟩ := hw'
          subst hw''
          have hG := Lib.hid (Gro.below (⟨nq, osq, rfl⟩ : Gro wr _))
          go_wp2_with (first
            | (at_builtin; (refine app_res rfl (.tmp 50) (.tmp 52) rfl W0.heap.size _ (X.take m) _ [(s, k, u, hm)] 1 1 rfl rfl rfl ((hO.out.below hG.out).below (newB _ _)) (rrd_at _ _ _ _ _ _ (by simp)) hlen1 (nxA (nx hB.out hG.out) _).size ?_); intro V1 W2 ho1 hb1; rw [← hcat1.out] at ho1; have HO1 := Lib.hid ho1; have HB1 := Lib.hid ((nxA (nx hB.out hG.out) _).trans hb1); clear ho1 hb1; obtain ⟨c1, c2, c3, c4⟩ := Z.out.1.of HB1.out Z.out.2)
            | (at_builtin; (refine app_res rfl (.tmp 54) (.tmp 59) rfl W0.heap.size _ (X.take (m + 1)) _ [(s', k', u', h')] 1 1 rfl rfl rfl (HO1.out.below (newB _ _)) (rrd_at _ _ _ _ _ _ (by simp)) hlen (nxA HB1.out _).size ?_); intro V3 W3 ho3 hb3; rw [← hcat.out] at ho3; have HO3 := Lib.hid ho3; have HB3 := Lib.hid ((nxA HB1.out _).trans hb3); clear ho3 hb3))
          go_roundw
          case rel => exact ⟨j + 1, m + 1 + 1, true, by omega, by go_num, rfl, .inr ⟨rfl, by have := hjp2.out; omega, by have := hpj.out; omega⟩, HO3, HB3⟩
          case measure => simp [intOf]; omega
    · cases d with
      | true =>
        have hpj : Hid (X.take m = X) := by
          show _ = _
          rcases hd.out with ⟨h1, _⟩ | ⟨_, h1, h2⟩
          · cases h1
          · exact List.take_of_length_le (by have := hXl.out; omega)
        have hlen : Hid (X.length = n + 1) := hXl.out
        go_wp2
        obtain ⟨A', c', rfl, hi⟩ := (hpj.out ▸ hO.out : OwnR wr W0.heap.size _ X).inR (by have := hlen.out; omega)
        rw [hlen.out] at hi
        exact bodyPost_ret (v := .tuple #[.slice A' (n + 1) c', .int .i64 0]) (by simp [results, Tryd.results23, go_sem, hlen.out]) rfl ⟨A', c', rfl, by rw [hX.out]; exact hi, nx HB0.out hB.out⟩
      | false =>
        have hpj : Hid (m = p ∧ n = p) := by
          rcases hd.out with ⟨_, h1, h2⟩ | ⟨h1, _⟩
          · exact ⟨by omega, by omega⟩
          · cases h1
        have hcat : Hid (X = X.take m ++ [(s, k, u, hm)]) := by
          show _ = _
          have h1 := take_snoc4 (l := X) (k := m) (by have := hXl.out; have := hpj.out; omega)
          rw [List.take_of_length_le (by have := hXl.out; have := hpj.out; omega)] at h1
          rw [hpj.out.1, hXat.out, ← hpj.out.1] at h1
          exact h1
        have hlen1 : Hid ((X.take m).length + 1 ≤ 3518437208880) := by have := hpj.out; show _ ≤ _; rw [List.length_take]; omega
        have hlen : Hid (X.length = n + 1) := hXl.out
        go_wp2_with (at_builtin; (refine app_res rfl (.tmp 63) (.tmp 65) rfl W0.heap.size _ (X.take m) _ [(s, k, u, hm)] 1 1 rfl rfl rfl (hO.out.below (newB _ _)) (rrd_at _ _ _ _ _ _ (by simp)) hlen1 (nxA hB.out _).size ?_); intro V1 W2 ho1 hb1; rw [← hcat.out] at ho1; have HO1 := Lib.hid ho1; have HB1 := Lib.hid ((nxA hB.out _).trans hb1); clear ho1 hb1)
        obtain ⟨A', c', rfl, hi⟩ := HO1.out.inR (by have := hlen.out; omega)
        rw [hlen.out] at hi
        exact bodyPost_ret (v := .tuple #[.slice A' (n + 1) c', .int .i64 0]) (by simp [results, Tryd.results23, go_sem, hlen.out]) rfl ⟨A', c', rfl, by rw [hX.out]; exact hi, nx HB0.out HB1.out⟩
end Go.Proofs.YtmfdafffafbmpaaDoor
