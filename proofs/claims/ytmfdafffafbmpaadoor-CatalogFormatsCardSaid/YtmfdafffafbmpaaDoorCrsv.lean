/- Contracts: Resolve of the program and of the reference. -/
import Derived.Test.YtmfdafffafbmpaaDoorCrem
namespace Go.Proofs.YtmfdafffafbmpaaDoor
open Go.RowKit
open Go.Sort (grow)
set_option linter.unusedVariables false
set_option linter.unusedSimpArgs false

/-- An amount, an atom as values. -/
abbrev ta (s : ByteArray) (m n : Int) : Value := .agg #[.string s, .int .i64 m, .int .i64 n]
theorem valid_any' (a : Int) (w : World) {r : Bool} (hr : Hid (vmd a = r)) : Calls Tryd.prog 59 #[.int .i64 a] w fun e w' => e = .returned (.bool r) ∧ w = w' := by rw [← hr.out]; exact valid_any a w
set_option maxHeartbeats 1000000 in
theorem fits_gro (s : ByteArray) (k u h m n : Int) (w : World) {r : Bool} (hr : Hid (fit k u m n = r)) : Calls Tryd.prog 45 #[ra s k u h, aa m n] w fun e w' => e = .returned (.bool r) ∧ Gro w w' := by
  obtain ⟨a, ha⟩ : ∃ v, Hid (shp k u = v) := ⟨_, rfl⟩
  obtain ⟨b, hb⟩ : ∃ v, Hid (vmd m = v) := ⟨_, rfl⟩
  go_enter Tryd.func45, Tryd.ntmps45
  go_wp2_with (first
    | (go_at_call 41; refine (shaped_gro _ _ _ _ _ ha).mono ?_; rintro e W1 ⟨rfl, hg1⟩; obtain ⟨hc1, hf1⟩ := bcell hg1.below)
    | (go_at_call 59; refine (valid_any' _ _ hb).mono ?_; rintro e W2 ⟨rfl, rfl⟩))
  all_goals (go_ret; have h := hr.out; unfold fit at h; clear hr; have ha := ha.out; have hb := hb.out; subst ha hb; refine ⟨ret_bool ?_, by first | exact ((Gro.new _ _).trans (Gro.new _ _)).trans hg1 | exact (Gro.new _ _).trans (Gro.new _ _)⟩; subst h; (try simp only [beq_iff_eq, beq_eq_false_iff_ne, ne_eq, shp, vmd, decide_eq_true_eq, decide_eq_false_iff_not] at *); rw [Bool.eq_iff_iff]; simp; omega)
set_option maxHeartbeats 1000000 in
theorem refFits_gro (s : ByteArray) (k u h m n : Int) (w : World) {r : Bool} (hr : Hid (fit k u m n = r)) : Calls Tryd.prog 46 #[ra s k u h, aa m n] w fun e w' => e = .returned (.bool r) ∧ Gro w w' := by
  obtain ⟨a, ha⟩ : ∃ v, Hid (shp k u = v) := ⟨_, rfl⟩
  go_enter Tryd.func46, Tryd.ntmps46
  go_wp2_with (first
    | (go_at_call 42; refine (refShaped_gro _ _ _ _ _ ha).mono ?_; rintro e W1 ⟨rfl, hg1⟩; obtain ⟨hc1, hf1⟩ := bcell hg1.below)
    | (go_at_call 60; refine (refValid_any _ _).mono ?_; rintro e W2 ⟨rfl, rfl⟩))
  all_goals (go_ret; have h := hr.out; unfold fit at h; clear hr; have ha := ha.out; subst ha; refine ⟨ret_bool ?_, ((Gro.new _ _).trans (Gro.new _ _)).trans hg1⟩; subst h; (try simp only [beq_iff_eq, beq_eq_false_iff_ne, ne_eq, shp, vmd, Bool.not_eq_true', Bool.not_eq_false', decide_eq_true_eq, decide_eq_false_iff_not] at *); rw [Bool.eq_iff_iff]; simp; omega)
abbrev TA (w : World) (s : ByteArray) (m n : Int) : World := w.alloc (.cells #[.string s, .int .i64 m, .int .i64 n] 41)
abbrev S3 (W : World) (g : Nat) (s : ByteArray) (m n : Int) : Prop := W.cell? ⟨g, 0, none⟩ = some (.string s) ∧ W.cell? ⟨g, 1, none⟩ = some (.int .i64 m) ∧ W.cell? ⟨g, 2, none⟩ = some (.int .i64 n)
theorem S3.of {w W : World} {g : Nat} {s : ByteArray} {m n : Int} (hb : Below w.heap.size w W) (hg : g < w.heap.size) (hc : S3 w g s m n) : S3 W g s m n :=
  ⟨(hb.cell (p := ⟨g, 0, none⟩) hg).trans hc.1, (hb.cell (p := ⟨g, 1, none⟩) hg).trans hc.2.1, (hb.cell (p := ⟨g, 2, none⟩) hg).trans hc.2.2⟩
set_option maxHeartbeats 4000000 in
set_option maxRecDepth 8000 in
theorem resolve_bad (A : Option Addr) (n c : Nat) (l : List P4) (s : ByteArray) (x y : Int) (w : World) (hl : InR w A n c l) (hv : Hid (¬ Vcat l)) :
    Calls Tryd.prog 29 #[.slice A n c, ta s x y] w fun e' w' => e' = .returned (.int .i64 2) ∧ Below w.heap.size w w' := by
  have HI := Lib.hid hl
  have hn : Hid (l.length = n) := hl.len
  clear hl
  go_enter Tryd.func29, Tryd.ntmps29
  go_wp2_with (first
    | (go_at_call 20; refine (vcat_no _ _ _ _ _ (HI.out.rd.below (newB _ _)) hn hv).mono ?_; rintro e W1 ⟨rfl, hg1⟩; have hb1 := hg1.below; clear hg1))
  go_ret
  exact ⟨rfl, dn1 hb1⟩
set_option maxHeartbeats 4000000 in
set_option maxRecDepth 8000 in
theorem resolve_none (A : Option Addr) (n c : Nat) (l : List P4) (s : ByteArray) (x y : Int) (w : World) (hl : InR w A n c l) (hvc : Vcat l) (hb : Hid (¬ ∃ i, At4 l s i)) :
    Calls Tryd.prog 29 #[.slice A n c, ta s x y] w fun e' w' => e' = .returned (.int .i64 10) ∧ Below w.heap.size w w' := by
  have HI := Lib.hid hl
  have hn : Hid (l.length = n) := hl.len
  have hv : Hid (Vcat l) := hvc
  have h8 : n ≤ 8 := by have := hvc.1; have := hl.len; omega
  have ha : Hid (Asc l) := hvc.asc
  obtain ⟨p, hp⟩ := plc_of hvc s
  clear hl hvc
  go_enter Tryd.func29, Tryd.ntmps29
  go_wp2_with (first
    | (go_at_call 20; refine (vcat_yes _ _ _ _ _ (HI.out.rd.below (newB _ _)) hn hv).mono ?_; rintro e W1 ⟨rfl, hg1⟩; have hb1 := hg1.below; clear hg1; obtain ⟨hc1, hf1⟩ := bcell hb1)
    | (go_at_call 43; refine (place_no _ _ _ _ _ _ (HI.out.below (dn1 hb1)) h8 ha hp hb).mono ?_; rintro e W2 ⟨rfl, hb2⟩; have hb2 := nx hb1 hb2))
  go_ret
  exact ⟨rfl, dn1 hb2⟩
set_option maxHeartbeats 4000000 in
set_option maxRecDepth 8000 in
theorem resolve_at (A : Option Addr) (n c : Nat) (l : List P4) (s : ByteArray) (x y : Int) (w : World) (hl : InR w A n c l) (hvc : Vcat l) {p : Nat} (hat : Hid (At4 l s p)) {b : Bool} (hfit : Hid (fit (l.getD p default).2.1 (l.getD p default).2.2.1 x y = b)) :
    Calls Tryd.prog 29 #[.slice A n c, ta s x y] w fun e' w' => e' = .returned (.int .i64 (if b = true then 0 else 12)) ∧ Below w.heap.size w w' := by
  have HI := Lib.hid hl
  have hn : Hid (l.length = n) := hl.len
  have hv : Hid (Vcat l) := hvc
  have h8 : n ≤ 8 := by have := hvc.1; have := hl.len; omega
  have ha : Hid (Asc l) := hvc.asc
  obtain ⟨p', hp⟩ := plc_of hvc s
  obtain rfl : p = p' := hp.out.at_ ha.out hat.out
  have hb : Hid (∃ i, At4 l s i) := ⟨p, hat.out⟩
  have hpn : p < n := by have := hat.out.1; have := hn.out; omega
  have hpz : (p : Int) < (n : Int) := by omega
  obtain ⟨g, o, s', k', u', h', rfl, hg, hxx, c1, c2, c3, c4⟩ := hl.rd.at_ (i := p) (by have := hn.out; omega)
  have hf2 : Hid (fit k' u' x y = b) := by have := hfit.out; rw [hxx.out] at this; exact this
  have Z : Hid (Z4 w g (o + p * 4) (s', k', u', h') ∧ g < w.heap.size) := ⟨⟨c1, c2, c3, c4⟩, hg⟩
  have mixed : Tryd.prog.follows .mixedOrders = true := by kernel_rfl
  have hS : Hid (S3 (TA w s x y) w.heap.size s x y ∧ w.heap.size < (TA w s x y).heap.size) := ⟨⟨by simp [TA], by simp [TA], by simp [TA]⟩, by simp [TA]⟩
  have HV := Lib.hid (fun (W : World) n os => fits_gro s' k' u' h' x y (grow (W.drewN n) os) hf2)
  have hcs : b = true ∨ b = false := by cases b <;> simp
  clear hl hvc hfit c1 c2 c3 c4 hg
  rcases hcs with rfl | rfl
  all_goals (
    go_enter Tryd.func29, Tryd.ntmps29
    go_wp2_with (first
      | (go_at_call 20; refine (vcat_yes _ _ _ _ _ (HI.out.rd.below (newB _ _)) hn hv).mono ?_; rintro e W1 ⟨rfl, hg1⟩; have hb1 := hg1.below; clear hg1; obtain ⟨hc1, hf1⟩ := bcell hb1)
      | (go_at_call 43; refine (place_yes _ _ _ _ _ _ (HI.out.below (dn1 hb1)) h8 ha hp hb).mono ?_; rintro e W2 ⟨rfl, hb2⟩; have HB2 := Lib.hid (nx hb1 hb2)))
    clear hc1 hf1 hb1 hb2
    obtain ⟨k1, k2, k3⟩ := S3.of HB2.out hS.out.2 hS.out.1
    obtain ⟨c1, c2, c3, c4⟩ := Z.out.1.of (dn1 HB2.out) Z.out.2
    have hg : g < W2.heap.size := Nat.lt_of_lt_of_le Z.out.2 (dn1 HB2.out).size
    have hz : w.heap.size < W2.heap.size := Nat.lt_of_lt_of_le hS.out.2 HB2.out.size
    have l1 : ∀ n os, (grow (W2.drewN n) os).cell? _ = _ := cell_grown hg c1
    have l2 : ∀ n os, (grow (W2.drewN n) os).cell? _ = _ := cell_grown hg c2
    have l3 : ∀ n os, (grow (W2.drewN n) os).cell? _ = _ := cell_grown hg c3
    have l4 : ∀ n os, (grow (W2.drewN n) os).cell? _ = _ := cell_grown hg c4
    have l5 : ∀ n os, (grow (W2.drewN n) os).cell? _ = _ := cell_grown hz k1
    have l6 : ∀ n os, (grow (W2.drewN n) os).cell? _ = _ := cell_grown hz k2
    have l7 : ∀ n os, (grow (W2.drewN n) os).cell? _ = _ := cell_grown hz k3
    clear c1 c2 c3 c4 k1 k2 k3 hg hz
    refine wp_region_quiet_grown mixed (by kernel_rfl) ?_
    repeat (go_big_quiet_step (first
        | (go_at_call 45; refine Calls.grown_of (HV.out _ _ _))))
    refine wpQuiet_nil ?_
    intro _ hw'
    obtain ⟨⟨nq, osq⟩, hw''⟩ := hw'
    subst hw''
    have hG := Lib.hid (Gro.below (⟨nq, osq, rfl⟩ : Gro W2 _))
    go_wp2
    go_ret
    exact ⟨rfl, nx (dn1 HB2.out) hG.out⟩)
set_option maxHeartbeats 4000000 in
set_option maxRecDepth 8000 in
theorem refResolve_bad (A : Option Addr) (n c : Nat) (l : List P4) (s : ByteArray) (x y : Int) (w : World) (hl : InR w A n c l) (hv : Hid (¬ Vcat l)) :
    Calls Tryd.prog 30 #[.slice A n c, ta s x y] w fun e' w' => e' = .returned (.int .i64 2) ∧ Below w.heap.size w w' := by
  have HI := Lib.hid hl
  have hn : Hid (l.length = n) := hl.len
  clear hl
  go_enter Tryd.func30, Tryd.ntmps30
  go_wp2_with (first
    | (go_at_call 21; refine (refVcat_no _ _ _ _ _ (HI.out.rd.below (newB _ _)) hn hv).mono ?_; rintro e W1 ⟨rfl, hg1⟩; have hb1 := hg1.below; clear hg1))
  go_ret
  exact ⟨rfl, dn1 hb1⟩
set_option maxHeartbeats 4000000 in
set_option maxRecDepth 8000 in
theorem refResolve_none (A : Option Addr) (n c : Nat) (l : List P4) (s : ByteArray) (x y : Int) (w : World) (hl : InR w A n c l) (hv : Hid (Vcat l)) (hb : Hid (¬ ∃ i, At4 l s i)) :
    Calls Tryd.prog 30 #[.slice A n c, ta s x y] w fun e' w' => e' = .returned (.int .i64 10) ∧ Below w.heap.size w w' := by
  have HI := Lib.hid hl
  have hn : Hid (l.length = n) := hl.len
  clear hl
  go_enter Tryd.func30, Tryd.ntmps30
  go_wp2_with (first
    | (go_at_call 21; refine (refVcat_yes _ _ _ _ _ (HI.out.rd.below (newB _ _)) hn hv).mono ?_; rintro e W1 ⟨rfl, hg1⟩; have hb1 := hg1.below; clear hg1; obtain ⟨hc1, hf1⟩ := bcell hb1)
    | (go_at_call 26; refine (find_no _ _ _ _ _ _ (HI.out.below (dn1 hb1)) hb).mono ?_; rintro e W2 ⟨rfl, hb2⟩; have hb2 := nx hb1 hb2))
  go_ret
  exact ⟨rfl, nxA (dn1 hb2) _⟩
set_option maxHeartbeats 4000000 in
set_option maxRecDepth 8000 in
theorem refResolve_at (A : Option Addr) (n c : Nat) (l : List P4) (s : ByteArray) (x y : Int) (w : World) (hl : InR w A n c l) (hv : Hid (Vcat l)) {p : Nat} (hat : Hid (At4 l s p)) {b : Bool} (hfit : Hid (fit (l.getD p default).2.1 (l.getD p default).2.2.1 x y = b)) :
    Calls Tryd.prog 30 #[.slice A n c, ta s x y] w fun e' w' => e' = .returned (.int .i64 (if b = true then 0 else 12)) ∧ Below w.heap.size w w' := by
  have HI := Lib.hid hl
  have hn : Hid (l.length = n) := hl.len
  obtain ⟨s', k', u', h', hxx⟩ : ∃ s' k' u' h', Hid (l.getD p default = (s', k', u', h')) := ⟨_, _, _, _, rfl⟩
  have hf2 : Hid (fit k' u' x y = b) := by have := hfit.out; rw [hxx.out] at this; exact this
  have hS : Hid (S3 (TA w s x y) w.heap.size s x y ∧ w.heap.size < (TA w s x y).heap.size) := ⟨⟨by simp [TA], by simp [TA], by simp [TA]⟩, by simp [TA]⟩
  have hcs : b = true ∨ b = false := by cases b <;> simp
  clear hl hfit
  rcases hcs with rfl | rfl
  all_goals (
    go_enter Tryd.func30, Tryd.ntmps30
    go_wp2_with (first
      | (go_at_call 21; refine (refVcat_yes _ _ _ _ _ (HI.out.rd.below (newB _ _)) hn hv).mono ?_; rintro e W1 ⟨rfl, hg1⟩; have hb1 := hg1.below; clear hg1; obtain ⟨hc1, hf1⟩ := bcell hb1)
      | (go_at_call 26; refine (find_yes _ _ _ _ _ _ (HI.out.below (dn1 hb1)) hat hxx).mono ?_; rintro e W2 ⟨rfl, hb2⟩; clear hc1 hf1; have hb2 := nx hb1 hb2; have HB2 := Lib.hid hb2; clear hb1 hb2; obtain ⟨k1, k2, k3⟩ := S3.of HB2.out hS.out.2 hS.out.1; have hz : w.heap.size < W2.heap.size := Nat.lt_of_lt_of_le hS.out.2 HB2.out.size)
      | (go_at_call 46; refine (refFits_gro _ _ _ _ _ _ _ hf2).mono ?_; rintro e W3 ⟨rfl, hg3⟩; have HB3 := Lib.hid (nx (nxA (dn1 HB2.out) _) hg3.below); clear hg3))
    go_ret
    exact ⟨rfl, HB3.out⟩)
end Go.Proofs.YtmfdafffafbmpaaDoor
