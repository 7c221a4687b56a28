/- Grafted from Cins Crin Crsv Call. -/
import Derived.Test.YtecipjjnbikheaaFct
import Derived.Deep.RegionHeld3
namespace Go.Proofs.Ytecipjjnbikheaa
open Go.RowKit
open Go.Sort (grow)
set_option linter.unusedVariables false
set_option linter.unusedSimpArgs false

theorem yes_of {p : Prop} (h : p) : p ↔ true = true := ⟨fun _ => rfl, fun _ => h⟩
theorem no_of {p : Prop} (h : ¬ p) : p ↔ false = true := ⟨fun k => absurd k h, fun k => by cases k⟩
theorem vcat_yes (A : Option Addr) (n c : Nat) (l : List P4) (w : World) (hl : RRd w A l) (hn : Hid (l.length = n)) (hr : Hid (Vcat l)) : Calls Try.prog 60 #[.slice A n c] w fun e w' => e = .returned (.bool true) ∧ Gro w w' := vcat_is A n c l w hl hn (yes_of hr.out)
theorem vcat_no (A : Option Addr) (n c : Nat) (l : List P4) (w : World) (hl : RRd w A l) (hn : Hid (l.length = n)) (hr : Hid (¬ Vcat l)) : Calls Try.prog 60 #[.slice A n c] w fun e w' => e = .returned (.bool false) ∧ Gro w w' := vcat_is A n c l w hl hn (no_of hr.out)
theorem refVcat_yes (A : Option Addr) (n c : Nat) (l : List P4) (w : World) (hl : RRd w A l) (hn : Hid (l.length = n)) (hr : Hid (Vcat l)) : Calls Try.prog 63 #[.slice A n c] w fun e w' => e = .returned (.bool true) ∧ Gro w w' := refVcat_is A n c l w hl hn (yes_of hr.out)
theorem refVcat_no (A : Option Addr) (n c : Nat) (l : List P4) (w : World) (hl : RRd w A l) (hn : Hid (l.length = n)) (hr : Hid (¬ Vcat l)) : Calls Try.prog 63 #[.slice A n c] w fun e w' => e = .returned (.bool false) ∧ Gro w w' := refVcat_is A n c l w hl hn (no_of hr.out)
theorem rsr_yes (s : ByteArray) (k u h : Int) (w : World) (hr : Hid (Rsr s k u h)) : Calls Try.prog 75 #[ra s k u h] w fun e w' => e = .returned (.bool true) ∧ Gro w w' := rsr_is s k u h w (yes_of hr.out)
theorem rsr_no (s : ByteArray) (k u h : Int) (w : World) (hr : Hid (¬ Rsr s k u h)) : Calls Try.prog 75 #[ra s k u h] w fun e w' => e = .returned (.bool false) ∧ Gro w w' := rsr_is s k u h w (no_of hr.out)
theorem refRsr_yes (s : ByteArray) (k u h : Int) (w : World) (hr : Hid (Rsr s k u h)) : Calls Try.prog 80 #[ra s k u h] w fun e w' => e = .returned (.bool true) ∧ Gro w w' := refRsr_is s k u h w (yes_of hr.out)
theorem refRsr_no (s : ByteArray) (k u h : Int) (w : World) (hr : Hid (¬ Rsr s k u h)) : Calls Try.prog 80 #[ra s k u h] w fun e w' => e = .returned (.bool false) ∧ Gro w w' := refRsr_is s k u h w (no_of hr.out)
theorem place_yes (A : Option Addr) (n c : Nat) (l : List P4) (nm : ByteArray) (w : World) (hl : InR w A n c l) (h8 : n ≤ 8) (ha : Hid (Asc l)) {p : Nat} (hp : Hid (Plc l nm p)) (hb : Hid (∃ i, At4 l nm i)) :
    Calls Try.prog 61 #[.slice A n c, .string nm] w fun e w' => e = .returned (.tuple #[.int .i64 p, .bool true]) ∧ Below w.heap.size w w' := place_is A n c l nm w hl h8 ha hp (yes_of hb.out)
theorem place_no (A : Option Addr) (n c : Nat) (l : List P4) (nm : ByteArray) (w : World) (hl : InR w A n c l) (h8 : n ≤ 8) (ha : Hid (Asc l)) {p : Nat} (hp : Hid (Plc l nm p)) (hb : Hid (¬ ∃ i, At4 l nm i)) :
    Calls Try.prog 61 #[.slice A n c, .string nm] w fun e w' => e = .returned (.tuple #[.int .i64 p, .bool false]) ∧ Below w.heap.size w w' := place_is A n c l nm w hl h8 ha hp (no_of hb.out)
theorem InR.none (w : World) : InR w none 0 0 [] := ⟨rfl, RRd.nil _ _, Nat.le_refl _, by omega⟩
/-- The box of a resource. -/
abbrev BX (w : World) (s : ByteArray) (k u h : Int) : World := w.alloc (.cells #[.string s, .int .i64 k, .int .i64 u, .int .i64 h] 63)
abbrev S4 (W : World) (g : Nat) (s : ByteArray) (k u h : Int) : Prop := W.cell? ⟨g, 0, none⟩ = some (.string s) ∧ W.cell? ⟨g, 1, none⟩ = some (.int .i64 k) ∧ W.cell? ⟨g, 2, none⟩ = some (.int .i64 u) ∧ W.cell? ⟨g, 3, none⟩ = some (.int .i64 h)
theorem S4.of {w W : World} {g : Nat} {s : ByteArray} {k u h : Int} (hb : Below w.heap.size w W) (hg : g < w.heap.size) (hc : S4 w g s k u h) : S4 W g s k u h :=
  ⟨(hb.cell (p := ⟨g, 0, none⟩) hg).trans hc.1, (hb.cell (p := ⟨g, 1, none⟩) hg).trans hc.2.1, (hb.cell (p := ⟨g, 2, none⟩) hg).trans hc.2.2.1, (hb.cell (p := ⟨g, 3, none⟩) hg).trans hc.2.2.2⟩
theorem S4.new (w : World) (s : ByteArray) (k u h : Int) : S4 (BX w s k u h) w.heap.size s k u h := ⟨by simp [BX], by simp [BX], by simp [BX], by simp [BX]⟩

theorem plc_of {l : List P4} (h : Vcat l) (s : ByteArray) : ∃ p, Hid (Plc l s p) := plc_ex h.asc s
theorem fnd_b (l : List P4) (s : ByteArray) : ∃ b, Hid ((∃ i, At4 l s i) ↔ b = true) := by
  by_cases h : ∃ i, At4 l s i
  · exact ⟨true, fun _ => rfl, fun _ => h⟩
  · exact ⟨false, fun k => absurd k h, fun k => by cases k⟩
theorem no4_b {l : List P4} {s : ByteArray} (h : No4 l s) : ¬ ∃ i, At4 l s i := fun ⟨i, hi⟩ => hi.not h
theorem no4_of {l : List P4} {s : ByteArray} (h : ¬ ∃ i, At4 l s i) : No4 l s := (at_or l s).resolve_left h
theorem find_no (A : Option Addr) (n c : Nat) (l : List P4) (nm : ByteArray) (w : World) (hl : InR w A n c l) (hb : Hid (¬ ∃ i, At4 l nm i)) :
    Calls Try.prog 64 #[.slice A n c, .string nm] w fun e w' => e = .returned (.tuple #[ra ⟨#[]⟩ 0 0 0, .bool false]) ∧ Below w.heap.size w w' := refFind_is A n c l nm w hl (.inr ⟨no4_of hb.out, rfl, rfl⟩)
theorem find_yes (A : Option Addr) (n c : Nat) (l : List P4) (nm : ByteArray) (w : World) (hl : InR w A n c l) {p : Nat} {s : ByteArray} {k u h : Int} (hp : Hid (At4 l nm p)) (hx : Hid (l.getD p default = (s, k, u, h))) :
    Calls Try.prog 64 #[.slice A n c, .string nm] w fun e w' => e = .returned (.tuple #[ra s k u h, .bool true]) ∧ Below w.heap.size w w' := refFind_is A n c l nm w hl (.inl ⟨p, hp.out, hx.out.symm, rfl⟩)
/-- An amount, an atom as values. -/
abbrev ta (s : ByteArray) (m n : Int) : Value := .agg #[.string s, .int .i64 m, .int .i64 n]
theorem valid_any' (a : Int) (w : World) {r : Bool} (hr : Hid (vmd a = r)) : Calls Try.prog 79 #[.int .i64 a] w fun e w' => e = .returned (.bool r) ∧ w = w' := by rw [← hr.out]; exact valid_any a w
set_option maxHeartbeats 1000000 in
theorem fits_gro (s : ByteArray) (k u h m n : Int) (w : World) {r : Bool} (hr : Hid (fit k u m n = r)) : Calls Try.prog 62 #[ra s k u h, aa m n] w fun e w' => e = .returned (.bool r) ∧ Gro w w' := by
  obtain ⟨a, ha⟩ : ∃ v, Hid (shp k u = v) := ⟨_, rfl⟩
  obtain ⟨b, hb⟩ : ∃ v, Hid (vmd m = v) := ⟨_, rfl⟩
  go_enter Try.func62, Try.ntmps62
  go_wp2_with (first
    | (go_at_call 78; refine (shaped_gro _ _ _ _ _ ha).mono ?_; rintro e W1 ⟨rfl, hg1⟩; obtain ⟨hc1, hf1⟩ := bcell hg1.below)
    | (go_at_call 79; refine (valid_any' _ _ hb).mono ?_; rintro e W2 ⟨rfl, rfl⟩))
  all_goals (go_ret; have h := hr.out; unfold fit at h; clear hr; have ha := ha.out; have hb := hb.out; subst ha hb; refine ⟨ret_bool ?_, by first | exact ((Gro.new _ _).trans (Gro.new _ _)).trans hg1 | exact (Gro.new _ _).trans (Gro.new _ _)⟩; subst h; (try simp only [beq_iff_eq, beq_eq_false_iff_ne, ne_eq, shp, vmd, decide_eq_true_eq, decide_eq_false_iff_not] at *); rw [Bool.eq_iff_iff]; simp; omega)
set_option maxHeartbeats 1000000 in
theorem refFits_gro (s : ByteArray) (k u h m n : Int) (w : World) {r : Bool} (hr : Hid (fit k u m n = r)) : Calls Try.prog 65 #[ra s k u h, aa m n] w fun e w' => e = .returned (.bool r) ∧ Gro w w' := by
  obtain ⟨a, ha⟩ : ∃ v, Hid (shp k u = v) := ⟨_, rfl⟩
  go_enter Try.func65, Try.ntmps65
  go_wp2_with (first
    | (go_at_call 81; refine (refShaped_gro _ _ _ _ _ ha).mono ?_; rintro e W1 ⟨rfl, hg1⟩; obtain ⟨hc1, hf1⟩ := bcell hg1.below)
    | (go_at_call 82; refine (refValid_any _ _).mono ?_; rintro e W2 ⟨rfl, rfl⟩))
  all_goals (go_ret; have h := hr.out; unfold fit at h; clear hr; have ha := ha.out; subst ha; refine ⟨ret_bool ?_, ((Gro.new _ _).trans (Gro.new _ _)).trans hg1⟩; subst h; (try simp only [beq_iff_eq, beq_eq_false_iff_ne, ne_eq, shp, vmd, Bool.not_eq_true', Bool.not_eq_false', decide_eq_true_eq, decide_eq_false_iff_not] at *); rw [Bool.eq_iff_iff]; simp; omega)
abbrev TA (w : World) (s : ByteArray) (m n : Int) : World := w.alloc (.cells #[.string s, .int .i64 m, .int .i64 n] 25)
abbrev S3 (W : World) (g : Nat) (s : ByteArray) (m n : Int) : Prop := W.cell? ⟨g, 0, none⟩ = some (.string s) ∧ W.cell? ⟨g, 1, none⟩ = some (.int .i64 m) ∧ W.cell? ⟨g, 2, none⟩ = some (.int .i64 n)
theorem S3.of {w W : World} {g : Nat} {s : ByteArray} {m n : Int} (hb : Below w.heap.size w W) (hg : g < w.heap.size) (hc : S3 w g s m n) : S3 W g s m n :=
  ⟨(hb.cell (p := ⟨g, 0, none⟩) hg).trans hc.1, (hb.cell (p := ⟨g, 1, none⟩) hg).trans hc.2.1, (hb.cell (p := ⟨g, 2, none⟩) hg).trans hc.2.2⟩
set_option maxHeartbeats 4000000 in
set_option maxRecDepth 8000 in
theorem resolve_bad (A : Option Addr) (n c : Nat) (l : List P4) (s : ByteArray) (x y : Int) (w : World) (hl : InR w A n c l) (hv : Hid (¬ Vcat l)) :
    Calls Try.prog 46 #[.slice A n c, ta s x y] w fun e' w' => e' = .returned (.int .i64 2) ∧ Below w.heap.size w w' := by
  have HI := Lib.hid hl
  have hn : Hid (l.length = n) := hl.len
  clear hl
  go_enter Try.func46, Try.ntmps46
  go_wp2_with (first
    | (go_at_call 60; refine (vcat_no _ _ _ _ _ (HI.out.rd.below (newB _ _)) hn hv).mono ?_; rintro e W1 ⟨rfl, hg1⟩; have hb1 := hg1.below; clear hg1))
  go_ret
  exact ⟨rfl, dn1 hb1⟩
set_option maxHeartbeats 4000000 in
set_option maxRecDepth 8000 in
theorem resolve_none (A : Option Addr) (n c : Nat) (l : List P4) (s : ByteArray) (x y : Int) (w : World) (hl : InR w A n c l) (hvc : Vcat l) (hb : Hid (¬ ∃ i, At4 l s i)) :
    Calls Try.prog 46 #[.slice A n c, ta s x y] w fun e' w' => e' = .returned (.int .i64 10) ∧ Below w.heap.size w w' := by
  have HI := Lib.hid hl
  have hn : Hid (l.length = n) := hl.len
  have hv : Hid (Vcat l) := hvc
  have h8 : n ≤ 8 := by have := hvc.1; have := hl.len; omega
  have ha : Hid (Asc l) := hvc.asc
  obtain ⟨p, hp⟩ := plc_of hvc s
  clear hl hvc
  go_enter Try.func46, Try.ntmps46
  go_wp2_with (first
    | (go_at_call 60; refine (vcat_yes _ _ _ _ _ (HI.out.rd.below (newB _ _)) hn hv).mono ?_; rintro e W1 ⟨rfl, hg1⟩; have hb1 := hg1.below; clear hg1; obtain ⟨hc1, hf1⟩ := bcell hb1)
    | (go_at_call 61; refine (place_no _ _ _ _ _ _ (HI.out.below (dn1 hb1)) h8 ha hp hb).mono ?_; rintro e W2 ⟨rfl, hb2⟩; have hb2 := nx hb1 hb2))
  go_ret
  exact ⟨rfl, dn1 hb2⟩
set_option maxHeartbeats 4000000 in
set_option maxRecDepth 8000 in
theorem resolve_at (A : Option Addr) (n c : Nat) (l : List P4) (s : ByteArray) (x y : Int) (w : World) (hl : InR w A n c l) (hvc : Vcat l) {p : Nat} (hat : Hid (At4 l s p)) {b : Bool} (hfit : Hid (fit (l.getD p default).2.1 (l.getD p default).2.2.1 x y = b)) :
    Calls Try.prog 46 #[.slice A n c, ta s x y] w fun e' w' => e' = .returned (.int .i64 (if b = true then 0 else 12)) ∧ Below w.heap.size w w' := by
  have HI := Lib.hid hl
  have hn : Hid (l.length = n) := hl.len
  have hv : Hid (Vcat l) := hvc
  have h8 : n ≤ 8 := by have := hvc.1; have := hl.len; omega
  have ha : Hid (Asc l) := hvc.asc
  obtain ⟨p', hp⟩ := plc_of hvc s
  obtain rfl : p = p' := hp.out.at_ ha.out hat.out
  have hb : Hid (∃ i, At4 l s i) := ⟨p, hat.out⟩
  have hpn : p < n := by have := hat.out.1; have := hn.out; omega
  have hpz : (p : Int) < (n : Int) := by omega
  obtain ⟨g, o, s', k', u', h', rfl, hg, hxx, c1, c2, c3, c4⟩ := hl.rd.at_ (i := p) (by have := hn.out; omega)
  have hf2 : Hid (fit k' u' x y = b) := by have := hfit.out; rw [hxx.out] at this; exact this
  have Z : Hid (Z4 w g (o + p * 4) (s', k', u', h') ∧ g < w.heap.size) := ⟨⟨c1, c2, c3, c4⟩, hg⟩
  have mixed : Try.prog.follows .mixedOrders = true := by kernel_rfl
  have hS : Hid (S3 (TA w s x y) w.heap.size s x y ∧ w.heap.size < (TA w s x y).heap.size) := ⟨⟨by simp [TA], by simp [TA], by simp [TA]⟩, by simp [TA]⟩
  have HV := Lib.hid (fun (W : World) n os => fits_gro s' k' u' h' x y (grow (W.drewN n) os) hf2)
  have hcs : b = true ∨ b = false := by cases b <;> simp
  clear hl hvc hfit c1 c2 c3 c4 hg
  rcases hcs with rfl | rfl
  all_goals (
    go_enter Try.func46, Try.ntmps46
    go_wp2_with (first
      | (go_at_call 60; refine (vcat_yes _ _ _ _ _ (HI.out.rd.below (newB _ _)) hn hv).mono ?_; rintro e W1 ⟨rfl, hg1⟩; have hb1 := hg1.below; clear hg1; obtain ⟨hc1, hf1⟩ := bcell hb1)
      | (go_at_call 61; refine (place_yes _ _ _ _ _ _ (HI.out.below (dn1 hb1)) h8 ha hp hb).mono ?_; rintro e W2 ⟨rfl, hb2⟩; have HB2 := Lib.hid (nx hb1 hb2)))
    clear hc1 hf1 hb1 hb2
    obtain ⟨k1, k2, k3⟩ := S3.of HB2.out hS.out.2 hS.out.1
    obtain ⟨c1, c2, c3, c4⟩ := Z.out.1.of (dn1 HB2.out) Z.out.2
    have hg : g < W2.heap.size := Nat.lt_of_lt_of_le Z.out.2 (dn1 HB2.out).size
    have hz : w.heap.size < W2.heap.size := Nat.lt_of_lt_of_le hS.out.2 HB2.out.size
    have l1 : ∀ n os, (grow (W2.drewN n) os).cell? _ = _ := cell_grown hg c1
    have l2 : ∀ n os, (grow (W2.drewN n) os).cell? _ = _ := cell_grown hg c2
    have l3 : ∀ n os, (grow (W2.drewN n) os).cell? _ = _ := cell_grown hg c3
    have l4 : ∀ n os, (grow (W2.drewN n) os).cell? _ = _ := cell_grown hg c4
    have l5 : ∀ n os, (grow (W2.drewN n) os).cell? _ = _ := cell_grown hz k1
    have l6 : ∀ n os, (grow (W2.drewN n) os).cell? _ = _ := cell_grown hz k2
    have l7 : ∀ n os, (grow (W2.drewN n) os).cell? _ = _ := cell_grown hz k3
    clear c1 c2 c3 c4 k1 k2 k3 hg hz
    refine wp_region_quiet_grown mixed (by kernel_rfl) ?_
    repeat (go_big_quiet_step (first
        | (go_at_call 62; refine Calls.grown_of (HV.out _ _ _))))
    refine wpQuiet_nil ?_
    intro _ hw'
    obtain ⟨⟨nq, osq⟩, hw''⟩ := hw'
    subst hw''
    have hG := Lib.hid (Gro.below (⟨nq, osq, rfl⟩ : Gro W2 _))
    go_wp2
    go_ret
    exact ⟨rfl, nx (dn1 HB2.out) hG.out⟩)
set_option maxHeartbeats 4000000 in
set_option maxRecDepth 8000 in
theorem refResolve_bad (A : Option Addr) (n c : Nat) (l : List P4) (s : ByteArray) (x y : Int) (w : World) (hl : InR w A n c l) (hv : Hid (¬ Vcat l)) :
    Calls Try.prog 47 #[.slice A n c, ta s x y] w fun e' w' => e' = .returned (.int .i64 2) ∧ Below w.heap.size w w' := by
  have HI := Lib.hid hl
  have hn : Hid (l.length = n) := hl.len
  clear hl
  go_enter Try.func47, Try.ntmps47
  go_wp2_with (first
    | (go_at_call 63; refine (refVcat_no _ _ _ _ _ (HI.out.rd.below (newB _ _)) hn hv).mono ?_; rintro e W1 ⟨rfl, hg1⟩; have hb1 := hg1.below; clear hg1))
  go_ret
  exact ⟨rfl, dn1 hb1⟩
set_option maxHeartbeats 4000000 in
set_option maxRecDepth 8000 in
theorem refResolve_none (A : Option Addr) (n c : Nat) (l : List P4) (s : ByteArray) (x y : Int) (w : World) (hl : InR w A n c l) (hv : Hid (Vcat l)) (hb : Hid (¬ ∃ i, At4 l s i)) :
    Calls Try.prog 47 #[.slice A n c, ta s x y] w fun e' w' => e' = .returned (.int .i64 10) ∧ Below w.heap.size w w' := by
  have HI := Lib.hid hl
  have hn : Hid (l.length = n) := hl.len
  clear hl
  go_enter Try.func47, Try.ntmps47
  go_wp2_with (first
    | (go_at_call 63; refine (refVcat_yes _ _ _ _ _ (HI.out.rd.below (newB _ _)) hn hv).mono ?_; rintro e W1 ⟨rfl, hg1⟩; have hb1 := hg1.below; clear hg1; obtain ⟨hc1, hf1⟩ := bcell hb1)
    | (go_at_call 64; refine (find_no _ _ _ _ _ _ (HI.out.below (dn1 hb1)) hb).mono ?_; rintro e W2 ⟨rfl, hb2⟩; have hb2 := nx hb1 hb2))
  go_ret
  exact ⟨rfl, nxA (dn1 hb2) _⟩
set_option maxHeartbeats 4000000 in
set_option maxRecDepth 8000 in
theorem refResolve_at (A : Option Addr) (n c : Nat) (l : List P4) (s : ByteArray) (x y : Int) (w : World) (hl : InR w A n c l) (hv : Hid (Vcat l)) {p : Nat} (hat : Hid (At4 l s p)) {b : Bool} (hfit : Hid (fit (l.getD p default).2.1 (l.getD p default).2.2.1 x y = b)) :
    Calls Try.prog 47 #[.slice A n c, ta s x y] w fun e' w' => e' = .returned (.int .i64 (if b = true then 0 else 12)) ∧ Below w.heap.size w w' := by
  have HI := Lib.hid hl
  have hn : Hid (l.length = n) := hl.len
  obtain ⟨s', k', u', h', hxx⟩ : ∃ s' k' u' h', Hid (l.getD p default = (s', k', u', h')) := ⟨_, _, _, _, rfl⟩
  have hf2 : Hid (fit k' u' x y = b) := by have := hfit.out; rw [hxx.out] at this; exact this
  have hS : Hid (S3 (TA w s x y) w.heap.size s x y ∧ w.heap.size < (TA w s x y).heap.size) := ⟨⟨by simp [TA], by simp [TA], by simp [TA]⟩, by simp [TA]⟩
  have hcs : b = true ∨ b = false := by cases b <;> simp
  clear hl hfit
  rcases hcs with rfl | rfl
  all_goals (
    go_enter Try.func47, Try.ntmps47
    go_wp2_with (first
      | (go_at_call 63; refine (refVcat_yes _ _ _ _ _ (HI.out.rd.below (newB _ _)) hn hv).mono ?_; rintro e W1 ⟨rfl, hg1⟩; have hb1 := hg1.below; clear hg1; obtain ⟨hc1, hf1⟩ := bcell hb1)
      | (go_at_call 64; refine (find_yes _ _ _ _ _ _ (HI.out.below (dn1 hb1)) hat hxx).mono ?_; rintro e W2 ⟨rfl, hb2⟩; clear hc1 hf1; have hb2 := nx hb1 hb2; have HB2 := Lib.hid hb2; clear hb1 hb2; obtain ⟨k1, k2, k3⟩ := S3.of HB2.out hS.out.2 hS.out.1; have hz : w.heap.size < W2.heap.size := Nat.lt_of_lt_of_le hS.out.2 HB2.out.size)
      | (go_at_call 65; refine (refFits_gro _ _ _ _ _ _ _ hf2).mono ?_; rintro e W3 ⟨rfl, hg3⟩; have HB3 := Lib.hid (nx (nxA (dn1 HB2.out) _) hg3.below); clear hg3))
    go_ret
    exact ⟨rfl, HB3.out⟩)
theorem resolve_is (A : Option Addr) (n c : Nat) (l : List P4) (s : ByteArray) (x y : Int) (w : World) (hl : InR w A n c l) {e : Int} (hi : Hid (Rsv l s x y e)) :
    Calls Try.prog 46 #[.slice A n c, ta s x y] w fun e' w' => e' = .returned (.int .i64 e) ∧ Below w.heap.size w w' := by
  rcases hi.out with ⟨h1, rfl⟩ | ⟨h1, h2, rfl⟩ | ⟨h1, p, h2, ⟨h3, rfl⟩ | ⟨h3, rfl⟩⟩
  · exact resolve_bad A n c l s x y w hl h1
  · exact resolve_none A n c l s x y w hl h1 (no4_b h2)
  · exact resolve_at A n c l s x y w hl h1 h2 h3
  · exact resolve_at A n c l s x y w hl h1 h2 h3
theorem refResolve_is (A : Option Addr) (n c : Nat) (l : List P4) (s : ByteArray) (x y : Int) (w : World) (hl : InR w A n c l) {e : Int} (hi : Hid (Rsv l s x y e)) :
    Calls Try.prog 47 #[.slice A n c, ta s x y] w fun e' w' => e' = .returned (.int .i64 e) ∧ Below w.heap.size w w' := by
  rcases hi.out with ⟨h1, rfl⟩ | ⟨h1, h2, rfl⟩ | ⟨h1, p, h2, ⟨h3, rfl⟩ | ⟨h3, rfl⟩⟩
  · exact refResolve_bad A n c l s x y w hl h1
  · exact refResolve_none A n c l s x y w hl h1 (no4_b h2)
  · exact refResolve_at A n c l s x y w hl h1 h2 h3
  · exact refResolve_at A n c l s x y w hl h1 h2 h3
end Go.Proofs.Ytecipjjnbikheaa
