/- Contracts: whether the amounts of a list may be held together. -/
import Derived.Test.YthclgccgkdijbaaDoorAagree
namespace Go.Proofs.YthclgccgkdijbaaDoor
open Go.RowKit
set_option linter.unusedVariables false
set_option linter.unusedSimpArgs false

theorem not_iff_false {p : Prop} {r : Bool} (h : p ↔ r = true) (hp : ¬ p) : r = false := by
  cases r with
  | false => rfl
  | true => exact absurd (h.2 rfl) hp
theorem allP_off {k u : Int} {l : List P2} {r : Bool} (hr : Cmp k u l ↔ r = true) (h : allP k u l = false) : r = false :=
  not_iff_false hr (fun c => by rw [allP_iff.2 ⟨c.1, c.2.1⟩] at h; cases h)
set_option maxHeartbeats 1000000 in
theorem compat_no (s : ByteArray) (k u h : Int) (A : Option Addr) (n c : Nat) (l : List P2) (w : World) (hl : ARd w A l) (hn : Hid (l.length = n)) (hm : Hid (n ≤ 1000)) (ha : Hid (allP k u l = false)) :
    Calls Tryd.prog 35 #[ra s k u h, .slice A n c] w fun e w' => e = .returned (.bool false) ∧ Below w.heap.size w w' := by
  have HR := Lib.hid hl
  clear hl
  go_enter Tryd.func35, Tryd.ntmps35
  go_wp2_with (first
    | (go_at_call 60; refine (allPermitted_is _ _ _ _ _ _ _ _ _ (HR.out.below (newB w _)) hn hm ha).mono ?_; rintro e W1 ⟨rfl, hb1⟩))
  go_ret
  exact ⟨rfl, dn1 hb1⟩
set_option maxHeartbeats 1000000 in
theorem compat_lock (s : ByteArray) (u h : Int) (A : Option Addr) (n c : Nat) (l : List P2) (w : World) (hV : Vars w) (hl : ARd w A l) (hn : Hid (l.length = n)) (hm : Hid (n ≤ 1000)) (ha : Hid (allP 1 u l = true)) {r : Bool} (hr : Hid (frs l ↔ r = true)) :
    Calls Tryd.prog 35 #[ra s 1 u h, .slice A n c] w fun e w' => e = .returned (.bool r) ∧ Below w.heap.size w w' := by
  have HR := Lib.hid hl
  have HV := Lib.hid hV
  clear hl hV
  have hp : Hid (pers 1 u l) := (allP_iff.1 ha.out).2
  go_enter Tryd.func35, Tryd.ntmps35
  go_wp2_with (first
    | (go_at_call 60; refine (allPermitted_is _ _ _ _ _ _ _ _ _ (HR.out.below (newB w _)) hn hm ha).mono ?_; rintro e W1 ⟨rfl, hb1⟩; obtain ⟨hc1, hf1⟩ := bcell hb1)
    | (go_at_call 61; refine (modesAgree_is _ _ _ _ _ _ (HV.out.below (dn1 hb1)) (HR.out.below (dn1 hb1)) hn hm hp hr).mono ?_; rintro e W2 ⟨rfl, hb2⟩))
  go_ret
  exact ⟨rfl, dn1 (nx hb1 hb2)⟩
set_option maxHeartbeats 1000000 in
theorem compat_pool (s : ByteArray) (u h : Int) (A : Option Addr) (n c : Nat) (l : List P2) (w : World) (hl : ARd w A l) (hn : Hid (l.length = n)) (hm : Hid (n ≤ 1000)) (hu : Hid (1 ≤ u ∧ u ≤ 8)) (ha : Hid (allP 2 u l = true)) {r : Bool} (hr : Hid (decide (usum l ≤ u) = r)) :
    Calls Tryd.prog 35 #[ra s 2 u h, .slice A n c] w fun e w' => e = .returned (.bool r) ∧ Below w.heap.size w w' := by
  have HR := Lib.hid hl
  clear hl
  have hp : Hid (pers 2 u l) := (allP_iff.1 ha.out).2
  go_enter Tryd.func35, Tryd.ntmps35
  go_wp2_with (first
    | (go_at_call 60; refine (allPermitted_is _ _ _ _ _ _ _ _ _ (HR.out.below (newB w _)) hn hm ha).mono ?_; rintro e W1 ⟨rfl, hb1⟩; obtain ⟨hc1, hf1⟩ := bcell hb1)
    | (go_at_call 62; refine (unitsSuffice_is _ _ _ _ _ _ (HR.out.below (dn1 hb1)) hn hm hp hu hr).mono ?_; rintro e W2 ⟨rfl, hb2⟩))
  go_ret
  exact ⟨rfl, dn1 (nx hb1 hb2)⟩
theorem compat_is (s : ByteArray) (k u h : Int) (A : Option Addr) (n c : Nat) (l : List P2) (w : World) (hV : Vars w) (hl : ARd w A l) (hn : Hid (l.length = n)) (hm : Hid (n ≤ 1000)) {r : Bool} (hr : Hid (Cmp k u l ↔ r = true)) :
    Calls Tryd.prog 35 #[ra s k u h, .slice A n c] w fun e w' => e = .returned (.bool r) ∧ Below w.heap.size w w' := by
  cases ha : allP k u l with
  | false =>
    have := allP_off hr.out ha
    subst this
    exact compat_no s k u h A n c l w hl hn hm ha
  | true =>
    obtain ⟨h1, h2⟩ := allP_iff.1 ha
    rcases shp_is h1 with ⟨rfl, rfl⟩ | ⟨rfl, h3, h4⟩
    · refine compat_lock s 1 h A n c l w hV hl hn hm ha (r := r) ?_
      show _ ↔ _
      rw [← hr.out]
      exact ⟨fun f => ⟨h1, h2, fun _ => f, fun e => by omega⟩, fun c => c.2.2.1 rfl⟩
    · refine compat_pool s u h A n c l w hl hn hm ⟨h3, h4⟩ ha (r := r) ?_
      show _ = _
      rw [Bool.eq_iff_iff, decide_eq_true_eq, ← hr.out]
      exact ⟨fun f => ⟨h1, h2, fun e => by omega, fun _ => f⟩, fun c => c.2.2.2 rfl⟩
end Go.Proofs.YthclgccgkdijbaaDoor
