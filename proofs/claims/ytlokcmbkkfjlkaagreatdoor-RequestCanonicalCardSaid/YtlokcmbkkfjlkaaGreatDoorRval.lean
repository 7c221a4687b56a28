/- Contracts: within, isGroup, claimable, isAtom. -/
import Derived.Test.YtlokcmbkkfjlkaaGreatDoorRrows
namespace Go.Proofs.YtlokcmbkkfjlkaaGreatDoor
open Go.RowKit
set_option linter.unusedVariables false
set_option linter.unusedSimpArgs false

def btw (a b c : Int) : Bool := decide (b ≤ a ∧ a ≤ c)
theorem within_any (a b c : Int) (w : World) : Calls Tryz.prog 32 #[.int .i64 a, .int .i64 b, .int .i64 c] w fun e w' => e = .returned (.bool (btw a b c)) ∧ w = w' := by
  obtain ⟨r, hr⟩ : ∃ r, Hid (btw a b c = r) := ⟨_, rfl⟩
  rw [hr.out]
  go_enter Tryz.func32, Tryz.ntmps32
  go_wp2
  all_goals (go_ret; have h := hr.out; unfold btw at h; clear hr; refine ⟨ret_bool ?_, rfl⟩; subst h; (try simp only [beq_iff_eq, beq_eq_false_iff_ne, ne_eq] at *); rw [Bool.eq_iff_iff]; simp; omega)
theorem within_is (a b c : Int) (w : World) {r : Bool} (hr : Hid (btw a b c = r)) : Calls Tryz.prog 32 #[.int .i64 a, .int .i64 b, .int .i64 c] w fun e w' => e = .returned (.bool r) ∧ w = w' := by
  rw [← hr.out]; exact within_any a b c w
theorem nam_yes (s : ByteArray) (w : World) (h : Hid (Nam s)) : Calls Tryz.prog 51 #[.string s] w fun e w' => e = .returned (.bool true) ∧ w = w' := nam_is s w ⟨fun _ => rfl, fun _ => h.out⟩
theorem nam_no (s : ByteArray) (w : World) (h : Hid (¬ Nam s)) : Calls Tryz.prog 51 #[.string s] w fun e w' => e = .returned (.bool false) ∧ w = w' := nam_is s w ⟨fun k => absurd k h.out, fun k => by cases k⟩
/-- Is the atom zero? -/
def azr (s : ByteArray) (m u : Int) : Bool := eqS s ⟨#[]⟩ && decide (m = 0 ∧ u = 0)
theorem azr_iff {s : ByteArray} {m u : Int} : azr s m u = true ↔ (s, m, u) = z3 := by
  unfold azr
  rw [Bool.and_eq_true, eqS_iff, decide_eq_true_iff]
  simp
def gB (k : Int) (s : ByteArray) (m u : Int) (n : Nat) : Bool := azr s m u && btw k 1 n
theorem gB_grp {k : Int} {a : A3} {l : List Ex} : gB k a.1 a.2.1 a.2.2 l.length = grp (.nd k a l) := by
  unfold gB grp btw
  rw [Bool.eq_iff_iff, Bool.and_eq_true, azr_iff, decide_eq_true_iff, decide_eq_true_iff]
  rfl
set_option maxHeartbeats 1000000 in
theorem isGroup_is (k : Int) (s : ByteArray) (m u : Int) (A : Option Addr) (n c : Nat) (w : World) {r : Bool} (hr : Hid (gB k s m u n = r)) :
    Calls Tryz.prog 28 #[xe k s m u A n c] w fun e w' => e = .returned (.bool r) ∧ Below w.heap.size w w' := by
  have e0 : ∀ W, (binOp .eql 25 (av s m u) (av ⟨#[]⟩ 0 0)).run Tryz.prog W = .ok (.bool (azr s m u)) W := fun W => eqAtom s ⟨#[]⟩ m u 0 0 W
  cases hz : azr s m u with
  | false =>
    have hend : Hid (r = false) := by have := hr.out; unfold gB at this; rw [hz] at this; exact this.symm
    rw [hz] at e0
    clear hr hz
    go_enter Tryz.func28, Tryz.ntmps28
    go_wp2
    go_ret
    exact ⟨ret_bool hend.out.symm, newB _ _⟩
  | true =>
    have hb : Hid (btw k 1 n = r) := by have := hr.out; unfold gB at this; rw [hz] at this; exact this
    rw [hz] at e0
    clear hr hz
    go_enter Tryz.func28, Tryz.ntmps28
    go_wp2_with (first | (go_at_call 32; refine (within_is _ _ _ _ hb).mono ?_; rintro e W1 ⟨rfl, rfl⟩))
    go_ret
    exact ⟨rfl, newB _ _⟩
theorem usb_fit (m u : Int) : (fit 1 1 m u || fit 2 8 m u) = usb m u := by
  unfold fit usb
  rw [Bool.eq_iff_iff, Bool.or_eq_true, decide_eq_true_iff, decide_eq_true_iff, decide_eq_true_iff]
  omega
set_option maxHeartbeats 1000000 in
theorem claimable_is (m u : Int) (w : World) {r : Bool} (hr : Hid (usb m u = r)) : Calls Tryz.prog 52 #[aa m u] w fun e w' => e = .returned (.bool r) ∧ Below w.heap.size w w' := by
  obtain ⟨x, hx⟩ : ∃ x, Hid (fit 1 1 m u = x) := ⟨_, rfl⟩
  obtain ⟨y, hy⟩ : ∃ y, Hid (fit 2 8 m u = y) := ⟨_, rfl⟩
  have hxy : Hid ((x || y) = r) := by show _ = _; rw [← hx.out, ← hy.out, usb_fit]; exact hr.out
  clear hr
  cases x with
  | true =>
    go_enter Tryz.func52, Tryz.ntmps52
    go_wp2_with (first | (go_at_call 75; (with_reducible refine (fits_is _ _ _ _ _ _ _ hx).mono ?_); rintro e W1 ⟨rfl, hb1⟩))
    go_ret
    exact ⟨ret_bool hxy.out, dn3 hb1⟩
  | false =>
    go_enter Tryz.func52, Tryz.ntmps52
    go_wp2_with (first
      | (go_at_call 75; (with_reducible refine (fits_is _ _ _ _ _ _ _ hx).mono ?_); rintro e W1 ⟨rfl, hb1⟩; obtain ⟨hc1, hf1⟩ := bcell hb1; have HB1 := Lib.hid hb1; clear hb1)
      | (go_at_call 75; (with_reducible refine (fits_is _ _ _ _ _ _ _ hy).mono ?_); rintro e W2 ⟨rfl, hb2⟩; have HB2 := Lib.hid (nx HB1.out hb2); clear hb2))
    go_ret
    exact ⟨ret_bool (by simpa using hxy.out), dn3 HB2.out⟩
theorem atm_nd {k : Int} {s : ByteArray} {m u : Int} {l : List Ex} : atm (.nd k (s, m, u) l) = true ↔ k = 0 ∧ l.length = 0 ∧ Nam s ∧ usb m u = true :=
  ⟨fun h => by obtain ⟨h1, h2, h3, h4⟩ := atm_is h; exact ⟨h1, by rw [show l = [] from h2]; rfl, h3, h4⟩, fun ⟨h1, h2, h3, h4⟩ => atm_mk ⟨h1, List.eq_nil_of_length_eq_zero h2, h3, h4⟩⟩
set_option maxHeartbeats 1000000 in
theorem isAtom_yes (s : ByteArray) (m u : Int) (A : Option Addr) (c : Nat) (w : World) (hn : Hid (Nam s)) (hu : Hid (usb m u = true)) :
    Calls Tryz.prog 29 #[xe 0 s m u A 0 c] w fun e w' => e = .returned (.bool true) ∧ Below w.heap.size w w' := by
  go_enter Tryz.func29, Tryz.ntmps29
  go_wp2_with (first
    | (go_at_call 51; refine (nam_yes _ _ hn).mono ?_; rintro e W1 ⟨rfl, rfl⟩)
    | (go_at_call 52; refine (claimable_is _ _ _ hu).mono ?_; rintro e W2 ⟨rfl, hb2⟩))
  go_ret
  exact ⟨rfl, dn1 hb2⟩
set_option maxHeartbeats 1000000 in
theorem isAtom_no (k : Int) (s : ByteArray) (m u : Int) (A : Option Addr) (n c : Nat) (w : World) (hno : Hid (¬ (k = 0 ∧ n = 0 ∧ Nam s ∧ usb m u = true))) :
    Calls Tryz.prog 29 #[xe k s m u A n c] w fun e w' => e = .returned (.bool false) ∧ Below w.heap.size w w' := by
  by_cases h1 : k = 0
  · subst h1
    by_cases h2 : n = 0
    · subst h2
      by_cases h3 : Nam s
      · have hn := Lib.hid h3
        have hu : Hid (usb m u = false) := by
          cases h : usb m u with
          | false => exact rfl
          | true => exact absurd ⟨rfl, rfl, h3, h⟩ hno.out
        clear h3 hno
        go_enter Tryz.func29, Tryz.ntmps29
        go_wp2_with (first
          | (go_at_call 51; refine (nam_yes _ _ hn).mono ?_; rintro e W1 ⟨rfl, rfl⟩)
          | (go_at_call 52; refine (claimable_is _ _ _ hu).mono ?_; rintro e W2 ⟨rfl, hb2⟩))
        go_ret
        exact ⟨rfl, dn1 hb2⟩
      · have hn := Lib.hid h3
        clear h3 hno
        go_enter Tryz.func29, Tryz.ntmps29
        go_wp2_with (first
          | (go_at_call 51; refine (nam_no _ _ hn).mono ?_; rintro e W1 ⟨rfl, rfl⟩))
        go_ret
        exact ⟨rfl, newB _ _⟩
    · clear hno
      have h2b : ((n : Int) == 0) = false := by rw [beq_eq_false_iff_ne]; omega
      clear h2
      go_enter Tryz.func29, Tryz.ntmps29
      go_wp2
      go_ret
      exact ⟨rfl, newB _ _⟩
  · clear hno
    have h2b : (k == 0) = false := by rw [beq_eq_false_iff_ne]; exact h1
    go_enter Tryz.func29, Tryz.ntmps29
    go_wp2
    go_ret
    exact ⟨rfl, newB _ _⟩
end Go.Proofs.YtlokcmbkkfjlkaaGreatDoor
