/- Contracts of PutProc, by the program and by the reference. -/
import Derived.Test.YtchffamnamhcdaaDoorIb
import Derived.Test.YtchffamnamhcdaaDoorPutB
import Derived.Test.YtchffamnamhcdaaDoorEq
namespace Go.Proofs.YtchffamnamhcdaaDoor
set_option linter.unusedVariables false
open Go.RowKit

/-- A slice of bytes that a call gave, its form written out. -/
def GivesR (w : World) (zs : List Int) (m : Nat) (e : Ending) (w' : World) : Prop := ∃ A c, e = .returned (.slice A m c) ∧ m ≤ c ∧ c ≤ maxLen ∧ Rd w' A zs ∧ Below w.heap.size w w'
theorem Gives.rd {w w' : World} {zs : List Int} {e : Ending} {m : Nat} (hm : Hid (zs.length = m)) (h : Gives w zs e w') : GivesR w zs m e w' := by
  obtain ⟨V, h1, h2, h3⟩ := h
  obtain ⟨A, c, rfl, hc, hm', hr, _⟩ := Own.form h2
  rw [hm.out] at h1 hc
  exact ⟨A, c, h1, hc, hm', hr, h3⟩
theorem put_rd (A : Option Addr) (m c : Nat) (xs : List Int) (v : Int) (w : World) (h : Rd w A xs) (hm : Hid (xs.length = m)) (hl : Hid (m ≤ 150000000000000)) (hv0 : 0 ≤ v) (hv1 : v < 1000) (hc : m ≤ c) {n : Nat} (hn : Hid ((xs ++ vint v).length = n)) :
    Calls Tryd.prog 55 #[.slice A m c, .int .u64 v] w (GivesR w (xs ++ vint v) n) := by
  have hm' := hm.out
  subst hm'
  exact (put_big A c xs v w h hl.out hv0 (by omega) hc).mono fun _ _ => Gives.rd hn
theorem refPut_rd (A : Option Addr) (m c : Nat) (xs : List Int) (v : Int) (w : World) (h : Rd w A xs) (hm : Hid (xs.length = m)) (hl : Hid (m ≤ 150000000000000)) (hv0 : 0 ≤ v) (hv1 : v < 1000) {n : Nat} (hn : Hid ((xs ++ vint v).length = n)) :
    Calls Tryd.prog 56 #[.slice A m c, .int .u64 v] w (GivesR w (xs ++ vint v) n) := by
  have hm' := hm.out
  subst hm'
  exact (refPut_big A c xs v w h hl.out hv0 (by omega)).mono fun _ _ => Gives.rd hn

/-- The bytes of a process. -/
def procB (a b c : Int) : List Int := vint a ++ vint b ++ vint c
theorem procB_len (a b c : Int) : 3 ≤ (procB a b c).length ∧ (procB a b c).length ≤ 30 := by
  have h1 := vint_len a
  have h2 := vint_len b
  have h3 := vint_len c
  simp [procB]
  omega
theorem procB_byt {a b c : Int} (h : vpB a b c = true) : Byt (procB a b c) := by
  have := vpB_true h
  exact ((vint_byt (by omega) (by omega)).append (vint_byt (by omega) (by omega))).append (vint_byt (by omega) (by omega))

set_option maxRecDepth 8000 in
theorem clone_bytes (A : Option Addr) (m c : Nat) (xs : List Int) (w : World) (h : Rd w A xs) (hm : Hid (xs.length = m)) (hl : Hid (m ≤ 150000000000000)) :
    Calls Tryd.prog 54 #[.slice A m c] w (GivesR w xs m) := by
  have hm' := hm.out
  subst hm'
  cases A with
  | none =>
    have h0 : xs = [] := by
      rcases List.eq_nil_or_concat xs with h0 | ⟨ys, y, rfl⟩
      · exact h0
      · obtain ⟨b, o, hb, _⟩ := h (by simp)
        cases hb
    subst h0
    have hnil : ∀ w : World, (binOp .eql 41 (.slice none 0 c) (.slice none 0 0)).run Tryd.prog w = .ok (.bool true) w := fun _ => by kernel_rfl
    go_enter Tryd.func54, Tryd.ntmps54
    go_wp2
    go_ret
    exact ⟨none, 0, rfl, Nat.le_refl _, by simp [maxLen], Rd.nil _ _, Below.refl _ _⟩
  | some a =>
    have hnil : ∀ w : World, (binOp .eql 41 (.slice (some a) xs.length c) (.slice none 0 0)).run Tryd.prog w = .ok (.bool false) w := fun _ => by kernel_rfl
    go_enter Tryd.func54, Tryd.ntmps54
    go_wp2_with (at_builtin; (refine app_bytes rfl (.tmp 5) (.tmp 6) rfl w.heap.size _ [] (some a) xs c rfl rfl (.inl (Own.empty _ _ _ (Nat.le_refl _))) (.inl (Own.empty _ _ _ (Nat.le_refl _))) (h.below (below_new w (.cells #[] 5))) (by have := hl.out; simp; omega) (by simp) ?_); intro V1 W1 ho1 hb1 _ _; have hB1 := (below_new w (.cells #[] 5)).trans hb1)
    go_ret
    exact Gives.rd (Lib.hid rfl) ⟨V1, rfl, by simpa using ho1, hB1⟩

set_option maxHeartbeats 1000000 in
set_option maxRecDepth 8000 in
theorem putProc_yes (A : Option Addr) (m c : Nat) (xs : List Int) (a b d : Int) (w : World) (h : Rd w A xs) (hm : Hid (xs.length = m)) (hl : Hid (m ≤ 140737488351232)) (hc : m ≤ c) (hv : Hid (vpB a b d = true)) {n : Nat} (hn : Hid ((xs ++ procB a b d).length = n)) :
    Calls Tryd.prog 30 #[.slice A m c, .agg #[.int .i64 a, .int .i64 b, .int .i64 d]] w (GivesR w (xs ++ procB a b d) n) := by
  obtain ⟨b1, b2, b3, b4, b5, b6⟩ := vpB_true hv.out
  obtain ⟨n1, k1⟩ : ∃ n1, Hid ((xs ++ vint a).length = n1) := ⟨_, rfl⟩
  obtain ⟨n2, k2⟩ : ∃ n2, Hid ((xs ++ vint a ++ vint b).length = n2) := ⟨_, rfl⟩
  obtain ⟨n3, k3⟩ : ∃ n3, Hid ((xs ++ vint a ++ vint b ++ vint d).length = n3) := ⟨_, rfl⟩
  have e3 : Hid (n3 = n) := by
    show _ = _
    rw [← k3.out, ← hn.out, procB]
    simp [List.append_assoc]
  have l0 : Hid (m ≤ 150000000000000) := by have := hl.out; show _ ≤ _; omega
  have l1 : Hid (n1 ≤ 150000000000000) := by have := hl.out; have := vint_len a; have := k1.out; have := hm.out; show _ ≤ _; rw [List.length_append] at *; omega
  have l2 : Hid (n2 ≤ 150000000000000) := by have := hl.out; have := vint_len a; have := vint_len b; have := hm.out; have h2 := k2.out; show _ ≤ _; rw [List.length_append, List.length_append] at h2; omega
  have HR := Lib.hid h
  clear h
  have ix0 : ∀ w : World, (Instr.index 56 (.agg #[.int .i64 a, .int .i64 b, .int .i64 d]) (.int .i64 0)).run Tryd.prog w = .ok (.int .i64 a) w := fun _ => by kernel_rfl
  have ix1 : ∀ w : World, (Instr.index 56 (.agg #[.int .i64 a, .int .i64 b, .int .i64 d]) (.int .i64 1)).run Tryd.prog w = .ok (.int .i64 b) w := fun _ => by kernel_rfl
  have ix2 : ∀ w : World, (Instr.index 56 (.agg #[.int .i64 a, .int .i64 b, .int .i64 d]) (.int .i64 2)).run Tryd.prog w = .ok (.int .i64 d) w := fun _ => by kernel_rfl
  go_enter Tryd.func30, Tryd.ntmps30
  go_wp2_with (first
    | (go_at_call 15; refine (valid_b _ _ _ _ hv).mono ?_; rintro e W1 ⟨rfl, hb1⟩; have hW1 := nx (newB w _) hb1; have x1 := Lib.hid ((B3.new w _ _ _ _).below hb1); obtain ⟨i0, i1, i2, i3⟩ := x1.out)
    | (go_at_call 41; refine (numbers_any _ _ _ _).mono ?_; rintro e W2 ⟨rfl, hg2⟩; have hW2 := nx hW1 hg2.below))
  go_loopw [0, 14] (fun s i wr => ∃ (k q cc : Nat) (B : Option Addr) (ys : List Int), k ≤ 3 ∧ i = .int .i64 k ∧ s = .slice B q cc ∧ q ≤ cc ∧ Hid (Rd wr B ys) ∧ Hid (Below w.heap.size w wr) ∧ Hid (ys.length = q) ∧
    Hid ((k = 0 → ys = xs ∧ q = m) ∧ (k = 1 → ys = xs ++ vint a ∧ q = n1) ∧ (k = 2 → ys = xs ++ vint a ++ vint b ∧ q = n2) ∧ (k = 3 → ys = xs ++ vint a ++ vint b ++ vint d ∧ q = n3 ∧ cc ≤ maxLen))) (fun _ i _ => 3 - (intOf i).toNat)
  case atStart => exact ⟨0, m, c, A, xs, by omega, rfl, rfl, hc, HR.out.below hW2, hW2, hm.out, ⟨fun _ => ⟨rfl, rfl⟩, by omega, by omega, by omega⟩⟩
  case round =>
    obtain ⟨k, q, cc, B, ys, hk, rfl, rfl, hqc, hrd, hbl, hyl, hst⟩ := hrel
    have hkc : k = 0 ∨ k = 1 ∨ k = 2 ∨ k = 3 := by omega
    clear hk
    rcases hkc with rfl | rfl | rfl | rfl
    · obtain ⟨rfl, rfl⟩ := hst.out.1 rfl
      go_wp2_with (go_at_call 55; (with_reducible refine (put_rd _ _ _ _ a _ hrd.out hyl l0 (by omega) (by omega) hqc k1).mono ?_); rintro e W3 ⟨B', c', rfl, hc3, hm3, hr3, hb3⟩)
      go_roundw
      case rel => exact ⟨1, n1, c', B', _, by omega, by go_num, rfl, hc3, hr3, nx hbl.out hb3, k1.out, ⟨by omega, fun _ => ⟨rfl, rfl⟩, by omega, by omega⟩⟩
      case measure => simp [intOf]
    · obtain ⟨rfl, rfl⟩ := hst.out.2.1 rfl
      go_wp2_with (go_at_call 55; (with_reducible refine (put_rd _ _ _ _ b _ hrd.out hyl l1 (by omega) (by omega) hqc k2).mono ?_); rintro e W3 ⟨B', c', rfl, hc3, hm3, hr3, hb3⟩)
      go_roundw
      case rel => exact ⟨2, n2, c', B', _, by omega, by go_num, rfl, hc3, hr3, nx hbl.out hb3, k2.out, ⟨by omega, by omega, fun _ => ⟨rfl, rfl⟩, by omega⟩⟩
      case measure => simp [intOf]
    · obtain ⟨rfl, rfl⟩ := hst.out.2.2.1 rfl
      go_wp2_with (go_at_call 55; (with_reducible refine (put_rd _ _ _ _ d _ hrd.out hyl l2 (by omega) (by omega) hqc k3).mono ?_); rintro e W3 ⟨B', c', rfl, hc3, hm3, hr3, hb3⟩)
      go_roundw
      case rel => exact ⟨3, n3, c', B', _, by omega, by go_num, rfl, hc3, hr3, nx hbl.out hb3, k3.out, ⟨by omega, by omega, by omega, fun _ => ⟨rfl, rfl, hm3⟩⟩⟩
      case measure => simp [intOf]
    · obtain ⟨rfl, rfl, hcm⟩ := hst.out.2.2.2 rfl
      go_wp2
      go_ret
      have e := e3.out
      subst e
      exact ⟨B, cc, rfl, hqc, hcm, by have := hrd.out; rwa [show xs ++ procB a b d = xs ++ vint a ++ vint b ++ vint d by simp [procB, List.append_assoc]], hbl.out⟩
theorem putProc_no (A : Option Addr) (m c : Nat) (xs : List Int) (a b d : Int) (w : World) (h : Rd w A xs) (hm : Hid (xs.length = m)) (hl : Hid (m ≤ 140737488351232)) (hv : Hid (vpB a b d = false)) :
    Calls Tryd.prog 30 #[.slice A m c, .agg #[.int .i64 a, .int .i64 b, .int .i64 d]] w (GivesR w xs m) := by
  have l0 : Hid (m ≤ 150000000000000) := by have := hl.out; show _ ≤ _; omega
  have HR := Lib.hid h
  clear h
  go_enter Tryd.func30, Tryd.ntmps30
  go_wp2_with (first
    | (go_at_call 15; refine (valid_b _ _ _ _ hv).mono ?_; rintro e W1 ⟨rfl, hb1⟩; have hW1 := nx (newB w _) hb1)
    | (go_at_call 54; refine (clone_bytes _ _ _ _ _ (HR.out.below hW1) hm l0).mono ?_; rintro e W2 ⟨B, c', rfl, hc2, hm2, hr2, hb2⟩))
  go_ret
  exact ⟨B, c', rfl, hc2, hm2, hr2, nx hW1 hb2⟩
end Go.Proofs.YtchffamnamhcdaaDoor
