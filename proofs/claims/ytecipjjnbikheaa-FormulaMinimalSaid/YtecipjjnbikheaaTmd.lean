/- Contracts of the mill: Mod, Next; the tape in its box. Contracts of the mill: Mode, Amount, Light. -/
import Derived.Test.YtecipjjnbikheaaLcur
import Derived.Test.YtecipjjnbikheaaRsv
import Derived.Test.YtecipjjnbikheaaRcat
import Derived.Test.YtecipjjnbikheaaRblk
import Derived.Test.YtecipjjnbikheaaRd
namespace Go.Proofs.Ytecipjjnbikheaa
open Go.RowKit
open Go.Sort (grow)
set_option linter.unusedVariables false
set_option linter.unusedSimpArgs false

/-- The tape's box b: its numbers lie in a block ahead of it; the place. -/
structure Tq (w : World) (b : Nat) (A : Option Addr) (n c : Nat) (xs : List Int) (i : Nat) : Prop where
  lt : b < w.heap.size
  c0 : w.cell? ⟨b, 0, none⟩ = some (.slice A n c)
  c1 : w.cell? ⟨b, 1, none⟩ = some (.int .i64 i)
  fz : ∀ o, w.frozen? ⟨b, o, none⟩ = false
  len : xs.length = n
  rd : 0 < n → ∃ g o, A = some ⟨g, o, none⟩ ∧ g < b ∧ ∀ j, j < n → w.cell? ⟨g, o + j, none⟩ = some (.int .i64 (xs.getD j 0))
  wf : ∀ x ∈ xs, (Lit.int .i64 x).wf = true
  small : n ≤ 300
  le : i ≤ n
  cap : n ≤ c
def Tp (w : World) (b : Nat) : Prop := ∃ A n c xs i, Tq w b A n c xs i
theorem Tq.step {w : World} {b : Nat} {A : Option Addr} {n c : Nat} {xs : List Int} {i : Nat} (h : Tq w b A n c xs i) (hi : i < n) {k : Int} (hk : k = (i : Int) + 1) : Tq (w.setCell ⟨b, 1, none⟩ (.int .i64 k)) b A n c xs (i + 1) := by
  subst hk
  refine ⟨by simpa [World.setCell] using h.lt, by simp [go_sem, h.c0, h.c1, h.fz], ?_, fun o => by simp [go_sem, h.c1, h.fz], h.len, fun h0 => ?_, h.wf, h.small, hi, h.cap⟩
  · rw [World.cell?_setCell_same _ _ _ h.c1]; rfl
  · obtain ⟨g, o, hA, hg, hc⟩ := h.rd h0
    exact ⟨g, o, hA, hg, fun j hj => (cell_of_block (block_set _ _ _ (by omega)) _).trans (hc j hj)⟩
theorem Tp.lt {w : World} {b : Nat} (h : Tp w b) : b < w.heap.size := by obtain ⟨A, n, c, xs, i, h⟩ := h; exact h.lt
theorem Tq.of {w w' : World} {b : Nat} {A : Option Addr} {n c : Nat} {xs : List Int} {i : Nat} (h : Tq w b A n c xs i) (hb : ∀ k, k ≤ b → w'.heap[k]? = w.heap[k]?) (hs : w.heap.size ≤ w'.heap.size) : Tq w' b A n c xs i :=
  ⟨Nat.lt_of_lt_of_le h.lt hs, (cell_of_block (hb b (Nat.le_refl _)) 0).trans h.c0, (cell_of_block (hb b (Nat.le_refl _)) 1).trans h.c1, fun o => (frozen_of_block (hb b (Nat.le_refl _)) o).trans (h.fz o), h.len, fun h0 => by
    obtain ⟨g, o, hA, hg, hc⟩ := h.rd h0
    exact ⟨g, o, hA, hg, fun j hj => (cell_of_block (hb g (Nat.le_of_lt hg)) _).trans (hc j hj)⟩, h.wf, h.small, h.le, h.cap⟩
theorem Tp.of {w w' : World} {b : Nat} (h : Tp w b) (hb : ∀ k, k ≤ b → w'.heap[k]? = w.heap[k]?) (hs : w.heap.size ≤ w'.heap.size) : Tp w' b := by
  obtain ⟨A, n, c, xs, i, h⟩ := h
  exact ⟨A, n, c, xs, i, h.of hb hs⟩
theorem Tp.up {w w' : World} {b : Nat} (h : Tp w b) (hb : Below w.heap.size w w') : Tp w' b := h.of (fun k hk => hb.block k (Nat.lt_of_le_of_lt hk h.lt)) hb.size
/-- Rows grow or boxes change that lie behind the tape's box. -/
theorem Tp.behind {w w' : World} {b : Nat} (h : Tp w b) {B : Nat} (hb : Below B w w') (hB : b < B) : Tp w' b := h.of (fun k hk => hb.block k (Nat.lt_of_le_of_lt hk hB)) hb.size
theorem Frm.up {b : Nat} {w w' : World} (hb : Below w.heap.size w w') : Frm b w w' := ⟨hb.os, hb.tape, hb.output, hb.size, fun k hk _ => hb.block k hk⟩
theorem i64_wf {n : Int} (hn : (Lit.int .i64 n).wf = true) : -9223372036854775808 ≤ n ∧ n ≤ 9223372036854775807 := by
  have h := Bool.and_eq_true_iff.1 hn
  have h1 : (-9223372036854775808 : Int) ≤ n := of_decide_eq_true h.1
  have h2 : n ≤ (9223372036854775807 : Int) := of_decide_eq_true h.2
  exact ⟨h1, h2⟩
theorem mod_is (n m : Int) (w : World) (hn : (Lit.int .i64 n).wf = true) (h1 : 1 ≤ m) (hm : m ≤ 1048576) {x : Int} (hx : Hid (n % m = x)) :
    Calls Try.prog 57 #[.int .i64 n, .int .i64 m] w fun e w' => e = .returned (.int .i64 x) ∧ w = w' := by
  have hwf := i64_wf hn
  have h5 : 0 ≤ n % m := Int.emod_nonneg _ (by omega)
  have h6 : n % m < m := Int.emod_lt_of_pos _ (by omega)
  have q0 : ¬ m < 1 := by omega
  have z0 : ¬ m = 0 := by omega
  obtain ⟨y, hy⟩ : ∃ y, Hid (n.tmod m = y) := ⟨_, rfl⟩
  have hcase : (y = x ∨ y = x - m) := by
    have h := Int.tmod_eq_emod (a := n) (b := m)
    rw [hy.out, hx.out] at h
    split at h
    · left; omega
    · right
      have : ((m.natAbs : Nat) : Int) = m := Int.natAbs_of_nonneg (by omega)
      omega
  rw [hx.out] at h5 h6
  by_cases hneg : y < 0
  · have e1 : n.tmod m = y := hy.out
    have e2 : IntKind.i64.wrap (y + m) = y + m := by rw [IntKind.wrap_i64]; omega
    have hr : Hid (x = y + m) := by show _ = _; omega
    clear hy hx hn hwf h5 h6 hcase h1 hm
    go_enter Try.func57, Try.ntmps57
    go_wp2
    go_ret
    exact ⟨by show Ending.returned (Value.int IntKind.i64 (y + m)) = _; rw [hr.out], rfl⟩
  · have e1 : n.tmod m = y := hy.out
    have hr : Hid (x = y) := by show _ = _; omega
    clear hy hx hn hwf h5 h6 hcase h1 hm
    go_enter Try.func57, Try.ntmps57
    go_wp2
    go_ret
    exact ⟨by show Ending.returned (Value.int IntKind.i64 y) = _; rw [hr.out], rfl⟩
theorem mod_nat (n m : Int) (h1 : 1 ≤ m) : ∃ v : Nat, Hid (n % m = (v : Int)) ∧ (v : Int) < m := by
  have h5 : 0 ≤ n % m := Int.emod_nonneg _ (by omega)
  have h6 : n % m < m := Int.emod_lt_of_pos _ (by omega)
  exact ⟨(n % m).toNat, by show _ = _; omega, by omega⟩
set_option maxHeartbeats 2000000 in
set_option maxRecDepth 8000 in
theorem next_is (b : Nat) (m : Int) (w : World) (hT : Tp w b) (h1 : 1 ≤ m) (hm : m ≤ 1048576) :
    Calls Try.prog 40 #[.pointer (some ⟨b, 0, none⟩), .int .i64 m] w fun e w' => (∃ v : Nat, (v : Int) < m ∧ e = .returned (.int .i64 v)) ∧ Tp w' b ∧ Frm b w w' := by
  obtain ⟨A, n, c, xs, i, hT⟩ := hT
  have H := Lib.hid hT
  have c0 := hT.c0
  have c1 := hT.c1
  have fz := hT.fz
  have hlt := hT.lt
  have hle := hT.le
  have hsm := hT.small
  have H1 := Lib.hid h1
  have HM := Lib.hid hm
  by_cases hi : (n : Int) ≤ (i : Int)
  · clear hT
    go_enter Try.func40, Try.ntmps40
    go_wp2
    go_quiet (fail)
    go_wp2
    go_ret
    exact ⟨⟨0, by have := H1.out; omega, rfl⟩, ⟨A, n, c, xs, i, H.out.of (fun _ _ => rfl) (Nat.le_refl _)⟩, (Frm.refl b w).drewN _⟩
  · obtain ⟨g, o, rfl, hg, hc⟩ := hT.rd (by omega)
    have x0 := hc i (by omega)
    have hwf := hT.wf (xs.getD i 0) (by
      rw [List.getD_eq_getElem?_getD, List.getElem?_eq_getElem (by rw [hT.len]; omega)]
      exact List.getElem_mem _)
    obtain ⟨x, hx⟩ : ∃ x, Hid (xs.getD i 0 = x) := ⟨_, rfl⟩
    rw [hx.out] at x0 hwf
    have HW := Lib.hid hwf
    obtain ⟨v, hv, hvm⟩ := mod_nat x m H1.out
    have HVM := Lib.hid hvm
    have e1 : IntKind.i64.wrap ((i : Int) + 1) = (i : Int) + 1 := by rw [IntKind.wrap_i64]; omega
    have e2 : IntKind.i64.wrap (i : Int) = (i : Int) := by rw [IntKind.wrap_i64]; omega
    have hgb : ¬ b = g := by omega
    have hgb2 : ¬ g = b := by omega
    have hi0 : Hid (i < n) := by show _ < _; omega
    clear hT hc hwf hvm h1 hm
    go_enter Try.func40, Try.ntmps40
    go_wp2
    go_quiet (fail)
    go_wp2
    go_quiet ((first
      | (go_at_call 57; exact Calls.quiet_of_same ((mod_is x m _ HW.out H1.out HM.out hv).mono fun _ _ ⟨p1, p2⟩ => ⟨p1, p2.symm⟩))))
    go_wp2
    go_ret
    exact ⟨⟨v, HVM.out, rfl⟩, ⟨_, n, c, xs, i + 1, ((((H.out.of (fun _ _ => rfl) (Nat.le_refl _) : Tq (w.drewN _) b _ n c xs i).step hi0.out rfl).of (fun _ _ => rfl) (Nat.le_refl _)))⟩, (((Frm.refl b w).drewN _).set 1 _).drewN _⟩
end Go.Proofs.Ytecipjjnbikheaa

namespace Go.Proofs.Ytecipjjnbikheaa
open Go.RowKit
set_option linter.unusedVariables false
set_option linter.unusedSimpArgs false

def md8 (i : Nat) : Int := if i = 0 then 5 else if i = 1 then 5 else if i = 2 then 3 else if i = 3 then 4 else if i = 4 then 2 else if i = 5 then 1 else if i = 6 then 3 else 5
theorem md8_is (i : Nat) : 1 ≤ md8 i ∧ md8 i ≤ 5 := by unfold md8; repeat (first | decide | split)
set_option maxHeartbeats 2000000 in
set_option maxRecDepth 8000 in
theorem mode_any (n : Int) (w : World) (hn : Hid ((Lit.int .i64 n).wf = true)) :
    Calls Try.prog 58 #[.int .i64 n] w fun e w' => (∃ x, 1 ≤ x ∧ x ≤ 5 ∧ e = .returned (.int .i64 x)) ∧ Below w.heap.size w w' := by
  obtain ⟨i, hi, hi8⟩ := mod_nat n 8 (by omega)
  have hcell : ∀ i, i < 8 → (w.alloc (.cells #[.int .i64 5, .int .i64 5, .int .i64 3, .int .i64 4, .int .i64 2, .int .i64 1, .int .i64 3, .int .i64 5] 3)).cell? ⟨w.heap.size, i, none⟩ = some (.int .i64 (md8 i)) := fun i h => by
    have hc : i = 0 ∨ i = 1 ∨ i = 2 ∨ i = 3 ∨ i = 4 ∨ i = 5 ∨ i = 6 ∨ i = 7 := by omega
    rcases hc with rfl | rfl | rfl | rfl | rfl | rfl | rfl | rfl <;> simp [md8]
  have ci := hcell i (by omega)
  have hb := md8_is i
  obtain ⟨x, hx⟩ : ∃ x, Hid (md8 i = x) := ⟨_, rfl⟩
  rw [hx.out] at ci hb
  have HB := Lib.hid hb
  clear hcell hb
  go_enter Try.func58, Try.ntmps58
  go_wp2_with (go_at_call 57; refine (mod_is n 8 _ hn.out (by omega) (by omega) hi).mono ?_; rintro e W1 ⟨rfl, rfl⟩)
  go_ret
  exact ⟨⟨x, HB.out.1, HB.out.2, rfl⟩, newB _ _⟩
set_option maxHeartbeats 2000000 in
set_option maxRecDepth 8000 in
theorem amount_any (s : ByteArray) (k u h n : Int) (w : World) (hn : Hid ((Lit.int .i64 n).wf = true)) (hsh : shp k u = true) :
    Calls Try.prog 41 #[.agg #[.string s, .int .i64 k, .int .i64 u, .int .i64 h], .int .i64 n] w fun e w' => (∃ m v, fit k u m v = true ∧ e = .returned (.agg #[.int .i64 m, .int .i64 v])) ∧ Below w.heap.size w w' := by
  have hb0 := nxA (newB w (.cells #[.string s, .int .i64 k, .int .i64 u, .int .i64 h] 63)) (.cells #[.int .i64 0, .int .i64 0] 23)
  have hk0 := Blk.new w [.string s, .int .i64 k, .int .i64 u, .int .i64 h] 63 rfl
  have HK := Lib.hid (hk0.grow (.cells #[.int .i64 0, .int .i64 0] 23))
  have hk1 := Blk.new (w.alloc (.cells #[.string s, .int .i64 k, .int .i64 u, .int .i64 h] 63)) [.int .i64 0, .int .i64 0] 23 rfl
  have hsz : (w.alloc (.cells #[.string s, .int .i64 k, .int .i64 u, .int .i64 h] 63)).heap.size = w.heap.size + 1 := by simp
  rw [hsz] at hk1
  have HB0 := Lib.hid hb0
  have HK1 := Lib.hid hk1
  clear hb0 hk0 hk1 hsz
  have hsh2 : (k = 1 ∧ u = 1) ∨ (k = 2 ∧ 1 ≤ u ∧ u ≤ 8) := of_decide_eq_true hsh
  clear hsh
  rcases hsh2 with ⟨rfl, rfl⟩ | ⟨rfl, hu, hu8⟩
  · go_enter Try.func41, Try.ntmps41
    go_wp2_with (go_at_call 58; refine (mode_any n _ hn).mono ?_; rintro e W1 ⟨⟨x, hx1, hx5, rfl⟩, hb1⟩; have HX := Lib.hid (And.intro hx1 hx5); have hk2 := HK1.out.up hb1 HK1.out.lt; have c0 := hk2.cell 0 rfl; have c1 := hk2.cell 1 rfl; have fz := hk2.fz; have lt := hk2.lt; have HB1 := Lib.hid (nx HB0.out hb1); clear hb1 hk2 hx1 hx5)
    refine bodyPost_ret (v := .agg #[.int .i64 x, .int .i64 0]) (by simp [results, Try.results41, go_sem, c0, c1, fz, lt]) rfl ⟨⟨x, 0, ?_, rfl⟩, ?_⟩
    · have h1 := HX.out
      unfold fit
      simp
      omega
    · exact (HB1.out.setCell (p := ⟨w.heap.size + 1, 0, none⟩) (by simp) _).setCell (p := ⟨w.heap.size + 1, 1, none⟩) (by simp) _
  · obtain ⟨i, hi, hi8⟩ := mod_nat n u hu
    have e1 : IntKind.i64.wrap (1 + (i : Int)) = 1 + (i : Int) := by rw [IntKind.wrap_i64]; omega
    have hus : Hid (fit 2 u 0 (1 + (i : Int)) = true) := by show _ = _; unfold fit; simp; omega
    clear hi8
    go_enter Try.func41, Try.ntmps41
    go_wp2_with (go_at_call 57; refine (mod_is n u _ hn.out (by omega) (by omega) hi).mono ?_; rintro e W1 ⟨rfl, rfl⟩)
    exact bodyPost_ret (v := .agg #[.int .i64 0, .int .i64 (1 + (i : Int))]) (by simp [results, Try.results41, go_sem]) rfl ⟨⟨0, _, hus.out, rfl⟩, nxA (newB w _) _⟩
end Go.Proofs.Ytecipjjnbikheaa
