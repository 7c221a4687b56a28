/- A slice of integers that came in. Contracts of the mill: Mod, Next; the tape in its box. Contracts of the mill: Mode, Amount, Light. Slices of resources as lists; rows of resources of the call's own, append (XCrows without ==). Contracts of the mill: Catalog. Grafted from Cval Cnam Cres Ccat Cfind Cplc Csame. Grafted from Cins Crin Crsv Call. Contracts of the reference: Resolve, SameBools. -/
import Derived.Test.YtohjllnfnkajjaaGreatLrows
import Derived.Test.YtohjllnfnkajjaaGreatLcur
import Derived.Test.YtohjllnfnkajjaaGreatRsv
import Derived.Test.YtohjllnfnkajjaaGreatRcat
import Derived.Test.YtohjllnfnkajjaaGreatRblk
import Derived.Test.YtohjllnfnkajjaaGreatRd
import Derived.Test.YtohjllnfnkajjaaGreatHeap
import Derived.Test.YtohjllnfnkajjaaGreatCd
import Derived.Deep.CutRange
import Derived.Test.YtohjllnfnkajjaaGreatRrv
import Derived.WalkKit
import Derived.Lib.Hide
import Derived.WalkLawsBesides
import Derived.KernelRfl
import Derived.ChangeBears2
import Derived.Deep.RegionHeld3
import Derived.BigQuiet
import Derived.Deep.QuietTactic
import Derived.Laws.StructEq
import Derived.Shelf.SlSortCmp.QuietGrown
import Derived.RegionTactic
import Derived.Test.YtohjllnfnkajjaaGreatFrf
namespace Go.Proofs.YtohjllnfnkajjaaGreat
set_option linter.unusedVariables false
open Go.RowKit

/-- The slice at A reads as the integers xs. -/
def IRd (w : World) (A : Option Addr) (xs : List Int) : Prop :=
  xs ≠ [] → ∃ b o, A = some ⟨b, o, none⟩ ∧ b < w.heap.size ∧ ∀ i, i < xs.length → w.cell? ⟨b, o + i, none⟩ = some (.int .i64 (xs.getD i 0))
theorem IRd.nil (w : World) (A : Option Addr) : IRd w A [] := fun h => absurd rfl h
theorem IRd.at_ {w : World} {A : Option Addr} {xs : List Int} (h : IRd w A xs) {i : Nat} (hi : i < xs.length) :
    ∃ b o, A = some ⟨b, o, none⟩ ∧ b < w.heap.size ∧ w.cell? ⟨b, o + i, none⟩ = some (.int .i64 (xs.getD i 0)) := by
  obtain ⟨b, o, hA, hb, hc⟩ := h (by rintro rfl; simp at hi)
  exact ⟨b, o, hA, hb, hc i hi⟩
theorem IRd.below {w w' : World} {A : Option Addr} {xs : List Int} (h : IRd w A xs) (hb : Below w.heap.size w w') : IRd w' A xs := fun hx => by
  obtain ⟨b, o, hA, hlt, hc⟩ := h hx
  exact ⟨b, o, hA, Nat.lt_of_lt_of_le hlt hb.size, fun i hi => (hb.cell (p := ⟨b, o + i, none⟩) hlt).trans (hc i hi)⟩
/-- A slice of integers that came in. -/
structure InI (w : World) (A : Option Addr) (n c : Nat) (xs : List Int) : Prop where
  len : xs.length = n
  rd : IRd w A xs
  fit : n ≤ c
  small : n ≤ 140737488351232
  wf : ∀ x ∈ xs, (Lit.int .i64 x).wf = true

end Go.Proofs.YtohjllnfnkajjaaGreat

namespace Go.Proofs.YtohjllnfnkajjaaGreat
open Go.RowKit
open Go.Sort (grow)
set_option linter.unusedVariables false
set_option linter.unusedSimpArgs false

/-- The tape's box b: its numbers lie in a block ahead of it; the place. -/
structure Tq (w : World) (b : Nat) (A : Option Addr) (n c : Nat) (xs : List Int) (i : Nat) : Prop where
  lt : b < w.heap.size
  c0 : w.cell? ⟨b, 0, none⟩ = some (.slice A n c)
  c1 : w.cell? ⟨b, 1, none⟩ = some (.int .i64 i)
  fz : ∀ o, w.frozen? ⟨b, o, none⟩ = false
  len : xs.length = n
  rd : 0 < n → ∃ g o, A = some ⟨g, o, none⟩ ∧ g < b ∧ ∀ j, j < n → w.cell? ⟨g, o + j, none⟩ = some (.int .i64 (xs.getD j 0))
  wf : ∀ x ∈ xs, (Lit.int .i64 x).wf = true
  small : n ≤ 300
  le : i ≤ n
  cap : n ≤ c
def Tp (w : World) (b : Nat) : Prop := ∃ A n c xs i, Tq w b A n c xs i
theorem Tq.step {w : World} {b : Nat} {A : Option Addr} {n c : Nat} {xs : List Int} {i : Nat} (h : Tq w b A n c xs i) (hi : i < n) {k : Int} (hk : k = (i : Int) + 1) : Tq (w.setCell ⟨b, 1, none⟩ (.int .i64 k)) b A n c xs (i + 1) := by
  subst hk
  refine ⟨by simpa [World.setCell] using h.lt, by simp [go_sem, h.c0, h.c1, h.fz], ?_, fun o => by simp [go_sem, h.c1, h.fz], h.len, fun h0 => ?_, h.wf, h.small, hi, h.cap⟩
  · rw [World.cell?_setCell_same _ _ _ h.c1]; rfl
  · obtain ⟨g, o, hA, hg, hc⟩ := h.rd h0
    exact ⟨g, o, hA, hg, fun j hj => (cell_of_block (block_set _ _ _ (by omega)) _).trans (hc j hj)⟩
theorem Tp.lt {w : World} {b : Nat} (h : Tp w b) : b < w.heap.size := by obtain ⟨A, n, c, xs, i, h⟩ := h; exact h.lt
theorem Tq.of {w w' : World} {b : Nat} {A : Option Addr} {n c : Nat} {xs : List Int} {i : Nat} (h : Tq w b A n c xs i) (hb : ∀ k, k ≤ b → w'.heap[k]? = w.heap[k]?) (hs : w.heap.size ≤ w'.heap.size) : Tq w' b A n c xs i :=
  ⟨Nat.lt_of_lt_of_le h.lt hs, (cell_of_block (hb b (Nat.le_refl _)) 0).trans h.c0, (cell_of_block (hb b (Nat.le_refl _)) 1).trans h.c1, fun o => (frozen_of_block (hb b (Nat.le_refl _)) o).trans (h.fz o), h.len, fun h0 => by
    obtain ⟨g, o, hA, hg, hc⟩ := h.rd h0
    exact ⟨g, o, hA, hg, fun j hj => (cell_of_block (hb g (Nat.le_of_lt hg)) _).trans (hc j hj)⟩, h.wf, h.small, h.le, h.cap⟩
theorem Tp.of {w w' : World} {b : Nat} (h : Tp w b) (hb : ∀ k, k ≤ b → w'.heap[k]? = w.heap[k]?) (hs : w.heap.size ≤ w'.heap.size) : Tp w' b := by
  obtain ⟨A, n, c, xs, i, h⟩ := h
  exact ⟨A, n, c, xs, i, h.of hb hs⟩
theorem Tp.up {w w' : World} {b : Nat} (h : Tp w b) (hb : Below w.heap.size w w') : Tp w' b := h.of (fun k hk => hb.block k (Nat.lt_of_le_of_lt hk h.lt)) hb.size
/-- Rows grow or boxes change that lie behind the tape's box. -/
theorem Tp.behind {w w' : World} {b : Nat} (h : Tp w b) {B : Nat} (hb : Below B w w') (hB : b < B) : Tp w' b := h.of (fun k hk => hb.block k (Nat.lt_of_le_of_lt hk hB)) hb.size
theorem Frm.up {b : Nat} {w w' : World} (hb : Below w.heap.size w w') : Frm b w w' := ⟨hb.os, hb.tape, hb.output, hb.size, fun k hk _ => hb.block k hk⟩
theorem i64_wf {n : Int} (hn : (Lit.int .i64 n).wf = true) : -9223372036854775808 ≤ n ∧ n ≤ 9223372036854775807 := by
  have h := Bool.and_eq_true_iff.1 hn
  have h1 : (-9223372036854775808 : Int) ≤ n := of_decide_eq_true h.1
  have h2 : n ≤ (9223372036854775807 : Int) := of_decide_eq_true h.2
  exact ⟨h1, h2⟩
theorem mod_is (n m : Int) (w : World) (hn : (Lit.int .i64 n).wf = true) (h1 : 1 ≤ m) (hm : m ≤ 1048576) {x : Int} (hx : Hid (n % m = x)) :
    Calls Tryz.prog 15 #[.int .i64 n, .int .i64 m] w fun e w' => e = .returned (.int .i64 x) ∧ w = w' := by
  have hwf := i64_wf hn
  have h5 : 0 ≤ n % m := Int.emod_nonneg _ (by omega)
  have h6 : n % m < m := Int.emod_lt_of_pos _ (by omega)
  have q0 : ¬ m < 1 := by omega
  have z0 : ¬ m = 0 := by omega
  obtain ⟨y, hy⟩ : ∃ y, Hid (n.tmod m = y) := ⟨_, rfl⟩
  have hcase : (y = x ∨ y = x - m) := by
    have h := Int.tmod_eq_emod (a := n) (b := m)
    rw [hy.out, hx.out] at h
    split at h
    · left; omega
    · right
      have : ((m.natAbs : Nat) : Int) = m := Int.natAbs_of_nonneg (by omega)
      omega
  rw [hx.out] at h5 h6
  by_cases hneg : y < 0
  · have e1 : n.tmod m = y := hy.out
    have e2 : IntKind.i64.wrap (y + m) = y + m := by rw [IntKind.wrap_i64]; omega
    have hr : Hid (x = y + m) := by show _ = _; omega
    clear hy hx hn hwf h5 h6 hcase h1 hm
    go_enter Tryz.func15, Tryz.ntmps15
    go_wp2
    go_ret
    exact ⟨by show Ending.returned (Value.int IntKind.i64 (y + m)) = _; rw [hr.out], rfl⟩
  · have e1 : n.tmod m = y := hy.out
    have hr : Hid (x = y) := by show _ = _; omega
    clear hy hx hn hwf h5 h6 hcase h1 hm
    go_enter Tryz.func15, Tryz.ntmps15
    go_wp2
    go_ret
    exact ⟨by show Ending.returned (Value.int IntKind.i64 y) = _; rw [hr.out], rfl⟩
theorem mod_nat (n m : Int) (h1 : 1 ≤ m) : ∃ v : Nat, Hid (n % m = (v : Int)) ∧ (v : Int) < m := by
  have h5 : 0 ≤ n % m := Int.emod_nonneg _ (by omega)
  have h6 : n % m < m := Int.emod_lt_of_pos _ (by omega)
  exact ⟨(n % m).toNat, by show _ = _; omega, by omega⟩
set_option maxHeartbeats 2000000 in
set_option maxRecDepth 8000 in
theorem next_is (b : Nat) (m : Int) (w : World) (hT : Tp w b) (h1 : 1 ≤ m) (hm : m ≤ 1048576) :
    Calls Tryz.prog 60 #[.pointer (some ⟨b, 0, none⟩), .int .i64 m] w fun e w' => (∃ v : Nat, (v : Int) < m ∧ e = .returned (.int .i64 v)) ∧ Tp w' b ∧ Frm b w w' := by
  obtain ⟨A, n, c, xs, i, hT⟩ := hT
  have H := Lib.hid hT
  have c0 := hT.c0
  have c1 := hT.c1
  have fz := hT.fz
  have hlt := hT.lt
  have hle := hT.le
  have hsm := hT.small
  have H1 := Lib.hid h1
  have HM := Lib.hid hm
  by_cases hi : (n : Int) ≤ (i : Int)
  · clear hT
    go_enter Tryz.func60, Tryz.ntmps60
    go_wp2
    go_quiet (fail)
    go_wp2
    go_ret
    exact ⟨⟨0, by have := H1.out; omega, rfl⟩, ⟨A, n, c, xs, i, H.out.of (fun _ _ => rfl) (Nat.le_refl _)⟩, (Frm.refl b w).drewN _⟩
  · obtain ⟨g, o, rfl, hg, hc⟩ := hT.rd (by omega)
    have x0 := hc i (by omega)
    have hwf := hT.wf (xs.getD i 0) (by
      rw [List.getD_eq_getElem?_getD, List.getElem?_eq_getElem (by rw [hT.len]; omega)]
      exact List.getElem_mem _)
    obtain ⟨x, hx⟩ : ∃ x, Hid (xs.getD i 0 = x) := ⟨_, rfl⟩
    rw [hx.out] at x0 hwf
    have HW := Lib.hid hwf
    obtain ⟨v, hv, hvm⟩ := mod_nat x m H1.out
    have HVM := Lib.hid hvm
    have e1 : IntKind.i64.wrap ((i : Int) + 1) = (i : Int) + 1 := by rw [IntKind.wrap_i64]; omega
    have e2 : IntKind.i64.wrap (i : Int) = (i : Int) := by rw [IntKind.wrap_i64]; omega
    have hgb : ¬ b = g := by omega
    have hgb2 : ¬ g = b := by omega
    have hi0 : Hid (i < n) := by show _ < _; omega
    clear hT hc hwf hvm h1 hm
    go_enter Tryz.func60, Tryz.ntmps60
    go_wp2
    go_quiet (fail)
    go_wp2
    go_quiet ((first
      | (go_at_call 15; exact Calls.quiet_of_same ((mod_is x m _ HW.out H1.out HM.out hv).mono fun _ _ ⟨p1, p2⟩ => ⟨p1, p2.symm⟩))))
    go_wp2
    go_ret
    exact ⟨⟨v, HVM.out, rfl⟩, ⟨_, n, c, xs, i + 1, ((((H.out.of (fun _ _ => rfl) (Nat.le_refl _) : Tq (w.drewN _) b _ n c xs i).step hi0.out rfl).of (fun _ _ => rfl) (Nat.le_refl _)))⟩, (((Frm.refl b w).drewN _).set 1 _).drewN _⟩
end Go.Proofs.YtohjllnfnkajjaaGreat

namespace Go.Proofs.YtohjllnfnkajjaaGreat
open Go.RowKit
set_option linter.unusedVariables false
set_option linter.unusedSimpArgs false

def md8 (i : Nat) : Int := if i = 0 then 5 else if i = 1 then 5 else if i = 2 then 3 else if i = 3 then 4 else if i = 4 then 2 else if i = 5 then 1 else if i = 6 then 3 else 5
theorem md8_is (i : Nat) : 1 ≤ md8 i ∧ md8 i ≤ 5 := by unfold md8; repeat (first | decide | split)
set_option maxHeartbeats 2000000 in
set_option maxRecDepth 8000 in
theorem mode_any (n : Int) (w : World) (hn : Hid ((Lit.int .i64 n).wf = true)) :
    Calls Tryz.prog 87 #[.int .i64 n] w fun e w' => (∃ x, 1 ≤ x ∧ x ≤ 5 ∧ e = .returned (.int .i64 x)) ∧ Below w.heap.size w w' := by
  obtain ⟨i, hi, hi8⟩ := mod_nat n 8 (by omega)
  have hcell : ∀ i, i < 8 → (w.alloc (.cells #[.int .i64 5, .int .i64 5, .int .i64 3, .int .i64 4, .int .i64 2, .int .i64 1, .int .i64 3, .int .i64 5] 3)).cell? ⟨w.heap.size, i, none⟩ = some (.int .i64 (md8 i)) := fun i h => by
    have hc : i = 0 ∨ i = 1 ∨ i = 2 ∨ i = 3 ∨ i = 4 ∨ i = 5 ∨ i = 6 ∨ i = 7 := by omega
    rcases hc with rfl | rfl | rfl | rfl | rfl | rfl | rfl | rfl <;> simp [md8]
  have ci := hcell i (by omega)
  have hb := md8_is i
  obtain ⟨x, hx⟩ : ∃ x, Hid (md8 i = x) := ⟨_, rfl⟩
  rw [hx.out] at ci hb
  have HB := Lib.hid hb
  clear hcell hb
  go_enter Tryz.func87, Tryz.ntmps87
  go_wp2_with (go_at_call 15; refine (mod_is n 8 _ hn.out (by omega) (by omega) hi).mono ?_; rintro e W1 ⟨rfl, rfl⟩)
  go_ret
  exact ⟨⟨x, HB.out.1, HB.out.2, rfl⟩, newB _ _⟩
set_option maxHeartbeats 2000000 in
set_option maxRecDepth 8000 in
theorem amount_any (s : ByteArray) (k u h n : Int) (w : World) (hn : Hid ((Lit.int .i64 n).wf = true)) (hsh : shp k u = true) :
    Calls Tryz.prog 61 #[.agg #[.string s, .int .i64 k, .int .i64 u, .int .i64 h], .int .i64 n] w fun e w' => (∃ m v, fit k u m v = true ∧ e = .returned (.agg #[.int .i64 m, .int .i64 v])) ∧ Below w.heap.size w w' := by
  have hb0 := nxA (newB w (.cells #[.string s, .int .i64 k, .int .i64 u, .int .i64 h] 82)) (.cells #[.int .i64 0, .int .i64 0] 23)
  have hk0 := Blk.new w [.string s, .int .i64 k, .int .i64 u, .int .i64 h] 82 rfl
  have HK := Lib.hid (hk0.grow (.cells #[.int .i64 0, .int .i64 0] 23))
  have hk1 := Blk.new (w.alloc (.cells #[.string s, .int .i64 k, .int .i64 u, .int .i64 h] 82)) [.int .i64 0, .int .i64 0] 23 rfl
  have hsz : (w.alloc (.cells #[.string s, .int .i64 k, .int .i64 u, .int .i64 h] 82)).heap.size = w.heap.size + 1 := by simp
  rw [hsz] at hk1
  have HB0 := Lib.hid hb0
  have HK1 := Lib.hid hk1
  clear hb0 hk0 hk1 hsz
  have hsh2 : (k = 1 ∧ u = 1) ∨ (k = 2 ∧ 1 ≤ u ∧ u ≤ 8) := of_decide_eq_true hsh
  clear hsh
  rcases hsh2 with ⟨rfl, rfl⟩ | ⟨rfl, hu, hu8⟩
  · go_enter Tryz.func61, Tryz.ntmps61
    go_wp2_with (go_at_call 87; refine (mode_any n _ hn).mono ?_; rintro e W1 ⟨⟨x, hx1, hx5, rfl⟩, hb1⟩; have HX := Lib.hid (And.intro hx1 hx5); have hk2 := HK1.out.up hb1 HK1.out.lt; have c0 := hk2.cell 0 rfl; have c1 := hk2.cell 1 rfl; have fz := hk2.fz; have lt := hk2.lt; have HB1 := Lib.hid (nx HB0.out hb1); clear hb1 hk2 hx1 hx5)
    refine bodyPost_ret (v := .agg #[.int .i64 x, .int .i64 0]) (by simp [results, Tryz.results61, go_sem, c0, c1, fz, lt]) rfl ⟨⟨x, 0, ?_, rfl⟩, ?_⟩
    · have h1 := HX.out
      unfold fit
      simp
      omega
    · exact (HB1.out.setCell (p := ⟨w.heap.size + 1, 0, none⟩) (by simp) _).setCell (p := ⟨w.heap.size + 1, 1, none⟩) (by simp) _
  · obtain ⟨i, hi, hi8⟩ := mod_nat n u hu
    have e1 : IntKind.i64.wrap (1 + (i : Int)) = 1 + (i : Int) := by rw [IntKind.wrap_i64]; omega
    have hus : Hid (fit 2 u 0 (1 + (i : Int)) = true) := by show _ = _; unfold fit; simp; omega
    clear hi8
    go_enter Tryz.func61, Tryz.ntmps61
    go_wp2_with (go_at_call 15; refine (mod_is n u _ hn.out (by omega) (by omega) hi).mono ?_; rintro e W1 ⟨rfl, rfl⟩)
    exact bodyPost_ret (v := .agg #[.int .i64 0, .int .i64 (1 + (i : Int))]) (by simp [results, Tryz.results61, go_sem]) rfl ⟨⟨0, _, hus.out, rfl⟩, nxA (newB w _) _⟩
end Go.Proofs.YtohjllnfnkajjaaGreat

namespace Go.Proofs.YtohjllnfnkajjaaGreat
open Go.RowKit
set_option linter.unusedVariables false

/-- The four cells at o of block b hold the resource r. -/
def Z4 (w : World) (b o : Nat) (r : P4) : Prop :=
  w.cell? ⟨b, o, none⟩ = some (.string r.1) ∧ w.cell? ⟨b, o + 1, none⟩ = some (.int .i64 r.2.1) ∧ w.cell? ⟨b, o + 2, none⟩ = some (.int .i64 r.2.2.1) ∧ w.cell? ⟨b, o + 3, none⟩ = some (.int .i64 r.2.2.2)
theorem Z4.lt {w : World} {b o : Nat} {r : P4} (h : Z4 w b o r) : b < w.heap.size := by have := World.block_lt_of_cell? w _ h.1; exact this
theorem Z4.of {w w' : World} {b o : Nat} {r : P4} (h : Z4 w b o r) {B : Nat} (hb : Below B w w') (hB : b < B) : Z4 w' b o r :=
  ⟨(hb.cell (p := ⟨b, o, none⟩) hB).trans h.1, (hb.cell (p := ⟨b, o + 1, none⟩) hB).trans h.2.1, (hb.cell (p := ⟨b, o + 2, none⟩) hB).trans h.2.2.1, (hb.cell (p := ⟨b, o + 3, none⟩) hB).trans h.2.2.2⟩
theorem Z4.below {w w' : World} {b o : Nat} {r : P4} (h : Z4 w b o r) (hb : Below w.heap.size w w') : Z4 w' b o r := h.of hb h.lt

/-- The slice at A reads as the resources l, four cells each. -/
def RRd (w : World) (A : Option Addr) (l : List P4) : Prop :=
  l ≠ [] → ∃ b o, A = some ⟨b, o, none⟩ ∧ b < w.heap.size ∧ ∀ i, i < l.length → Z4 w b (o + i * 4) (l.getD i default)
theorem RRd.nil (w : World) (A : Option Addr) : RRd w A [] := fun h => absurd rfl h
theorem RRd.below {w w' : World} {A : Option Addr} {l : List P4} (h : RRd w A l) (hb : Below w.heap.size w w') : RRd w' A l := fun hx => by
  obtain ⟨b, o, hA, hlt, hc⟩ := h hx
  exact ⟨b, o, hA, Nat.lt_of_lt_of_le hlt hb.size, fun i hi => (hc i hi).of hb hlt⟩
theorem RRd.at_ {w : World} {A : Option Addr} {l : List P4} (h : RRd w A l) {i : Nat} (hi : i < l.length) :
    ∃ b o s k u hm, A = some ⟨b, o, none⟩ ∧ b < w.heap.size ∧ Hid (l.getD i default = (s, k, u, hm)) ∧ w.cell? ⟨b, o + i * 4, none⟩ = some (.string s) ∧ w.cell? ⟨b, o + i * 4 + 1, none⟩ = some (.int .i64 k) ∧ w.cell? ⟨b, o + i * 4 + 2, none⟩ = some (.int .i64 u) ∧ w.cell? ⟨b, o + i * 4 + 3, none⟩ = some (.int .i64 hm) := by
  obtain ⟨b, o, hA, hb, hc⟩ := h (by rintro rfl; simp at hi)
  obtain ⟨h1, h2, h3, h4⟩ := hc i hi
  exact ⟨b, o, _, _, _, _, hA, hb, rfl, h1, h2, h3, h4⟩
theorem getD_take4 {l : List P4} {k i : Nat} (h : i < k) : (l.take k).getD i default = l.getD i default := by simp [List.getD_eq_getElem?_getD, h]
theorem getD_drop4 (l : List P4) (k i : Nat) : (l.drop k).getD i default = l.getD (k + i) default := by simp [List.getD_eq_getElem?_getD]
theorem RRd.take {w : World} {A : Option Addr} {l : List P4} (h : RRd w A l) (k : Nat) : RRd w A (l.take k) := fun hx => by
  obtain ⟨b, o, rfl, hlt, hc⟩ := h (by rintro rfl; simp at hx)
  refine ⟨b, o, rfl, hlt, fun i hi => ?_⟩
  rw [List.length_take] at hi
  rw [getD_take4 (by omega)]
  exact hc i (by omega)
theorem RRd.drop {w : World} {A : Option Addr} {l : List P4} (h : RRd w A l) (k : Nat) : RRd w (A.map fun a => a.add (k * 4)) (l.drop k) := fun hx => by
  have hk : k < l.length := by
    rcases Nat.lt_or_ge k l.length with hk | hk
    · exact hk
    · exact absurd (List.drop_eq_nil_of_le hk) hx
  obtain ⟨b, o, rfl, hlt, hc⟩ := h (by rintro rfl; simp at hk)
  refine ⟨b, o + k * 4, by simp [add_at], hlt, fun i hi => ?_⟩
  rw [List.length_drop] at hi
  have h1 := hc (k + i) (by omega)
  rw [getD_drop4, show o + k * 4 + i * 4 = o + (k + i) * 4 by omega]
  exact h1

/-! ### Cells -/
def rvs : List P4 → List Value
  | [] => []
  | p :: l => .string p.1 :: .int .i64 p.2.1 :: .int .i64 p.2.2.1 :: .int .i64 p.2.2.2 :: rvs l
theorem rvs_length : ∀ l : List P4, (rvs l).length = l.length * 4
  | [] => rfl
  | p :: l => by simp [rvs, rvs_length l]; omega
theorem rvs_append : ∀ l r : List P4, rvs (l ++ r) = rvs l ++ rvs r
  | [], r => rfl
  | p :: l, r => by simp [rvs, rvs_append l r]
theorem rvs_at : ∀ (l : List P4) (i : Nat), i < l.length → (rvs l)[i * 4]? = some (.string (l.getD i default).1) ∧ (rvs l)[i * 4 + 1]? = some (.int .i64 (l.getD i default).2.1) ∧ (rvs l)[i * 4 + 2]? = some (.int .i64 (l.getD i default).2.2.1) ∧ (rvs l)[i * 4 + 3]? = some (.int .i64 (l.getD i default).2.2.2)
  | [], i, h => by simp at h
  | p :: l, 0, _ => by simp [rvs]
  | p :: l, i + 1, h => by
    have := rvs_at l i (by simpa using h)
    rw [show (i + 1) * 4 = i * 4 + 1 + 1 + 1 + 1 by omega]
    simpa [rvs] using this
theorem rvs_one (l : List P4) : ∀ u ∈ rvs l, u.oneCell' = true := by
  induction l with
  | nil => intro u hu; cases hu
  | cons p l ih =>
    intro u hu
    simp only [rvs, List.mem_cons] at hu
    rcases hu with rfl | rfl | rfl | rfl | hu
    · rfl
    · rfl
    · rfl
    · rfl
    · exact ih u hu
/-- What lies at cell j of the row. -/
theorem RRd.cell {w : World} {b o : Nat} {l : List P4} (hc : ∀ i, i < l.length → Z4 w b (o + i * 4) (l.getD i default)) {j : Nat} {u : Value} (hu : (rvs l)[j]? = some u) : w.cell? ⟨b, o + j, none⟩ = some u := by
  have hj : j < l.length * 4 := by rw [← rvs_length]; exact (List.getElem?_eq_some_iff.1 hu).1
  obtain ⟨h1, h2, h3, h4⟩ := hc (j / 4) (by omega)
  obtain ⟨g1, g2, g3, g4⟩ := rvs_at l (j / 4) (by omega)
  have hd : j % 4 = 0 ∨ j % 4 = 1 ∨ j % 4 = 2 ∨ j % 4 = 3 := by omega
  rcases hd with e | e | e | e
  · rw [show o + j = o + j / 4 * 4 by omega, h1, ← g1, show j / 4 * 4 = j by omega, hu]
  · rw [show o + j = o + j / 4 * 4 + 1 by omega, h2, ← g2, show j / 4 * 4 + 1 = j by omega, hu]
  · rw [show o + j = o + j / 4 * 4 + 2 by omega, h3, ← g3, show j / 4 * 4 + 2 = j by omega, hu]
  · rw [show o + j = o + j / 4 * 4 + 3 by omega, h4, ← g4, show j / 4 * 4 + 3 = j by omega, hu]

abbrev OwnR (w : World) (base : Nat) (v : Value) (l : List P4) : Prop := w.ownsRow base 82 4 v l.length (rvs l)
theorem OwnR.form {w : World} {base : Nat} {v : Value} {l : List P4} (h : OwnR w base v l) :
    ∃ A c, v = .slice A l.length c ∧ l.length ≤ c ∧ RRd w A l ∧ (0 < l.length → ∃ g, A = some ⟨g, 0, none⟩ ∧ base ≤ g ∧ g < w.heap.size) := by
  rcases h.2 with ⟨rfl, hn⟩ | ⟨g, cap, cur, rfl, hb, hg, hnc, hcm, _, _⟩
  · exact ⟨none, 0, by rw [hn], by omega, fun hx => absurd (List.eq_nil_of_length_eq_zero hn) hx, fun h0 => by omega⟩
  · have hlt : g < w.heap.size := (Array.getElem?_eq_some_iff.1 hg).1
    refine ⟨_, cap, rfl, hnc, fun _ => ⟨g, 0, rfl, hlt, fun i hi => ?_⟩, fun _ => ⟨g, rfl, hb, hlt⟩⟩
    obtain ⟨g1, g2, g3, g4⟩ := rvs_at l i hi
    have h1 := h.cellAt (i * 4) (by omega)
    have h2 := h.cellAt (i * 4 + 1) (by omega)
    have h3 := h.cellAt (i * 4 + 2) (by omega)
    have h4 := h.cellAt (i * 4 + 3) (by omega)
    rw [g1] at h1
    rw [g2] at h2
    rw [g3] at h3
    rw [g4] at h4
    rw [Nat.zero_add]
    exact ⟨h1, h2, h3, h4⟩
theorem OwnR.below {w w' : World} {base : Nat} {v : Value} {l : List P4} (h : OwnR w base v l) (hb : Below w.heap.size w w') : OwnR w' base v l := by
  refine ⟨h.1, ?_⟩
  rcases h.2 with hn | ⟨g, cap, cur, rfl, hbg, hg, rest⟩
  · exact .inl hn
  · exact .inr ⟨g, cap, cur, rfl, hbg, by rw [hb.block g (Array.getElem?_eq_some_iff.1 hg).1]; exact hg, rest⟩
theorem OwnR.nil (w : World) (base : Nat) : OwnR w base (.slice none 0 0) [] := World.ownsRow_nil w base _ 4

theorem Src.ress {w : World} {tx e' : TypeId} (hk : Tryz.prog.underlying tx = some (.slice e')) {A : Option Addr} {ys : List P4} (c : Nat) (h : RRd w A ys) : Src Tryz.prog 4 tx (.slice A ys.length c) ys.length (rvs ys) w := by
  cases A with
  | none =>
    have hx : ys = [] := by
      rcases ys with _ | ⟨x, r⟩
      · rfl
      · obtain ⟨_, _, h, _⟩ := h (by simp)
        cases h
    subst hx
    exact Src.ofNil w hk c
  | some a =>
    rcases ys with _ | ⟨x, r⟩
    · exact Src.ofSlice w hk a 0 c [] rfl (fun j u h => by simp at h) (fun u h => by cases h)
    · obtain ⟨b, o, hA, _, hc⟩ := h (by simp)
      injection hA with hA
      subst hA
      refine Src.ofSlice w hk _ _ c _ (by rw [rvs_length]) (fun j u hu => ?_) (rvs_one _)
      rw [add_at]
      exact RRd.cell hc hu
theorem res_info : (Tryz.prog.info? 82).map (fun i => (i.zero, i.size, i.bytes)) = some (some (.agg #[.string ⟨#[]⟩, .int .i64 0, .int .i64 0, .int .i64 0]), 4, 40) := by kernel_rfl
theorem app_res {w : World} {ops : Array Oper} {rest : List Oper} {o : Oper} {a : Act} {Q : Exit → Act → World → Prop} (hgd : Region.wanted o (yielded ops a.tmps) = true) (s y : Operand)
    (ho : o.op = .call { callee := .builtin .append, args := #[s, y], argTypes := #[57, 57] })
    (base : Nat) (V : Value) (xs : List P4) (A : Option Addr) (ys : List P4) (n c : Nat) (hn : Hid (ys.length = n)) (hv : a.eval s = V) (hx : a.eval y = .slice A n c)
    (hd : OwnR w base V xs) (hs : RRd w A ys) (hlen : Hid (xs.length + n ≤ 3518437208880)) (hbase : base ≤ w.heap.size)
    (h : ∀ V' w', OwnR w' base V' (xs ++ ys) → Below base w w' → wpList Tryz.prog ops Q rest (a.put o.dst V') w') :
    wpList Tryz.prog ops Q (o :: rest) a w := by
  have hn' := hn.out
  subst hn'
  obtain ⟨i0, hi, hz0, hz1, hz2⟩ := info_parts res_info
  have hl := hlen.out
  refine wpList_app w hgd s y 57 57 ho base 82 i0 _ 4 40 Tryz.underlying57 hi hz0 hz1 hz2 rfl V xs.length (rvs xs) _ ys.length (rvs ys) hv hx (.inl hd)
    (Src.ress Tryz.underlying57 c hs) (by simp only [maxLen]; omega) (fits_half (by omega)) hbase (fun V' w' h1 h2 h3 h4 => h V' w' ?_ h2)
  unfold OwnR
  rw [List.length_append, rvs_append]
  exact h1
/-- A slice of resources that lies in the world. -/
structure InR (w : World) (A : Option Addr) (n c : Nat) (l : List P4) : Prop where
  len : l.length = n
  rd : RRd w A l
  fit : n ≤ c
  big : n ≤ 3518437208880
theorem InR.below {w w' : World} {A : Option Addr} {n c : Nat} {l : List P4} (h : InR w A n c l) (hb : Below w.heap.size w w') : InR w' A n c l := ⟨h.len, h.rd.below hb, h.fit, h.big⟩
end Go.Proofs.YtohjllnfnkajjaaGreat

namespace Go.Proofs.YtohjllnfnkajjaaGreat
open Go.RowKit
set_option linter.unusedVariables false
set_option linter.unusedSimpArgs false

/-- append of resources at a step of a region that draws. -/
theorem step_app_res {w : World} {ops : Array Oper} {o : Oper} {a : Act} {K : Act → World → Prop} {Q : Exit → Act → World → Prop} {E : Prop} (hgd : o.guard = none) (s y : Operand)
    (ho : o.op = .call { callee := .builtin .append, args := #[s, y], argTypes := #[57, 57] })
    (base : Nat) (V : Value) (xs : List P4) (A : Option Addr) (ys : List P4) (n c : Nat) (hn : Hid (ys.length = n)) (hv : a.eval s = V) (hx : a.eval y = .slice A n c)
    (hd : OwnR w base V xs) (hs : RRd w A ys) (hlen : Hid (xs.length + n ≤ 1000000)) (hbase : base ≤ w.heap.size)
    (h : ∀ V' w', OwnR w' base V' (xs ++ ys) → w.grownBy w' V.ownBlock → K (a.put o.dst V') w') :
    if Region.wanted o (yielded ops a.tmps) = true then Oper.wp Tryz.prog o a w K Q else E := by
  have hw : Region.wanted o (yielded ops a.tmps) = true := by simp [Region.wanted, hgd]
  rw [if_pos hw]
  have hn' := hn.out
  subst hn'
  obtain ⟨i0, hi, hz0, hz1, hz2⟩ := info_parts res_info
  have hl := hlen.out
  obtain ⟨v', w', hr, h2, h3, h4, h5⟩ := run_app (P := Tryz.prog) w base 57 57 o.type 82 i0 _ 4 40 Tryz.underlying57 hi hz0 hz1 hz2 rfl V xs.length (rvs xs) _ ys.length (rvs ys) (.inl hd)
    (Src.ress Tryz.underlying57 c hs) (by simp only [maxLen]; omega) (fits_half (by omega)) hbase
  unfold Oper.wp execOp
  simp only [ho, resolve, invoke, builtin, Sem.run_bind, Sem.run_pure, Result.andThen_ok, List.map_toArray, List.map_cons, List.map_nil, hv, hx, hr]
  refine h v' w' ?_ (h4 hd)
  unfold OwnR
  rw [List.length_append, rvs_append]
  exact h2
theorem rrd_at (w : World) (T : TypeId) (s : ByteArray) (k u h : Int) {g : Nat} (hg : w.heap.size = g) : RRd (w.alloc (.cells #[.string s, .int .i64 k, .int .i64 u, .int .i64 h] T)) (some ⟨g, 0, none⟩) [(s, k, u, h)] := by
  subst hg
  exact fun _ => ⟨_, 0, rfl, by simp, fun i hi => by
    obtain rfl : i = 0 := by simpa using hi
    exact ⟨by simp, by simp, by simp, by simp⟩⟩
theorem Tp.grown {w w' : World} {b : Nat} {r : Option Nat} (h : Tp w b) (hg : w.grownBy w' r) (hr : ∀ g, r = some g → b < g) : Tp w' b :=
  h.of (fun k hk => hg.block k (Nat.lt_of_le_of_lt hk h.lt) (fun e => by have := hr k e.symm; omega)) hg.size
theorem Frm.grown {b : Nat} {a w w' : World} {r : Option Nat} (h : Frm b a w) (hg : w.grownBy w' r) (hr : ∀ g, r = some g → a.heap.size ≤ g) : Frm b a w' :=
  ⟨hg.os.trans h.os, hg.tape.trans h.tape, hg.output.trans h.output, Nat.le_trans h.size hg.size, fun k hk hn => (hg.block k (Nat.lt_of_lt_of_le hk h.size) (fun e => by have := hr k e.symm; omega)).trans (h.block k hk hn)⟩
theorem own_frm {w w' : World} {base b : Nat} {T : TypeId} {sz : Nat} {v : Value} {n : Nat} {xs : List Value} (h : w.ownsRow base T sz v n xs) (hf : Frm b w w') (hb : b < base) : w'.ownsRow base T sz v n xs :=
  own_kept h (fun g hg => hf.block g (own_lt h hg).2 (fun e => by injection e with e; have := (own_lt h hg).1; omega))
theorem own_low {w : World} {base base' : Nat} {T : TypeId} {sz : Nat} {v : Value} {n n' : Nat} {xs : List Value} (h : w.ownsRow base T sz v n xs) (hb : base' ≤ base) (hn : n = n') : w.ownsRow base' T sz v n' xs := by
  subst hn
  obtain ⟨h1, h2⟩ := h
  refine ⟨by omega, ?_⟩
  rcases h2 with h2 | ⟨g, cap, cur, h3, h4, h5⟩
  · exact .inl h2
  · exact .inr ⟨g, cap, cur, h3, Nat.le_trans hb h4, h5⟩
theorem Blk.frm {w w' : World} {b g : Nat} {cs : List Value} (h : Blk w g cs) (hf : Frm b w w') (hg : g ≠ b) : Blk w' g cs := h.of (hf.block g h.lt (fun e => hg (by injection e)))
/-- The catalog's names. -/
def nm6 (i : Nat) : ByteArray := if i = 0 then ⟨#[97]⟩ else if i = 1 then ⟨#[98]⟩ else if i = 2 then ⟨#[99]⟩ else if i = 3 then ⟨#[100]⟩ else if i = 4 then ⟨#[112]⟩ else ⟨#[113]⟩
def CtR (i : Nat) (r : P4) : Prop := r.1 = nm6 i ∧ shp r.2.1 r.2.2.1 = true ∧ 0 ≤ r.2.2.2 ∧ r.2.2.2 < 4
def CtP (l : List P4) : Prop := ∀ i, i < l.length → CtR i (l.getD i default)
theorem CtP.nil : CtP [] := fun i h => by simp at h
theorem CtP.snoc {l : List P4} (h : CtP l) {r : P4} (hr : CtR l.length r) : CtP (l ++ [r]) := fun i hi => by
  rw [List.length_append, List.length_singleton] at hi
  rcases Nat.lt_or_ge i l.length with h1 | h1
  · rw [show (l ++ [r]).getD i default = l.getD i default by simp [List.getD_eq_getElem?_getD, List.getElem?_append_left h1]]
    exact h i h1
  · obtain rfl : i = l.length := by omega
    rw [show (l ++ [r]).getD l.length default = r by simp [List.getD_eq_getElem?_getD]]
    exact hr
theorem Frm.behind {b : Nat} {a w w' : World} (h : Frm b a w) {B : Nat} (hb : Below B w w') (hB : a.heap.size ≤ B) : Frm b a w' :=
  ⟨hb.os.trans h.os, hb.tape.trans h.tape, hb.output.trans h.output, Nat.le_trans h.size hb.size, fun k hk hn => (hb.block k (Nat.lt_of_lt_of_le hk hB)).trans (h.block k hk hn)⟩
set_option maxHeartbeats 8000000 in
set_option maxRecDepth 100000 in
theorem catalog_any (b : Nat) (w : World) (hT : Tp w b) :
    Calls Tryz.prog 36 #[.pointer (some ⟨b, 0, none⟩)] w fun e w' => (∃ A c l, e = .returned (.slice A 6 c) ∧ l.length = 6 ∧ CtP l ∧ OwnR w' w.heap.size (.slice A 6 c) l) ∧ Tp w' b ∧ Frm b w w' := by
  have hlt := hT.lt
  have HW0 : Hid (Blk (w.alloc (.cells #[.string ⟨#[97]⟩, .string ⟨#[98]⟩, .string ⟨#[99]⟩, .string ⟨#[100]⟩] 9)) w.heap.size [.string ⟨#[97]⟩, .string ⟨#[98]⟩, .string ⟨#[99]⟩, .string ⟨#[100]⟩] ∧ Tp (w.alloc (.cells #[.string ⟨#[97]⟩, .string ⟨#[98]⟩, .string ⟨#[99]⟩, .string ⟨#[100]⟩] 9)) b ∧ Frm b w (w.alloc (.cells #[.string ⟨#[97]⟩, .string ⟨#[98]⟩, .string ⟨#[99]⟩, .string ⟨#[100]⟩] 9))) := ⟨Blk.new w _ _ rfl, hT.up (newB _ _), Frm.up (newB _ _)⟩
  clear hT
  go_enter Tryz.func36, Tryz.ntmps36
  go_wp2
  go_loopw [3, 5] (fun a k wr => ∃ (j : Nat) (l : List P4) (A : Option Addr) (c : Nat), j ≤ 4 ∧ k = .int .i64 j ∧ a = .slice A j c ∧ Hid (l.length = j) ∧ Hid (CtP l) ∧ Hid (OwnR wr (w.heap.size + 1) (.slice A j c) l) ∧ Hid (Tp wr b) ∧ Hid (Frm b w wr) ∧ Hid (Blk wr w.heap.size [.string ⟨#[97]⟩, .string ⟨#[98]⟩, .string ⟨#[99]⟩, .string ⟨#[100]⟩])) (fun _ k _ => 4 - (intOf k).toNat)
  case atStart => exact ⟨0, [], none, 0, by omega, rfl, rfl, rfl, CtP.nil, OwnR.nil _ _, HW0.out.2.1, HW0.out.2.2, HW0.out.1⟩
  case round =>
    obtain ⟨j, l, A, c, hj, rfl, rfl, hl, hC, hO, hT, hF, hB⟩ := hrel
    by_cases hj4 : (j : Int) < 4
    · have e5 : IntKind.i64.wrap ((j : Int) + 1) = (j : Int) + 1 := by rw [IntKind.wrap_i64]; omega
      obtain ⟨nm, hnm⟩ : ∃ nm, Hid (nm6 j = nm) := ⟨_, rfl⟩
      have hcn : Hid (([.string ⟨#[97]⟩, .string ⟨#[98]⟩, .string ⟨#[99]⟩, .string ⟨#[100]⟩] : List Value)[j]? = some (.string nm)) := by
        show _ = _
        rw [← hnm.out]
        have hc : j = 0 ∨ j = 1 ∨ j = 2 ∨ j = 3 := by omega
        rcases hc with rfl | rfl | rfl | rfl <;> rfl
      have cn := hB.out.cell j hcn.out
      have hvs : Hid (l.length + 1 ≤ 1000000) := by have := hl.out; show _ ≤ _; omega
      go_upto_region 6 with fail
      go_region_law (first
        | (refine step_app_res rfl (.tmp 13) (.tmp 21) rfl (w.heap.size + 1) (.slice A j c) l _ [(nm, 1, 1, (v : Int))] 1 1 rfl (by simp [Act.eval, Act.put]) (by simp [Act.eval, Act.put]) (own_kept HO8.out (fun g hg => (newB W8 _).block g (own_lt HO8.out hg).2)) (rrd_at _ _ nm 1 1 (v : Int) rfl) hvs (by have := HF8.out.size; simp; omega) ?_; intro V5 w5 ho5 hg5; obtain ⟨A5, c5, hV5, -, -, -⟩ := ho5.form; obtain ⟨k5, hk5⟩ : ∃ k5, Hid ((l ++ [((nm, 1, 1, (v : Int)) : P4)]).length = k5) := ⟨_, rfl⟩; rw [hk5.out] at hV5; subst hV5; have HO5 := Lib.hid ho5; have HG5 := Lib.hid hg5; clear ho5 hg5)
        | (go_simp; go_at_call 60; refine (next_is b 4 _ (hT.out.up (bdD (Below.refl _ _))) (by omega) (by omega)).mono ?_; rintro e W8 ⟨⟨v, hv4, rfl⟩, ht8, hf8⟩; have hf9 : Frm b wr W8 := (Frm.up (bdD (Below.refl _ _))).trans hf8; have HT8 := Lib.hid ht8; have HB8 := Lib.hid (hB.out.frm hf9 (by omega)); have HO8 := Lib.hid (own_frm hO.out hf9 (by omega)); have HF8 := Lib.hid (hF.out.trans hf9); clear cn; have cn := HB8.out.cell j hcn.out; clear ht8 hf8 hf9))
      all_goals (
        go_wp2
        have hj5 : l.length = j := hl.out
        have hk : k5 = j + 1 := by have h := hk5.out; rw [List.length_append, List.length_singleton] at h; omega
        subst hk
        have hsz := HF8.out.size
        have hrow : ∀ g, (Value.slice A j c).ownBlock = some g → w.heap.size + 1 ≤ g := fun g hg => (own_lt HO8.out hg).1
        have hnew := newB W8 (.cells #[.string nm, .int .i64 1, .int .i64 1, .int .i64 (v : Int)] 82)
        refine ⟨⟨j + 1, _, A5, c5, by omega, by go_num, rfl, ?_, ?_, HO5, ?_, ?_, ?_⟩, by simp [intOf]; omega⟩
        · show _ = _; rw [List.length_append, List.length_singleton]; omega
        · refine hC.out.snoc ?_
          refine ⟨?_, by show shp 1 1 = true; rfl, by show (0 : Int) ≤ v; omega, hv4⟩
          show nm = nm6 l.length
          rw [hj5, hnm.out]
        · exact (HT8.out.up hnew).grown HG5.out (fun g hg => by have := hrow g hg; omega)
        · exact (HF8.out.trans (Frm.up hnew)).grown HG5.out (fun g hg => by have := hrow g hg; omega)
        · exact (HB8.out.up hnew HB8.out.lt).of (HG5.out.block _ (by simp; omega) (fun e => by have := hrow _ e.symm; omega)))
    · obtain rfl : j = 4 := by omega
      have HL1 : Hid (l.length + 1 ≤ 3518437208880) := by have := hl.out; show _ ≤ _; omega
      have HL2 : Hid (∀ r : P4, (l ++ [r]).length + 1 ≤ 3518437208880) := Lib.hid (fun r => by have := hl.out; simp; omega)
      have M1 := Lib.hid trivial
      have M2 := Lib.hid trivial
      have M3 := Lib.hid trivial
      have M4 := Lib.hid trivial
      have N1 := Lib.hid trivial
      have N2 := Lib.hid trivial
      go_wp2_with (first
        | (go_at_call 60; clear M1; refine (next_is b 8 _ hT.out (by omega) (by omega)).mono ?_; rintro e W1 ⟨⟨v1, hv1, rfl⟩, ht, hf⟩; have HT1 := Lib.hid ht; have HO1 := Lib.hid (own_frm hO.out hf (by omega)); have HF1 := Lib.hid (hF.out.trans hf); have e1 : IntKind.i64.wrap (1 + (v1 : Int)) = 1 + (v1 : Int) := (by rw [IntKind.wrap_i64]; omega); have HV1 := Lib.hid hv1; clear ht hf hv1)
        | (go_at_call 60; clear M2; refine (next_is b 4 _ HT1.out (by omega) (by omega)).mono ?_; rintro e W2 ⟨⟨v2, hv2, rfl⟩, ht, hf⟩; have HT2 := Lib.hid ht; have HO2 := Lib.hid (own_frm HO1.out hf (by omega)); have HF2 := Lib.hid (HF1.out.trans hf); have e2 : IntKind.i64.wrap (1 + (v2 : Int)) = 1 + (v2 : Int) := (by rw [IntKind.wrap_i64]; omega); have HV2 := Lib.hid hv2; clear ht hf hv2)
        | (at_builtin; clear N1; refine app_res rfl (.tmp 23) (.tmp 30) rfl (w.heap.size + 1) (.slice _ _ _) (l) _ [((⟨#[112]⟩ : ByteArray), 2, 1 + (v1 : Int), (v2 : Int))] 1 1 rfl rfl rfl (own_kept HO2.out (fun g hg => (newB W2 _).block g (own_lt HO2.out hg).2)) (rrd_at _ _ (⟨#[112]⟩ : ByteArray) 2 (1 + (v1 : Int)) (v2 : Int) rfl) HL1 (by have := HF2.out.size; simp; omega) ?_; intro V5 W5 ho hb; obtain ⟨A5, c5, hV, -, -, -⟩ := ho.form; have hl5 : (l ++ [(((⟨#[112]⟩ : ByteArray), 2, 1 + (v1 : Int), (v2 : Int)) : P4)]).length = 5 := (by have := hl.out; simp; omega); rw [hl5] at hV; subst hV; have HO5 := Lib.hid ho; have HT5 := Lib.hid ((HT2.out.up (newB W2 _)).behind hb (by omega)); have HF5 := Lib.hid ((HF2.out.trans (Frm.up (newB W2 _))).behind hb (by omega)); clear ho hb hl5)
        | (go_at_call 60; clear M3; refine (next_is b 3 _ HT5.out (by omega) (by omega)).mono ?_; rintro e W3 ⟨⟨v3, hv3, rfl⟩, ht, hf⟩; have HT3 := Lib.hid ht; have HO3 := Lib.hid (own_frm HO5.out hf (by omega)); have HF3 := Lib.hid (HF5.out.trans hf); have e3 : IntKind.i64.wrap (1 + (v3 : Int)) = 1 + (v3 : Int) := (by rw [IntKind.wrap_i64]; omega); have HV3 := Lib.hid hv3; clear ht hf hv3)
        | (go_at_call 60; clear M4; refine (next_is b 4 _ HT3.out (by omega) (by omega)).mono ?_; rintro e W4 ⟨⟨v4, hv4, rfl⟩, ht, hf⟩; have HT4 := Lib.hid ht; have HO4 := Lib.hid (own_frm HO3.out hf (by omega)); have HF4 := Lib.hid (HF3.out.trans hf); have e4 : IntKind.i64.wrap (1 + (v4 : Int)) = 1 + (v4 : Int) := (by rw [IntKind.wrap_i64]; omega); have HV4 := Lib.hid hv4; clear ht hf hv4)
        | (at_builtin; clear N2; refine app_res rfl (.tmp 32) (.tmp 39) rfl (w.heap.size + 1) (.slice _ _ _) (l ++ [(((⟨#[112]⟩ : ByteArray), 2, 1 + (v1 : Int), (v2 : Int)) : P4)]) _ [((⟨#[113]⟩ : ByteArray), 2, 1 + (v3 : Int), (v4 : Int))] 1 1 rfl rfl rfl (own_kept HO4.out (fun g hg => (newB W4 _).block g (own_lt HO4.out hg).2)) (rrd_at _ _ (⟨#[113]⟩ : ByteArray) 2 (1 + (v3 : Int)) (v4 : Int) rfl) (HL2.out _) (by have := HF4.out.size; simp; omega) ?_; intro V6 W6 ho hb; obtain ⟨A6, c6, hV, -, -, -⟩ := ho.form; have hl6 : (l ++ [(((⟨#[112]⟩ : ByteArray), 2, 1 + (v1 : Int), (v2 : Int)) : P4)] ++ [(((⟨#[113]⟩ : ByteArray), 2, 1 + (v3 : Int), (v4 : Int)) : P4)]).length = 6 := (by have := hl.out; simp; omega); rw [hl6] at hV; subst hV; have HO6 := Lib.hid ho; have HT6 := Lib.hid ((HT4.out.up (newB W4 _)).behind hb (by omega)); have HF6 := Lib.hid ((HF4.out.trans (Frm.up (newB W4 _))).behind hb (by omega)); clear ho hb hl6))
      go_ret
      have e4 : l.length = 4 := hl.out
      refine ⟨⟨A6, c6, _, rfl, ?_, ?_, own_low HO6.out (Nat.le_succ _) ?_⟩, HT6.out, HF6.out⟩
      · simp; omega
      · have h1 := HV1.out
        have h3 := HV3.out
        refine (hC.out.snoc ?_).snoc ?_
        · exact ⟨by rw [e4]; rfl, by show shp 2 (1 + (v1 : Int)) = true; unfold shp; simp; omega, by show (0 : Int) ≤ v2; omega, HV2.out⟩
        · exact ⟨by rw [List.length_append, e4]; rfl, by show shp 2 (1 + (v3 : Int)) = true; unfold shp; simp; omega, by show (0 : Int) ≤ v4; omega, HV4.out⟩
      · simp [e4]
end Go.Proofs.YtohjllnfnkajjaaGreat

namespace Go.Proofs.YtohjllnfnkajjaaGreat
open Go.RowKit
open Go.Sort (grow)
set_option linter.unusedVariables false
set_option linter.unusedSimpArgs false

theorem Gro.new (a : World) (o : Obj) : Gro a (a.alloc o) := (Gro.refl a).alloc o
theorem shaped_gro (s : ByteArray) (k u h : Int) (w : World) {r : Bool} (hr : Hid (shp k u = r)) : Calls Tryz.prog 127 #[ra s k u h] w fun e w' => e = .returned (.bool r) ∧ Gro w w' := by
  go_enter Tryz.func127, Tryz.ntmps127
  go_wp2_with (first
    | (go_at_call 130; refine (pu_any _ _).mono ?_; rintro e W1 ⟨rfl, rfl⟩))
  all_goals (go_ret; have h := hr.out; unfold shp at h; clear hr; refine ⟨ret_bool ?_, Gro.new _ _⟩; subst h; (try simp only [beq_iff_eq, beq_eq_false_iff_ne, ne_eq, pu] at *); rw [Bool.eq_iff_iff]; simp; omega)
theorem nam_ex (s : ByteArray) : ∃ r, Hid (Nam s ↔ r = true) := by
  by_cases h : Nam s
  · exact ⟨true, fun _ => rfl, fun _ => h⟩
  · exact ⟨false, fun k => absurd k h, fun k => by cases k⟩
theorem rsr_ex (s : ByteArray) (k u h : Int) : ∃ r, Hid (Rsr s k u h ↔ r = true) := by
  by_cases h : Rsr s k u h
  · exact ⟨true, fun _ => rfl, fun _ => h⟩
  · exact ⟨false, fun k => absurd k h, fun k => by cases k⟩
theorem vcat_ex (l : List P4) : ∃ r, Hid (Vcat l ↔ r = true) := by
  by_cases h : Vcat l
  · exact ⟨true, fun _ => rfl, fun _ => h⟩
  · exact ⟨false, fun k => absurd k h, fun k => by cases k⟩
/-- What Find answers. -/
def Fnd (l : List P4) (s : ByteArray) (r : P4) (b : Bool) : Prop := (∃ p, At4 l s p ∧ r = l.getD p default ∧ b = true) ∨ (No4 l s ∧ r = (⟨#[]⟩, 0, 0, 0) ∧ b = false)
theorem At4.uniq {l : List P4} {s : ByteArray} {i j : Nat} (h : At4 l s i) (k : At4 l s j) : i = j := by
  rcases Nat.lt_trichotomy i j with h1 | h1 | h1
  · exact absurd h.2.1 (k.2.2 i h1)
  · exact h1
  · exact absurd k.2.1 (h.2.2 j h1)
theorem Fnd.hit {l : List P4} {s : ByteArray} {r : P4} {b : Bool} (h : Fnd l s r b) {p : Nat} (hp : At4 l s p) : r = l.getD p default ∧ b = true := by
  rcases h with ⟨q, hq, h1, h2⟩ | ⟨hno, _, _⟩
  · obtain rfl := hp.uniq hq
    exact ⟨h1, h2⟩
  · exact absurd hno hp.not
theorem Fnd.miss {l : List P4} {s : ByteArray} {r : P4} {b : Bool} (h : Fnd l s r b) (hp : No4 l s) : r = (⟨#[]⟩, 0, 0, 0) ∧ b = false := by
  rcases h with ⟨q, hq, h1, h2⟩ | ⟨_, h1, h2⟩
  · exact absurd hp hq.not
  · exact ⟨h1, h2⟩
theorem fnd_ex (l : List P4) (s : ByteArray) : ∃ t k u h b, Hid (Fnd l s (t, k, u, h) b) := by
  rcases at_or l s with ⟨p, hp⟩ | h
  · exact ⟨_, _, _, _, true, .inl ⟨p, hp, rfl, rfl⟩⟩
  · exact ⟨_, _, _, _, false, .inr ⟨h, rfl, rfl⟩⟩
/-- A box of four cells that a call has made for a result, as yet zero. -/
def R0 (W : World) (k : Nat) : Prop := (k < W.heap.size ∧ W.cell? ⟨k, 0, none⟩ = some (.string ⟨#[]⟩) ∧ W.cell? ⟨k, 1, none⟩ = some (.int .i64 0) ∧ W.cell? ⟨k, 2, none⟩ = some (.int .i64 0) ∧ W.cell? ⟨k, 3, none⟩ = some (.int .i64 0)) ∧ ∀ o, W.frozen? ⟨k, o, none⟩ = false
theorem R0.new (W : World) (T : TypeId) : R0 (W.alloc (.cells #[.string ⟨#[]⟩, .int .i64 0, .int .i64 0, .int .i64 0] T)) W.heap.size := ⟨⟨by simp, by simp, by simp, by simp, by simp⟩, fun o => by simp⟩
theorem R0.below {W W' : World} {k : Nat} (h : R0 W k) (hb : Below W.heap.size W W') : R0 W' k := by
  obtain ⟨⟨h0, h1, h2, h3, h4⟩, hf⟩ := h
  have := hb.size
  exact ⟨⟨by omega, (hb.cell (p := ⟨k, 0, none⟩) h0).trans h1, (hb.cell (p := ⟨k, 1, none⟩) h0).trans h2, (hb.cell (p := ⟨k, 2, none⟩) h0).trans h3, (hb.cell (p := ⟨k, 3, none⟩) h0).trans h4⟩, fun o => (hb.frozen (p := ⟨k, o, none⟩) h0).trans (hf o)⟩
theorem set4 {W : World} {k : Nat} (h : R0 W k) (a b c d : Value) (o : Obj) :
    (((((W.setCell ⟨k, 0, none⟩ a).setCell ⟨k, 1, none⟩ b).setCell ⟨k, 2, none⟩ c).setCell ⟨k, 3, none⟩ d).alloc o).cell? ⟨k, 0, none⟩ = some a ∧
    (((((W.setCell ⟨k, 0, none⟩ a).setCell ⟨k, 1, none⟩ b).setCell ⟨k, 2, none⟩ c).setCell ⟨k, 3, none⟩ d).alloc o).cell? ⟨k, 1, none⟩ = some b ∧
    (((((W.setCell ⟨k, 0, none⟩ a).setCell ⟨k, 1, none⟩ b).setCell ⟨k, 2, none⟩ c).setCell ⟨k, 3, none⟩ d).alloc o).cell? ⟨k, 2, none⟩ = some c ∧
    (((((W.setCell ⟨k, 0, none⟩ a).setCell ⟨k, 1, none⟩ b).setCell ⟨k, 2, none⟩ c).setCell ⟨k, 3, none⟩ d).alloc o).cell? ⟨k, 3, none⟩ = some d := by
  obtain ⟨⟨h0, h1, h2, h3, h4⟩, hf⟩ := h
  have hb := newB ((((W.setCell ⟨k, 0, none⟩ a).setCell ⟨k, 1, none⟩ b).setCell ⟨k, 2, none⟩ c).setCell ⟨k, 3, none⟩ d) o
  have hs : k < ((((W.setCell ⟨k, 0, none⟩ a).setCell ⟨k, 1, none⟩ b).setCell ⟨k, 2, none⟩ c).setCell ⟨k, 3, none⟩ d).heap.size := by simpa using h0
  refine ⟨(hb.cell (p := ⟨k, 0, none⟩) hs).trans ?_, (hb.cell (p := ⟨k, 1, none⟩) hs).trans ?_, (hb.cell (p := ⟨k, 2, none⟩) hs).trans ?_, (hb.cell (p := ⟨k, 3, none⟩) hs).trans ?_⟩ <;> simp [go_sem, h1, h2, h3, h4]
/-- The boxes that place makes. -/
abbrev TP (w : World) (V : Value) (nm : ByteArray) : World := (w.alloc (.cells #[V] 57)).alloc (.cells #[.string nm] 9)
theorem at4_iff {l : List P4} {nm : ByteArray} {p : Nat} (hp : Plc l nm p) (ha : Asc l) (hlt : p < l.length) : (∃ i, At4 l nm i) ↔ (l.getD p default).1 = nm := by
  constructor
  · rintro ⟨i, hi⟩
    obtain rfl := hp.at_ ha hi
    exact hi.2.1
  · exact fun h => ⟨p, hlt, h, fun k hk => ltS_ne (hp.2.1 k hk)⟩
theorem rrd_one {W : World} {g : Nat} {s : ByteArray} {k u h : Int} (h0 : W.cell? ⟨g, 0, none⟩ = some (.string s)) (h1 : W.cell? ⟨g, 1, none⟩ = some (.int .i64 k)) (h2 : W.cell? ⟨g, 2, none⟩ = some (.int .i64 u)) (h3 : W.cell? ⟨g, 3, none⟩ = some (.int .i64 h)) : RRd W (some ⟨g, 0, none⟩) [(s, k, u, h)] := fun _ =>
  ⟨g, 0, rfl, World.block_lt_of_cell? W _ h0, fun i hi => by
    obtain rfl : i = 0 := by simpa using hi
    exact ⟨h0, h1, h2, h3⟩⟩
theorem rrd_new (w : World) (T : TypeId) (s : ByteArray) (k u h : Int) : RRd (w.alloc (.cells #[.string s, .int .i64 k, .int .i64 u, .int .i64 h] T)) (some ⟨w.heap.size, 0, none⟩) [(s, k, u, h)] := rrd_one (by simp) (by simp) (by simp) (by simp)
theorem OwnR.inR {w : World} {base : Nat} {V : Value} {l : List P4} (h : OwnR w base V l) (hb : l.length ≤ 3518437208880) : ∃ A c, V = .slice A l.length c ∧ InR w A l.length c l := by
  obtain ⟨A, c, rfl, hc, hr, _⟩ := h.form
  exact ⟨A, c, rfl, rfl, hr, hc, hb⟩
end Go.Proofs.YtohjllnfnkajjaaGreat

namespace Go.Proofs.YtohjllnfnkajjaaGreat
open Go.RowKit
open Go.Sort (grow)
set_option linter.unusedVariables false
set_option linter.unusedSimpArgs false

theorem yes_of {p : Prop} (h : p) : p ↔ true = true := ⟨fun _ => rfl, fun _ => h⟩
theorem no_of {p : Prop} (h : ¬ p) : p ↔ false = true := ⟨fun k => absurd k h, fun k => by cases k⟩
theorem InR.none (w : World) : InR w none 0 0 [] := ⟨rfl, RRd.nil _ _, Nat.le_refl _, by omega⟩
/-- The box of a resource. -/
abbrev BX (w : World) (s : ByteArray) (k u h : Int) : World := w.alloc (.cells #[.string s, .int .i64 k, .int .i64 u, .int .i64 h] 82)
abbrev S4 (W : World) (g : Nat) (s : ByteArray) (k u h : Int) : Prop := W.cell? ⟨g, 0, none⟩ = some (.string s) ∧ W.cell? ⟨g, 1, none⟩ = some (.int .i64 k) ∧ W.cell? ⟨g, 2, none⟩ = some (.int .i64 u) ∧ W.cell? ⟨g, 3, none⟩ = some (.int .i64 h)
theorem S4.of {w W : World} {g : Nat} {s : ByteArray} {k u h : Int} (hb : Below w.heap.size w W) (hg : g < w.heap.size) (hc : S4 w g s k u h) : S4 W g s k u h :=
  ⟨(hb.cell (p := ⟨g, 0, none⟩) hg).trans hc.1, (hb.cell (p := ⟨g, 1, none⟩) hg).trans hc.2.1, (hb.cell (p := ⟨g, 2, none⟩) hg).trans hc.2.2.1, (hb.cell (p := ⟨g, 3, none⟩) hg).trans hc.2.2.2⟩
theorem S4.new (w : World) (s : ByteArray) (k u h : Int) : S4 (BX w s k u h) w.heap.size s k u h := ⟨by simp [BX], by simp [BX], by simp [BX], by simp [BX]⟩

theorem plc_of {l : List P4} (h : Vcat l) (s : ByteArray) : ∃ p, Hid (Plc l s p) := plc_ex h.asc s
theorem fnd_b (l : List P4) (s : ByteArray) : ∃ b, Hid ((∃ i, At4 l s i) ↔ b = true) := by
  by_cases h : ∃ i, At4 l s i
  · exact ⟨true, fun _ => rfl, fun _ => h⟩
  · exact ⟨false, fun k => absurd k h, fun k => by cases k⟩
theorem no4_b {l : List P4} {s : ByteArray} (h : No4 l s) : ¬ ∃ i, At4 l s i := fun ⟨i, hi⟩ => hi.not h
theorem no4_of {l : List P4} {s : ByteArray} (h : ¬ ∃ i, At4 l s i) : No4 l s := (at_or l s).resolve_left h
/-- An amount, an atom as values. -/
abbrev ta (s : ByteArray) (m n : Int) : Value := .agg #[.string s, .int .i64 m, .int .i64 n]
theorem valid_any' (a : Int) (w : World) {r : Bool} (hr : Hid (vmd a = r)) : Calls Tryz.prog 128 #[.int .i64 a] w fun e w' => e = .returned (.bool r) ∧ w = w' := by rw [← hr.out]; exact valid_any a w
set_option maxHeartbeats 1000000 in
theorem fits_gro (s : ByteArray) (k u h m n : Int) (w : World) {r : Bool} (hr : Hid (fit k u m n = r)) : Calls Tryz.prog 119 #[ra s k u h, aa m n] w fun e w' => e = .returned (.bool r) ∧ Gro w w' := by
  obtain ⟨a, ha⟩ : ∃ v, Hid (shp k u = v) := ⟨_, rfl⟩
  obtain ⟨b, hb⟩ : ∃ v, Hid (vmd m = v) := ⟨_, rfl⟩
  go_enter Tryz.func119, Tryz.ntmps119
  go_wp2_with (first
    | (go_at_call 127; refine (shaped_gro _ _ _ _ _ ha).mono ?_; rintro e W1 ⟨rfl, hg1⟩; obtain ⟨hc1, hf1⟩ := bcell hg1.below)
    | (go_at_call 128; refine (valid_any' _ _ hb).mono ?_; rintro e W2 ⟨rfl, rfl⟩))
  all_goals (go_ret; have h := hr.out; unfold fit at h; clear hr; have ha := ha.out; have hb := hb.out; subst ha hb; refine ⟨ret_bool ?_, by first | exact ((Gro.new _ _).trans (Gro.new _ _)).trans hg1 | exact (Gro.new _ _).trans (Gro.new _ _)⟩; subst h; (try simp only [beq_iff_eq, beq_eq_false_iff_ne, ne_eq, shp, vmd, decide_eq_true_eq, decide_eq_false_iff_not] at *); rw [Bool.eq_iff_iff]; simp; omega)
abbrev TA (w : World) (s : ByteArray) (m n : Int) : World := w.alloc (.cells #[.string s, .int .i64 m, .int .i64 n] 25)
abbrev S3 (W : World) (g : Nat) (s : ByteArray) (m n : Int) : Prop := W.cell? ⟨g, 0, none⟩ = some (.string s) ∧ W.cell? ⟨g, 1, none⟩ = some (.int .i64 m) ∧ W.cell? ⟨g, 2, none⟩ = some (.int .i64 n)
theorem S3.of {w W : World} {g : Nat} {s : ByteArray} {m n : Int} (hb : Below w.heap.size w W) (hg : g < w.heap.size) (hc : S3 w g s m n) : S3 W g s m n :=
  ⟨(hb.cell (p := ⟨g, 0, none⟩) hg).trans hc.1, (hb.cell (p := ⟨g, 1, none⟩) hg).trans hc.2.1, (hb.cell (p := ⟨g, 2, none⟩) hg).trans hc.2.2⟩
end Go.Proofs.YtohjllnfnkajjaaGreat

namespace Go.Proofs.YtohjllnfnkajjaaGreat
open Go.RowKit
set_option linter.unusedVariables false
set_option linter.unusedSimpArgs false

/-- What catalog's Resolve answers for an atom. -/
noncomputable def rsvN (l : List P4) (a : A3) : Int := (rsv_ex l a.1 a.2.1 a.2.2).choose
theorem rsvN_is (l : List P4) (a : A3) : Rsv l a.1 a.2.1 a.2.2 (rsvN l a) := (rsv_ex l a.1 a.2.1 a.2.2).choose_spec
/-- The first error. -/
noncomputable def firE (l : List P4) : List A3 → Int
  | [] => 0
  | a :: r => if rsvN l a = 0 then firE l r else rsvN l a
theorem firE_drop {l : List P4} {L : List A3} {j : Nat} (h : j < L.length) : firE l (L.drop j) = if rsvN l (L.getD j default) = 0 then firE l (L.drop (j + 1)) else rsvN l (L.getD j default) := by
  have e0 : L.getD j default = L[j] := by rw [List.getD_eq_getElem?_getD, List.getElem?_eq_getElem h]; rfl
  rw [List.drop_eq_getElem_cons h, firE, e0]
end Go.Proofs.YtohjllnfnkajjaaGreat
