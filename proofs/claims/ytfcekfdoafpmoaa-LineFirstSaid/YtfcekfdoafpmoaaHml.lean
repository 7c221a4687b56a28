/- Picked from Icut Ctxt Cd Ld Lval Lrows Lcur Ladd Lmod Rcat Rd Rrows Rval Rsv Rblk Tmd Tca. -/
import Derived.Test.YtfcekfdoafpmoaaAroom
import Derived.Test.YtfcekfdoafpmoaaHid
import Derived.Lib.Split
import Derived.Lib.Bytealg
import Derived.Lib.ItoaNum
import Derived.Lib.AtoiAll
import Derived.Lib.AtoiAllCases
import Derived.Lib.SpaceU
import Derived.Lib.Fields
import Derived.WalkKit
import Derived.Lib.Hide
import Derived.WalkLawsBesides
import Derived.KernelRfl
import Derived.ChangeBears2
import Derived.Deep.RegionHeld3
import Derived.BigQuiet
import Derived.Deep.QuietTactic
import Derived.Laws.StructEq
import Derived.Shelf.Abstract
import Derived.Deep.RegionLaw
import Derived.Deep.CutRange
namespace Go.Proofs.Ytfcekfdoafpmoaa
open Go.RowKit
open Go.Sort (grow grow_grow alloc_eq_grow)
set_option linter.unusedVariables false
set_option linter.unusedSimpArgs false

/-- A resource: name, kind, units, home. -/
abbrev P4 := ByteArray × Int × Int × Int

/-- All blocks but b are as they were. -/
abbrev Frm (b : Nat) (w w' : World) : Prop := w.grownBy w' (some b)
theorem Frm.refl (b : Nat) (w : World) : Frm b w w := ⟨rfl, rfl, rfl, Nat.le_refl _, fun _ _ _ => rfl⟩
theorem Frm.trans {b : Nat} {a w c : World} (h : Frm b a w) (k : Frm b w c) : Frm b a c :=
  ⟨k.os.trans h.os, k.tape.trans h.tape, k.output.trans h.output, Nat.le_trans h.size k.size, fun q hq hn => (k.block q (Nat.lt_of_lt_of_le hq h.size) hn).trans (h.block q hq hn)⟩
theorem Frm.drewN {b : Nat} {a w : World} (h : Frm b a w) (n : Nat) : Frm b a (w.drewN n) := h.trans ⟨rfl, rfl, rfl, Nat.le_refl _, fun _ _ _ => rfl⟩
theorem Frm.set {b : Nat} {a w : World} (h : Frm b a w) (o : Nat) (u : Value) : Frm b a (w.setCell ⟨b, o, none⟩ u) :=
  h.trans ⟨rfl, rfl, rfl, by simp [World.setCell], fun q hq hn => Below.heap_setCell _ _ _ _ (fun e => hn (by rw [e]))⟩
theorem Frm.below {b : Nat} {w w' : World} (h : Frm b w w') (hb : b ≤ w.heap.size) : Below b w w' :=
  ⟨h.os, h.tape, h.output, h.size, fun k hk => h.block k (by omega) (fun e => by injection e with e; omega)⟩
theorem cell_of_block {w w' : World} {b : Nat} (h : w'.heap[b]? = w.heap[b]?) (o : Nat) : w'.cell? ⟨b, o, none⟩ = w.cell? ⟨b, o, none⟩ := by
  simp only [World.cell?, h]
theorem frozen_of_block {w w' : World} {b : Nat} (h : w'.heap[b]? = w.heap[b]?) (o : Nat) : w'.frozen? ⟨b, o, none⟩ = w.frozen? ⟨b, o, none⟩ := by
  simp only [World.frozen?, h]
theorem own_kept {w w' : World} {base : Nat} {T : TypeId} {sz : Nat} {v : Value} {n : Nat} {xs : List Value} (h : w.ownsRow base T sz v n xs) (hb : ∀ g, v.ownBlock = some g → w'.heap[g]? = w.heap[g]?) : w'.ownsRow base T sz v n xs := by
  refine ⟨h.1, ?_⟩
  rcases h.2 with hn | ⟨g, cap, cur, rfl, hbg, hg, rest⟩
  · exact .inl hn
  · exact .inr ⟨g, cap, cur, rfl, hbg, by rw [hb g rfl]; exact hg, rest⟩
theorem own_lt {w : World} {base : Nat} {T : TypeId} {sz : Nat} {v : Value} {n : Nat} {xs : List Value} (h : w.ownsRow base T sz v n xs) {g : Nat} (hg : v.ownBlock = some g) : base ≤ g ∧ g < w.heap.size := by
  rcases h.2 with ⟨rfl, _⟩ | ⟨g', cap, cur, rfl, hbg, hg', _⟩
  · simp [Value.ownBlock] at hg
  · simp only [Value.ownBlock, Option.some.injEq] at hg
    subst hg
    exact ⟨hbg, (Array.getElem?_eq_some_iff.1 hg').1⟩
theorem block_set (w : World) {a b : Nat} (o : Nat) (u : Value) (h : b ≠ a) : (w.setCell ⟨a, o, none⟩ u).heap[b]? = w.heap[b]? := Below.heap_setCell _ _ _ _ (fun e => h (by rw [e]))
/-- Block g holds these cells, and none of them is frozen. -/
def Blk (w : World) (g : Nat) (cs : List Value) : Prop := ∃ T, w.heap[g]? = some (.cells cs.toArray T (0, 0))
theorem Blk.cell {w : World} {g : Nat} {cs : List Value} (h : Blk w g cs) (o : Nat) {v : Value} (hv : cs[o]? = some v) : w.cell? ⟨g, o, none⟩ = some v := by
  obtain ⟨T, h⟩ := h
  rw [cell_of_row w g o cs.toArray T (0, 0) h]
  simpa using hv
theorem Blk.fz {w : World} {g : Nat} {cs : List Value} (h : Blk w g cs) (o : Nat) : w.frozen? ⟨g, o, none⟩ = false := by
  obtain ⟨T, h⟩ := h
  simp [World.frozen?, h]
theorem Blk.lt {w : World} {g : Nat} {cs : List Value} (h : Blk w g cs) : g < w.heap.size := by
  obtain ⟨T, h⟩ := h
  exact (Array.getElem?_eq_some_iff.1 h).1
theorem Blk.new (w : World) (cs : List Value) (T : TypeId) {g : Nat} (hg : w.heap.size = g) : Blk (w.alloc (.cells cs.toArray T)) g cs := by
  subst hg
  exact ⟨T, heap_alloc_new w _⟩
theorem Blk.of {w w' : World} {g : Nat} {cs : List Value} (h : Blk w g cs) (hb : w'.heap[g]? = w.heap[g]?) : Blk w' g cs := by
  obtain ⟨T, h⟩ := h
  exact ⟨T, hb.trans h⟩
theorem Blk.up {w w' : World} {g : Nat} {cs : List Value} (h : Blk w g cs) {B : Nat} (hb : Below B w w') (hB : g < B) : Blk w' g cs := h.of (hb.block g hB)
theorem Blk.grow {w : World} {g : Nat} {cs : List Value} (h : Blk w g cs) (o : Obj) : Blk (w.alloc o) g cs := h.up (newB w o) h.lt
theorem Blk.set {w : World} {g : Nat} {cs : List Value} (h : Blk w g cs) (o : Nat) (v : Value) : Blk (w.setCell ⟨g, o, none⟩ v) g (cs.set o v) := by
  obtain ⟨T, h⟩ := h
  refine ⟨T, ?_⟩
  simp [World.setCell, Array.getElem?_modify, h]
/-- The tape's box b: its numbers lie in a block ahead of it; the place. -/
structure Tq (w : World) (b : Nat) (A : Option Addr) (n c : Nat) (xs : List Int) (i : Nat) : Prop where
  lt : b < w.heap.size
  c0 : w.cell? ⟨b, 0, none⟩ = some (.slice A n c)
  c1 : w.cell? ⟨b, 1, none⟩ = some (.int .i64 i)
  fz : ∀ o, w.frozen? ⟨b, o, none⟩ = false
  len : xs.length = n
  rd : 0 < n → ∃ g o, A = some ⟨g, o, none⟩ ∧ g < b ∧ ∀ j, j < n → w.cell? ⟨g, o + j, none⟩ = some (.int .i64 (xs.getD j 0))
  wf : ∀ x ∈ xs, (Lit.int .i64 x).wf = true
  small : n ≤ 300
  le : i ≤ n
  cap : n ≤ c
def Tp (w : World) (b : Nat) : Prop := ∃ A n c xs i, Tq w b A n c xs i
theorem Tq.step {w : World} {b : Nat} {A : Option Addr} {n c : Nat} {xs : List Int} {i : Nat} (h : Tq w b A n c xs i) (hi : i < n) {k : Int} (hk : k = (i : Int) + 1) : Tq (w.setCell ⟨b, 1, none⟩ (.int .i64 k)) b A n c xs (i + 1) := by
  subst hk
  refine ⟨by simpa [World.setCell] using h.lt, by simp [go_sem, h.c0, h.c1, h.fz], ?_, fun o => by simp [go_sem, h.c1, h.fz], h.len, fun h0 => ?_, h.wf, h.small, hi, h.cap⟩
  · rw [World.cell?_setCell_same _ _ _ h.c1]; rfl
  · obtain ⟨g, o, hA, hg, hc⟩ := h.rd h0
    exact ⟨g, o, hA, hg, fun j hj => (cell_of_block (block_set _ _ _ (by omega)) _).trans (hc j hj)⟩
theorem Tp.lt {w : World} {b : Nat} (h : Tp w b) : b < w.heap.size := by obtain ⟨A, n, c, xs, i, h⟩ := h; exact h.lt
theorem Tq.of {w w' : World} {b : Nat} {A : Option Addr} {n c : Nat} {xs : List Int} {i : Nat} (h : Tq w b A n c xs i) (hb : ∀ k, k ≤ b → w'.heap[k]? = w.heap[k]?) (hs : w.heap.size ≤ w'.heap.size) : Tq w' b A n c xs i :=
  ⟨Nat.lt_of_lt_of_le h.lt hs, (cell_of_block (hb b (Nat.le_refl _)) 0).trans h.c0, (cell_of_block (hb b (Nat.le_refl _)) 1).trans h.c1, fun o => (frozen_of_block (hb b (Nat.le_refl _)) o).trans (h.fz o), h.len, fun h0 => by
    obtain ⟨g, o, hA, hg, hc⟩ := h.rd h0
    exact ⟨g, o, hA, hg, fun j hj => (cell_of_block (hb g (Nat.le_of_lt hg)) _).trans (hc j hj)⟩, h.wf, h.small, h.le, h.cap⟩
theorem Tp.of {w w' : World} {b : Nat} (h : Tp w b) (hb : ∀ k, k ≤ b → w'.heap[k]? = w.heap[k]?) (hs : w.heap.size ≤ w'.heap.size) : Tp w' b := by
  obtain ⟨A, n, c, xs, i, h⟩ := h
  exact ⟨A, n, c, xs, i, h.of hb hs⟩
theorem Tp.up {w w' : World} {b : Nat} (h : Tp w b) (hb : Below w.heap.size w w') : Tp w' b := h.of (fun k hk => hb.block k (Nat.lt_of_le_of_lt hk h.lt)) hb.size
/-- Rows grow or boxes change that lie behind the tape's box. -/
theorem Tp.behind {w w' : World} {b : Nat} (h : Tp w b) {B : Nat} (hb : Below B w w') (hB : b < B) : Tp w' b := h.of (fun k hk => hb.block k (Nat.lt_of_le_of_lt hk hB)) hb.size
theorem Frm.up {b : Nat} {w w' : World} (hb : Below w.heap.size w w') : Frm b w w' := ⟨hb.os, hb.tape, hb.output, hb.size, fun k hk _ => hb.block k hk⟩
theorem i64_wf {n : Int} (hn : (Lit.int .i64 n).wf = true) : -9223372036854775808 ≤ n ∧ n ≤ 9223372036854775807 := by
  have h := Bool.and_eq_true_iff.1 hn
  have h1 : (-9223372036854775808 : Int) ≤ n := of_decide_eq_true h.1
  have h2 : n ≤ (9223372036854775807 : Int) := of_decide_eq_true h.2
  exact ⟨h1, h2⟩
theorem mod_is (n m : Int) (w : World) (hn : (Lit.int .i64 n).wf = true) (h1 : 1 ≤ m) (hm : m ≤ 1048576) {x : Int} (hx : Hid (n % m = x)) :
    Calls Try.prog 26 #[.int .i64 n, .int .i64 m] w fun e w' => e = .returned (.int .i64 x) ∧ w = w' := by
  have hwf := i64_wf hn
  have h5 : 0 ≤ n % m := Int.emod_nonneg _ (by omega)
  have h6 : n % m < m := Int.emod_lt_of_pos _ (by omega)
  have q0 : ¬ m < 1 := by omega
  have z0 : ¬ m = 0 := by omega
  obtain ⟨y, hy⟩ : ∃ y, Hid (n.tmod m = y) := ⟨_, rfl⟩
  have hcase : (y = x ∨ y = x - m) := by
    have h := Int.tmod_eq_emod (a := n) (b := m)
    rw [hy.out, hx.out] at h
    split at h
    · left; omega
    · right
      have : ((m.natAbs : Nat) : Int) = m := Int.natAbs_of_nonneg (by omega)
      omega
  rw [hx.out] at h5 h6
  by_cases hneg : y < 0
  · have e1 : n.tmod m = y := hy.out
    have e2 : IntKind.i64.wrap (y + m) = y + m := by rw [IntKind.wrap_i64]; omega
    have hr : Hid (x = y + m) := by show _ = _; omega
    clear hy hx hn hwf h5 h6 hcase h1 hm
    go_enter Try.func26, Try.ntmps26
    go_wp2
    go_ret
    exact ⟨by show Ending.returned (Value.int IntKind.i64 (y + m)) = _; rw [hr.out], rfl⟩
  · have e1 : n.tmod m = y := hy.out
    have hr : Hid (x = y) := by show _ = _; omega
    clear hy hx hn hwf h5 h6 hcase h1 hm
    go_enter Try.func26, Try.ntmps26
    go_wp2
    go_ret
    exact ⟨by show Ending.returned (Value.int IntKind.i64 y) = _; rw [hr.out], rfl⟩
theorem mod_nat (n m : Int) (h1 : 1 ≤ m) : ∃ v : Nat, Hid (n % m = (v : Int)) ∧ (v : Int) < m := by
  have h5 : 0 ≤ n % m := Int.emod_nonneg _ (by omega)
  have h6 : n % m < m := Int.emod_lt_of_pos _ (by omega)
  exact ⟨(n % m).toNat, by show _ = _; omega, by omega⟩
def md8 (i : Nat) : Int := if i = 0 then 5 else if i = 1 then 5 else if i = 2 then 3 else if i = 3 then 4 else if i = 4 then 2 else if i = 5 then 1 else if i = 6 then 3 else 5
theorem md8_is (i : Nat) : 1 ≤ md8 i ∧ md8 i ≤ 5 := by unfold md8; repeat (first | decide | split)
/-- The four cells at o of block b hold the resource r. -/
def Z4 (w : World) (b o : Nat) (r : P4) : Prop :=
  w.cell? ⟨b, o, none⟩ = some (.string r.1) ∧ w.cell? ⟨b, o + 1, none⟩ = some (.int .i64 r.2.1) ∧ w.cell? ⟨b, o + 2, none⟩ = some (.int .i64 r.2.2.1) ∧ w.cell? ⟨b, o + 3, none⟩ = some (.int .i64 r.2.2.2)
theorem Z4.lt {w : World} {b o : Nat} {r : P4} (h : Z4 w b o r) : b < w.heap.size := by have := World.block_lt_of_cell? w _ h.1; exact this
theorem Z4.of {w w' : World} {b o : Nat} {r : P4} (h : Z4 w b o r) {B : Nat} (hb : Below B w w') (hB : b < B) : Z4 w' b o r :=
  ⟨(hb.cell (p := ⟨b, o, none⟩) hB).trans h.1, (hb.cell (p := ⟨b, o + 1, none⟩) hB).trans h.2.1, (hb.cell (p := ⟨b, o + 2, none⟩) hB).trans h.2.2.1, (hb.cell (p := ⟨b, o + 3, none⟩) hB).trans h.2.2.2⟩
theorem Z4.below {w w' : World} {b o : Nat} {r : P4} (h : Z4 w b o r) (hb : Below w.heap.size w w') : Z4 w' b o r := h.of hb h.lt

/-- The slice at A reads as the resources l, four cells each. -/
def RRd (w : World) (A : Option Addr) (l : List P4) : Prop :=
  l ≠ [] → ∃ b o, A = some ⟨b, o, none⟩ ∧ b < w.heap.size ∧ ∀ i, i < l.length → Z4 w b (o + i * 4) (l.getD i default)
theorem RRd.nil (w : World) (A : Option Addr) : RRd w A [] := fun h => absurd rfl h
theorem RRd.below {w w' : World} {A : Option Addr} {l : List P4} (h : RRd w A l) (hb : Below w.heap.size w w') : RRd w' A l := fun hx => by
  obtain ⟨b, o, hA, hlt, hc⟩ := h hx
  exact ⟨b, o, hA, Nat.lt_of_lt_of_le hlt hb.size, fun i hi => (hc i hi).of hb hlt⟩
def rvs : List P4 → List Value
  | [] => []
  | p :: l => .string p.1 :: .int .i64 p.2.1 :: .int .i64 p.2.2.1 :: .int .i64 p.2.2.2 :: rvs l
theorem rvs_length : ∀ l : List P4, (rvs l).length = l.length * 4
  | [] => rfl
  | p :: l => by simp [rvs, rvs_length l]; omega
theorem rvs_append : ∀ l r : List P4, rvs (l ++ r) = rvs l ++ rvs r
  | [], r => rfl
  | p :: l, r => by simp [rvs, rvs_append l r]
theorem rvs_at : ∀ (l : List P4) (i : Nat), i < l.length → (rvs l)[i * 4]? = some (.string (l.getD i default).1) ∧ (rvs l)[i * 4 + 1]? = some (.int .i64 (l.getD i default).2.1) ∧ (rvs l)[i * 4 + 2]? = some (.int .i64 (l.getD i default).2.2.1) ∧ (rvs l)[i * 4 + 3]? = some (.int .i64 (l.getD i default).2.2.2)
  | [], i, h => by simp at h
  | p :: l, 0, _ => by simp [rvs]
  | p :: l, i + 1, h => by
    have := rvs_at l i (by simpa using h)
    rw [show (i + 1) * 4 = i * 4 + 1 + 1 + 1 + 1 by omega]
    simpa [rvs] using this
theorem rvs_one (l : List P4) : ∀ u ∈ rvs l, u.oneCell' = true := by
  induction l with
  | nil => intro u hu; cases hu
  | cons p l ih =>
    intro u hu
    simp only [rvs, List.mem_cons] at hu
    rcases hu with rfl | rfl | rfl | rfl | hu
    · rfl
    · rfl
    · rfl
    · rfl
    · exact ih u hu
/-- What lies at cell j of the row. -/
theorem RRd.cell {w : World} {b o : Nat} {l : List P4} (hc : ∀ i, i < l.length → Z4 w b (o + i * 4) (l.getD i default)) {j : Nat} {u : Value} (hu : (rvs l)[j]? = some u) : w.cell? ⟨b, o + j, none⟩ = some u := by
  have hj : j < l.length * 4 := by rw [← rvs_length]; exact (List.getElem?_eq_some_iff.1 hu).1
  obtain ⟨h1, h2, h3, h4⟩ := hc (j / 4) (by omega)
  obtain ⟨g1, g2, g3, g4⟩ := rvs_at l (j / 4) (by omega)
  have hd : j % 4 = 0 ∨ j % 4 = 1 ∨ j % 4 = 2 ∨ j % 4 = 3 := by omega
  rcases hd with e | e | e | e
  · rw [show o + j = o + j / 4 * 4 by omega, h1, ← g1, show j / 4 * 4 = j by omega, hu]
  · rw [show o + j = o + j / 4 * 4 + 1 by omega, h2, ← g2, show j / 4 * 4 + 1 = j by omega, hu]
  · rw [show o + j = o + j / 4 * 4 + 2 by omega, h3, ← g3, show j / 4 * 4 + 2 = j by omega, hu]
  · rw [show o + j = o + j / 4 * 4 + 3 by omega, h4, ← g4, show j / 4 * 4 + 3 = j by omega, hu]

abbrev OwnR (w : World) (base : Nat) (v : Value) (l : List P4) : Prop := w.ownsRow base 64 4 v l.length (rvs l)
theorem OwnR.form {w : World} {base : Nat} {v : Value} {l : List P4} (h : OwnR w base v l) :
    ∃ A c, v = .slice A l.length c ∧ l.length ≤ c ∧ RRd w A l ∧ (0 < l.length → ∃ g, A = some ⟨g, 0, none⟩ ∧ base ≤ g ∧ g < w.heap.size) := by
  rcases h.2 with ⟨rfl, hn⟩ | ⟨g, cap, cur, rfl, hb, hg, hnc, hcm, _, _⟩
  · exact ⟨none, 0, by rw [hn], by omega, fun hx => absurd (List.eq_nil_of_length_eq_zero hn) hx, fun h0 => by omega⟩
  · have hlt : g < w.heap.size := (Array.getElem?_eq_some_iff.1 hg).1
    refine ⟨_, cap, rfl, hnc, fun _ => ⟨g, 0, rfl, hlt, fun i hi => ?_⟩, fun _ => ⟨g, rfl, hb, hlt⟩⟩
    obtain ⟨g1, g2, g3, g4⟩ := rvs_at l i hi
    have h1 := h.cellAt (i * 4) (by omega)
    have h2 := h.cellAt (i * 4 + 1) (by omega)
    have h3 := h.cellAt (i * 4 + 2) (by omega)
    have h4 := h.cellAt (i * 4 + 3) (by omega)
    rw [g1] at h1
    rw [g2] at h2
    rw [g3] at h3
    rw [g4] at h4
    rw [Nat.zero_add]
    exact ⟨h1, h2, h3, h4⟩
theorem OwnR.below {w w' : World} {base : Nat} {v : Value} {l : List P4} (h : OwnR w base v l) (hb : Below w.heap.size w w') : OwnR w' base v l := by
  refine ⟨h.1, ?_⟩
  rcases h.2 with hn | ⟨g, cap, cur, rfl, hbg, hg, rest⟩
  · exact .inl hn
  · exact .inr ⟨g, cap, cur, rfl, hbg, by rw [hb.block g (Array.getElem?_eq_some_iff.1 hg).1]; exact hg, rest⟩
theorem OwnR.nil (w : World) (base : Nat) : OwnR w base (.slice none 0 0) [] := World.ownsRow_nil w base _ 4

theorem Src.ress {w : World} {tx e' : TypeId} (hk : Try.prog.underlying tx = some (.slice e')) {A : Option Addr} {ys : List P4} (c : Nat) (h : RRd w A ys) : Src Try.prog 4 tx (.slice A ys.length c) ys.length (rvs ys) w := by
  cases A with
  | none =>
    have hx : ys = [] := by
      rcases ys with _ | ⟨x, r⟩
      · rfl
      · obtain ⟨_, _, h, _⟩ := h (by simp)
        cases h
    subst hx
    exact Src.ofNil w hk c
  | some a =>
    rcases ys with _ | ⟨x, r⟩
    · exact Src.ofSlice w hk a 0 c [] rfl (fun j u h => by simp at h) (fun u h => by cases h)
    · obtain ⟨b, o, hA, _, hc⟩ := h (by simp)
      injection hA with hA
      subst hA
      refine Src.ofSlice w hk _ _ c _ (by rw [rvs_length]) (fun j u hu => ?_) (rvs_one _)
      rw [add_at]
      exact RRd.cell hc hu
theorem res_info : (Try.prog.info? 64).map (fun i => (i.zero, i.size, i.bytes)) = some (some (.agg #[.string ⟨#[]⟩, .int .i64 0, .int .i64 0, .int .i64 0]), 4, 40) := by kernel_rfl
theorem rrd_at (w : World) (T : TypeId) (s : ByteArray) (k u h : Int) {g : Nat} (hg : w.heap.size = g) : RRd (w.alloc (.cells #[.string s, .int .i64 k, .int .i64 u, .int .i64 h] T)) (some ⟨g, 0, none⟩) [(s, k, u, h)] := by
  subst hg
  exact fun _ => ⟨_, 0, rfl, by simp, fun i hi => by
    obtain rfl : i = 0 := by simpa using hi
    exact ⟨by simp, by simp, by simp, by simp⟩⟩
theorem Tp.grown {w w' : World} {b : Nat} {r : Option Nat} (h : Tp w b) (hg : w.grownBy w' r) (hr : ∀ g, r = some g → b < g) : Tp w' b :=
  h.of (fun k hk => hg.block k (Nat.lt_of_le_of_lt hk h.lt) (fun e => by have := hr k e.symm; omega)) hg.size
theorem Frm.grown {b : Nat} {a w w' : World} {r : Option Nat} (h : Frm b a w) (hg : w.grownBy w' r) (hr : ∀ g, r = some g → a.heap.size ≤ g) : Frm b a w' :=
  ⟨hg.os.trans h.os, hg.tape.trans h.tape, hg.output.trans h.output, Nat.le_trans h.size hg.size, fun k hk hn => (hg.block k (Nat.lt_of_lt_of_le hk h.size) (fun e => by have := hr k e.symm; omega)).trans (h.block k hk hn)⟩
theorem own_frm {w w' : World} {base b : Nat} {T : TypeId} {sz : Nat} {v : Value} {n : Nat} {xs : List Value} (h : w.ownsRow base T sz v n xs) (hf : Frm b w w') (hb : b < base) : w'.ownsRow base T sz v n xs :=
  own_kept h (fun g hg => hf.block g (own_lt h hg).2 (fun e => by injection e with e; have := (own_lt h hg).1; omega))
theorem own_low {w : World} {base base' : Nat} {T : TypeId} {sz : Nat} {v : Value} {n n' : Nat} {xs : List Value} (h : w.ownsRow base T sz v n xs) (hb : base' ≤ base) (hn : n = n') : w.ownsRow base' T sz v n' xs := by
  subst hn
  obtain ⟨h1, h2⟩ := h
  refine ⟨by omega, ?_⟩
  rcases h2 with h2 | ⟨g, cap, cur, h3, h4, h5⟩
  · exact .inl h2
  · exact .inr ⟨g, cap, cur, h3, Nat.le_trans hb h4, h5⟩
theorem Blk.frm {w w' : World} {b g : Nat} {cs : List Value} (h : Blk w g cs) (hf : Frm b w w') (hg : g ≠ b) : Blk w' g cs := h.of (hf.block g h.lt (fun e => hg (by injection e)))
/-- The catalog's names. -/
def nm6 (i : Nat) : ByteArray := if i = 0 then ⟨#[97]⟩ else if i = 1 then ⟨#[98]⟩ else if i = 2 then ⟨#[99]⟩ else if i = 3 then ⟨#[100]⟩ else if i = 4 then ⟨#[112]⟩ else ⟨#[113]⟩
def CtR (i : Nat) (r : P4) : Prop := r.1 = nm6 i ∧ shp r.2.1 r.2.2.1 = true ∧ 0 ≤ r.2.2.2 ∧ r.2.2.2 < 4
def CtP (l : List P4) : Prop := ∀ i, i < l.length → CtR i (l.getD i default)
theorem CtP.nil : CtP [] := fun i h => by simp at h
theorem CtP.snoc {l : List P4} (h : CtP l) {r : P4} (hr : CtR l.length r) : CtP (l ++ [r]) := fun i hi => by
  rw [List.length_append, List.length_singleton] at hi
  rcases Nat.lt_or_ge i l.length with h1 | h1
  · rw [show (l ++ [r]).getD i default = l.getD i default by simp [List.getD_eq_getElem?_getD, List.getElem?_append_left h1]]
    exact h i h1
  · obtain rfl : i = l.length := by omega
    rw [show (l ++ [r]).getD l.length default = r by simp [List.getD_eq_getElem?_getD]]
    exact hr
theorem Frm.behind {b : Nat} {a w w' : World} (h : Frm b a w) {B : Nat} (hb : Below B w w') (hB : a.heap.size ≤ B) : Frm b a w' :=
  ⟨hb.os.trans h.os, hb.tape.trans h.tape, hb.output.trans h.output, Nat.le_trans h.size hb.size, fun k hk hn => (hb.block k (Nat.lt_of_lt_of_le hk hB)).trans (h.block k hk hn)⟩
end Go.Proofs.Ytfcekfdoafpmoaa
