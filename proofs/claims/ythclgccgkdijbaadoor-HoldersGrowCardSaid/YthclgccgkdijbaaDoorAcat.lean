/- Contracts: slices.Concat of two slices of amounts. -/
import Derived.Test.YthclgccgkdijbaaDoorArows
import Derived.Lib.AppendZeros
namespace Go.Proofs.YthclgccgkdijbaaDoor
open Go.RowKit
set_option linter.unusedVariables false

set_option maxHeartbeats 1000000 in
theorem grow_am (n : Nat) (hn0 : 0 < n) (hn1 : n ≤ 1000000) (w : World) :
    Calls Tryd.prog 78 #[.slice none 0 0, .int .i64 n] w fun e w' => ∃ V, e = .returned V ∧ OwnA w' w.heap.size V [] ∧ Below w.heap.size w w' := by
  obtain ⟨i0, hi, hz0, hz1, hz2⟩ := info_parts am_info
  have hrz : ∀ ty, (Builtin.append_ #[58, 3] ty #[.slice none 0 0, .int .i64 (n : Int)]).run Tryd.prog w = _ := fun ty =>
    Lib.run_append_nil_zeros w 58 3 ty 30 i0 _ .i64 .i64 Tryd.underlying58 Tryd.underlying3 hi hz0 n hn0 (by omega) (by omega) (by rw [hz2]; omega)
  have hge : n ≤ grownCap w n 0 30 := grownCap_ge w _ _ _
  have hcm : grownCap w n 0 30 ≤ maxLen := grownCap_le_maxLen w n 0 _ (by simp only [maxLen]; omega)
  obtain ⟨G, hG⟩ : ∃ G, Hid (grownCap w n 0 30 = G) := ⟨_, rfl⟩
  rw [hG.out] at hrz hge hcm
  have hown : Hid (OwnA (w.drew.alloc (.cells (Builtin.zeroCells (Value.agg #[.int .i64 0, .int .i64 0]).cells n ++ Builtin.zeroCells (Value.agg #[.int .i64 0, .int .i64 0]).cells (G - n)) 30)) w.heap.size (.slice (some ⟨w.heap.size, 0, none⟩) 0 G) []) := by
    refine ⟨rfl, .inr ⟨w.heap.size, G, _, rfl, Nat.le_refl _, heap_alloc_new w.drew _, Nat.zero_le _, hcm, ?_, ?_⟩⟩
    · rw [Array.size_append, size_zeroCells, size_zeroCells, show (Value.agg #[.int .i64 0, .int .i64 0]).cells.size = 2 from rfl, ← Nat.add_mul]
      congr 1
      omega
    · simp [av]
  have hpos : ((n : Int) - 0) = n := by omega
  have h4 : (0 : Int) < (n : Int) := by omega
  have h1 : ¬ ((n : Int) < 0) := by omega
  have h2 : IntKind.i64.wrap (n : Int) = n := by rw [IntKind.wrap_i64]; omega
  have h3 : (0 : Int) ≤ (G : Int) := by omega
  clear hcm hG
  go_enter Tryd.func78, Tryd.ntmps78
  go_wp2_with (at_builtin; refine Lib.wpList_append_run _ rfl _ _ _ _ rfl _ _ rfl rfl _ _ (hrz _) ?_)
  go_ret
  exact ⟨_, rfl, hown.out, nxA (bdN (Below.refl _ _) 1) _⟩

def lenAt (n m k : Nat) : Nat := if k = 0 then 0 else if k = 1 then n else n + m
def catAt (l r : List P2) (k : Nat) : List P2 := if k = 0 then [] else if k = 1 then l else l ++ r
set_option maxHeartbeats 2000000 in
set_option maxRecDepth 8000 in
theorem concat_am (g n m cn cm : Nat) (A B : Option Addr) (l r : List P2) (w : World) (h0 : w.cell? ⟨g, 0, none⟩ = some (.slice A n cn)) (h1 : w.cell? ⟨g, 1, none⟩ = some (.slice B m cm))
    (hl : ARd w A l) (hr : ARd w B r) (hn : Hid (l.length = n)) (hm : Hid (r.length = m)) (hs : Hid (n + m ≤ 1000)) (hp : Hid (0 < n + m)) :
    Calls Tryd.prog 72 #[.slice (some ⟨g, 0, none⟩) 2 2] w fun e w' => ∃ V, e = .returned V ∧ OwnA w' w.heap.size V (l ++ r) ∧ Below w.heap.size w w' := by
  have HL := Lib.hid hl
  have HR := Lib.hid hr
  have H0 := Lib.hid h0
  have H1 := Lib.hid h1
  clear hl hr h0 h1
  go_enter Tryd.func72, Tryd.ntmps72
  go_wp2
  go_loopw [3, 5, 11] (fun t p i wr => ∃ (k : Nat), k ≤ 2 ∧ i = .int .i64 (k : Int) ∧ t = .int .i64 ((lenAt n m k : Nat) : Int) ∧ Hid (w = wr)) (fun _ _ i _ => 2 - (intOf i).toNat)
  case atStart => exact ⟨0, by omega, rfl, rfl, rfl⟩
  case round =>
    obtain ⟨k, hk, rfl, rfl, hw⟩ := hrel
    have hw' := hw.out
    subst hw'
    have hc : k = 0 ∨ k = 1 ∨ k = 2 := by omega
    have c0 := H0.out
    have c1 := H1.out
    rcases hc with rfl | rfl | rfl
    · have e1 : lenAt n m 0 = 0 := rfl
      have e2 : IntKind.i64.wrap (n : Int) = n := by have := hs.out; rw [IntKind.wrap_i64]; omega
      go_wp2
      go_roundw
      case rel => exact ⟨1, by omega, by go_num, by simp [lenAt], trivial⟩
      case measure => simp [intOf]
    · have e1 : lenAt n m 1 = n := rfl
      have e2 : IntKind.i64.wrap ((n : Int) + (m : Int)) = (n : Int) + (m : Int) := by have := hs.out; rw [IntKind.wrap_i64]; omega
      have e3 : 0 ≤ (n : Int) + (m : Int) := by omega
      go_wp2
      go_roundw
      case rel => exact ⟨2, by omega, by go_num, by simp [lenAt], trivial⟩
      case measure => simp [intOf]
    · have e1 : lenAt n m 2 = n + m := rfl
      clear c0 c1
      go_wp2_with (first
        | (go_at_call 78; refine (grow_am (lenAt n m 2) hp.out (by rw [e1]; have := hs.out; omega) _).mono ?_; rintro e W1 ⟨V0, rfl, ho0, hb0⟩; have HO0 := Lib.hid ho0; have HB0 := Lib.hid hb0; clear ho0 hb0))
      go_loopw [6, 8, 27] (fun V p i wr => ∃ (k : Nat), k ≤ 2 ∧ i = .int .i64 (k : Int) ∧ Hid (OwnA wr w.heap.size V (catAt l r k)) ∧ Hid (Below w.heap.size w wr)) (fun _ _ i _ => 2 - (intOf i).toNat)
      case atStart => exact ⟨0, by omega, rfl, HO0, HB0⟩
      case round =>
        obtain ⟨k, hk2, rfl, hO, hB⟩ := hrel
        have hc : k = 0 ∨ k = 1 ∨ k = 2 := by omega
        have hcell : g < w.heap.size := World.block_lt_of_cell? w _ H0.out
        have c0 : wr.cell? ⟨g, 0, none⟩ = some (.slice A n cn) := (hB.out.cell (p := ⟨g, 0, none⟩) hcell).trans H0.out
        have c1 : wr.cell? ⟨g, 1, none⟩ = some (.slice B m cm) := (hB.out.cell (p := ⟨g, 1, none⟩) hcell).trans H1.out
        rcases hc with rfl | rfl | rfl
        · go_wp2_with (at_builtin; (refine app_am rfl (.tmp 31) (.tmp 32) rfl w.heap.size _ [] A l n cn hn rfl rfl hO.out (HL.out.below hB.out) (by have := hs.out; show _ ≤ _; simp; omega) hB.out.size ?_); intro V1 W2 ho1 hb1; have HO1 := Lib.hid ho1; have HB1 := Lib.hid (hB.out.trans hb1); clear ho1 hb1)
          go_roundw
          case rel => exact ⟨1, by omega, by go_num, HO1, HB1⟩
          case measure => simp [intOf]
        · go_wp2_with (at_builtin; (refine app_am rfl (.tmp 31) (.tmp 32) rfl w.heap.size _ l B r m cm hm rfl rfl hO.out (HR.out.below hB.out) (by have := hs.out; have := hn.out; show _ ≤ _; omega) hB.out.size ?_); intro V1 W2 ho1 hb1; have HO1 := Lib.hid ho1; have HB1 := Lib.hid (hB.out.trans hb1); clear ho1 hb1)
          go_roundw
          case rel => exact ⟨2, by omega, by go_num, HO1, HB1⟩
          case measure => simp [intOf]
        · clear c0 c1
          go_wp2
          go_ret
          exact ⟨_, rfl, hO.out, hB.out⟩
end Go.Proofs.YthclgccgkdijbaaDoor
