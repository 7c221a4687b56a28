/- The contract of the statements' own examples. -/
import Derived.Test.YtodoiobhphahcaaUnframe
import Derived.Lib.SlBytesConst
namespace Go.Proofs.Ytodoiobhphahcaa
open Go.RowKit

theorem frame_form (A : Option Addr) (c : Nat) (xs : List Int) (w : World) (h : Rd w A xs) (hb : Byt xs) (hl : xs.length ≤ 4096) {n : Nat} (hn : Hid ((frameB xs).length = n)) :
    Calls Try.prog 27 #[.slice A xs.length c] w fun e w' => ∃ A' c', e = .returned (.tuple #[.slice A' n c', .int .i64 0]) ∧ OwnB w' w.heap.size (.slice A' n c') (frameB xs) ∧ Below w.heap.size w w' :=
  (frame_yes A c xs w h hb hl).mono fun _ _ ⟨V, h1, h2, h3⟩ => by
    obtain ⟨A', c', rfl, _⟩ := Own.form h2
    rw [hn.out] at h1 h2
    exact ⟨A', c', h1, h2, h3⟩

theorem rd_marked (w : World) (xs : List Int) (U : TypeId) (m : Nat × Nat) : Rd (w.alloc (.cells (bv xs).toArray U m)) (some ⟨w.heap.size, 0, none⟩) xs := fun _ => by
  refine ⟨w.heap.size, 0, rfl, by simp, fun i hi => ?_⟩
  have h := cell_of_row (w.alloc (.cells (bv xs).toArray U m)) w.heap.size i (bv xs).toArray U m (heap_alloc_new w _)
  rw [Nat.zero_add, h]
  simp [bv, List.getElem?_eq_getElem hi, List.getD_eq_getElem?_getD]

set_option maxHeartbeats 400000 in
theorem awake_any (w : World) : Calls Try.prog 17 #[] w fun e w' => e = .returned (.bool true) ∧ Below w.heap.size w w' := by
  have hu : Hid (uintS [172, 2, 9] = (300, 2, 0)) := by show _ = _; decide
  have hc : Hid (crc [49, 50, 51, 52, 53, 54, 55, 56, 57] = 3421780262) := crc_example
  have b1 : Byt [172, 2, 9] := by intro x hx; simp at hx; omega
  have b2 : Byt [49, 50, 51, 52, 53, 54, 55, 56, 57] := by intro x hx; simp at hx; omega
  have kc := fun (W : World) (C : Array Value) (n c : Nat) => Lib.run_convert_bytes_const (P := Try.prog) W 23 5 C n c Try.underlying23 Try.underlying5
  have hf : Hid ((frameB []).length = 5) := by show _ = _; unfold frameB; simp [vint, putN, be4]
  go_enter Try.func17, Try.ntmps17
  go_wp2_with (first
    | (go_at_call 19; refine (uint_is (some ⟨w.heap.size, 0, none⟩) 3 [172, 2, 9] _ (rd_new w [172, 2, 9] _) b1 (by simp [maxLen]) hu).mono ?_; rintro e w1 ⟨rfl, rfl⟩)
    | (go_at_call 27; refine (frame_form none 0 [] _ (Rd.nil _ _) Byt.nil (by simp) hf).mono ?_; rintro e w2 ⟨A', c', rfl, ho, hb2⟩)
    | (go_at_call 25; refine (sum_is (some ⟨w2.heap.size, 0, none⟩) 9 [49, 50, 51, 52, 53, 54, 55, 56, 57] _ (rd_marked w2 [49, 50, 51, 52, 53, 54, 55, 56, 57] _ _) b2 (by simp [maxLen]) hc).mono ?_; rintro e w3 ⟨rfl, rfl⟩))
  go_ret
  have hb2' := hb2.mono (B' := w.heap.size) (by simp)
  exact ⟨rfl, ((below_new w _).trans hb2').alloc (by have := hb2'.size; simp at this; omega) _⟩
end Go.Proofs.Ytodoiobhphahcaa
