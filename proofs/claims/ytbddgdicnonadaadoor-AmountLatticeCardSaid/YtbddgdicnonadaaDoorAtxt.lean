/- Contracts: the texts of amounts. -/
import Derived.Test.YtbddgdicnonadaaDoorAval
import Derived.Test.YtbddgdicnonadaaDoorMfmt
import Derived.Laws.BytesArg
namespace Go.Proofs.YtbddgdicnonadaaDoor
open Go.RowKit
set_option linter.unusedSimpArgs false
set_option linter.unusedVariables false

theorem u_cases {a : Int} (h : 1 ≤ a ∧ a ≤ 8) : a = 1 ∨ a = 2 ∨ a = 3 ∨ a = 4 ∨ a = 5 ∨ a = 6 ∨ a = 7 ∨ a = 8 := by omega
def dg (n : Int) : ByteArray := ⟨#[UInt8.ofNat (48 + n.toNat)]⟩
theorem small_is (n : Int) (h : 1 ≤ n ∧ n ≤ 8) (w : World) : Calls Tryd.prog 51 #[.int .i64 n] w fun e w' => e = .returned (.string (dg n)) ∧ w = w' := by
  rcases u_cases h with rfl | rfl | rfl | rfl | rfl | rfl | rfl | rfl
  all_goals (
    clear h
    go_enter Tryd.func51, Tryd.ntmps51
    go_wp2
    go_ret
    exact ⟨rfl, rfl⟩)
theorem formatInt_is (n : Int) (h : 1 ≤ n ∧ n ≤ 8) (w : World) : Calls Tryd.prog 50 #[.int .i64 n, .int .i64 10] w fun e w' => e = .returned (.string (dg n)) ∧ w = w' := by
  have h0 : (0 : Int) ≤ n := by omega
  have h1 : n < 100 := by omega
  have H := Lib.hid h
  clear h
  go_enter Tryd.func50, Tryd.ntmps50
  go_wp2_with (first | (go_at_call 51; refine (small_is _ H.out _).mono ?_; rintro e W1 ⟨rfl, rfl⟩))
  go_ret
  exact ⟨rfl, rfl⟩
theorem itoaI_is (n : Int) (h : 1 ≤ n ∧ n ≤ 8) (w : World) : Calls Tryd.prog 49 #[.int .i64 n] w fun e w' => e = .returned (.string (dg n)) ∧ w = w' := by
  have H := Lib.hid h
  clear h
  go_enter Tryd.func49, Tryd.ntmps49
  go_wp2_with (first | (go_at_call 50; refine (formatInt_is _ H.out _).mono ?_; rintro e W1 ⟨rfl, rfl⟩))
  go_ret
  exact ⟨rfl, rfl⟩
theorem itoa_is (n : Int) (h : Hid (1 ≤ n ∧ n ≤ 8)) (w : World) {r : ByteArray} (hr : Hid (dg n = r)) : Calls Tryd.prog 44 #[.int .i64 n] w fun e w' => e = .returned (.string r) ∧ w = w' := by
  rw [← hr.out]
  clear hr
  go_enter Tryd.func44, Tryd.ntmps44
  go_wp2_with (first | (go_at_call 49; refine (itoaI_is _ h.out _).mono ?_; rintro e W1 ⟨rfl, rfl⟩))
  go_ret
  exact ⟨rfl, rfl⟩
theorem conv_one (W : World) (b : Nat) (x : Int) (h : W.cell? ⟨b, 0, none⟩ = some (.int .u8 x)) :
    (convert 51 9 (.slice (some ⟨b, 0, none⟩) 1 1)).run Tryd.prog W = .ok (.string (strOfNums [x])) W :=
  run_convert_bytes_arg W 51 5 Tryd.underlying51 Tryd.underlying5 b 0 1 1 [x] rfl (fun i hi => by
    obtain rfl : i = 0 := by simpa using hi
    simpa using h) 9 Tryd.underlying9
theorem decimal_is (n : Int) (h : Hid (1 ≤ n ∧ n ≤ 8)) (w : World) {r : ByteArray} (hr : Hid (dg n = r)) : Calls Tryd.prog 46 #[.int .i64 n] w fun e w' => e = .returned (.string r) ∧ Below w.heap.size w w' := by
  have hk := conv_one
  rw [← hr.out]
  clear hr
  rcases u_cases h.out with rfl | rfl | rfl | rfl | rfl | rfl | rfl | rfl
  all_goals (
    clear h
    go_enter Tryd.func46, Tryd.ntmps46
    go_wp2
    go_ret
    exact ⟨rfl, newB _ _⟩)
def fmA (m n : Int) : ByteArray := if m = 0 ∧ n = 0 then ⟨#[45]⟩ else if n = 0 then nmB m else if m = 0 ∧ 1 ≤ n ∧ n ≤ 8 then ⟨#[42, UInt8.ofNat (48 + n.toNat)]⟩ else ⟨#[]⟩
theorem pu_is (n : Int) (w : World) {r : Bool} (hr : Hid (pu n = r)) : Calls Tryd.prog 29 #[.int .i64 n] w fun e w' => e = .returned (.bool r) ∧ w = w' := by
  rw [← hr.out]; exact pu_any n w
theorem format_mode (a : Int) (w : World) (hV : Vars w) {r : ByteArray} (hr : Hid (nmB a = r)) : Calls Tryd.prog 43 #[.int .i64 a] w fun e w' => e = .returned (.string r) ∧ w = w' := by
  rw [← hr.out]; exact format_any a w hV
theorem refFormat_mode (a : Int) (w : World) {r : ByteArray} (hr : Hid (nmB a = r)) : Calls Tryd.prog 45 #[.int .i64 a] w fun e w' => e = .returned (.string r) ∧ w = w' := by
  rw [← hr.out]; exact refFormat_any a w

theorem fm_zero (w : World) (hV : Vars w) (hz : Hid (zer 0 0 = true)) : Calls Tryd.prog 27 #[aa 0 0] w fun e w' => e = .returned (.string ⟨#[45]⟩) ∧ Below w.heap.size w w' := by
  clear hV
  go_enter Tryd.func27, Tryd.ntmps27
  go_wp2_with (first
    | (go_at_call 15; refine (zero_is _ _ _ hz).mono ?_; rintro e W1 ⟨rfl, hb1⟩; obtain ⟨hc1, hf1⟩ := bcell hb1))
  all_goals (
    go_ret
    exact ⟨rfl, dn1 hb1⟩)
theorem fm_mode {m : Int} (w : World) (hV : Vars w) (hz : Hid (zer m 0 = false)) {r : ByteArray} (hr : Hid (nmB m = r)) : Calls Tryd.prog 27 #[aa m 0] w fun e w' => e = .returned (.string r) ∧ Below w.heap.size w w' := by
  have HV := Lib.hid hV
  clear hV
  go_enter Tryd.func27, Tryd.ntmps27
  go_wp2_with (first
    | (go_at_call 15; refine (zero_is _ _ _ hz).mono ?_; rintro e W1 ⟨rfl, hb1⟩; obtain ⟨hc1, hf1⟩ := bcell hb1)
    | (go_at_call 43; refine (format_mode _ _ (HV.out.below (dn1 hb1)) hr).mono ?_; rintro e W2 ⟨rfl, rfl⟩))
  all_goals (
    go_ret
    exact ⟨rfl, dn1 hb1⟩)
theorem fm_none1 {m n : Int} (w : World) (hV : Vars w) (hz : Hid (zer m n = false)) (hn : ¬ n = 0) (hm : ¬ m = 0) : Calls Tryd.prog 27 #[aa m n] w fun e w' => e = .returned (.string ⟨#[]⟩) ∧ Below w.heap.size w w' := by
  clear hV
  go_enter Tryd.func27, Tryd.ntmps27
  go_wp2_with (first
    | (go_at_call 15; refine (zero_is _ _ _ hz).mono ?_; rintro e W1 ⟨rfl, hb1⟩; obtain ⟨hc1, hf1⟩ := bcell hb1))
  all_goals (
    go_ret
    exact ⟨rfl, dn1 hb1⟩)
theorem fm_none2 {n : Int} (w : World) (hV : Vars w) (hz : Hid (zer 0 n = false)) (hn : ¬ n = 0) (hp : Hid (pu n = false)) : Calls Tryd.prog 27 #[aa 0 n] w fun e w' => e = .returned (.string ⟨#[]⟩) ∧ Below w.heap.size w w' := by
  clear hV
  go_enter Tryd.func27, Tryd.ntmps27
  go_wp2_with (first
    | (go_at_call 15; refine (zero_is _ _ _ hz).mono ?_; rintro e W1 ⟨rfl, hb1⟩; obtain ⟨hc1, hf1⟩ := bcell hb1)
    | (go_at_call 29; refine (pu_is _ _ hp).mono ?_; rintro e W2 ⟨rfl, rfl⟩))
  all_goals (
    go_ret
    exact ⟨rfl, dn1 hb1⟩)
theorem fm_u1 (w : World) (hV : Vars w) (hz : Hid (zer 0 1 = false)) (hp : Hid (pu 1 = true)) : Calls Tryd.prog 27 #[aa 0 1] w fun e w' => e = .returned (.string ⟨#[42, 49]⟩) ∧ Below w.heap.size w w' := by
  clear hV
  go_enter Tryd.func27, Tryd.ntmps27
  go_wp2_with (first
    | (go_at_call 15; refine (zero_is _ _ _ hz).mono ?_; rintro e W1 ⟨rfl, hb1⟩; obtain ⟨hc1, hf1⟩ := bcell hb1)
    | (go_at_call 29; refine (pu_is _ _ hp).mono ?_; rintro e W2 ⟨rfl, rfl⟩)
    | (go_at_call 44; refine (itoa_is 1 ⟨by decide, by decide⟩ _ (r := ⟨#[49]⟩) rfl).mono ?_; rintro e W2 ⟨rfl, rfl⟩))
  all_goals (
    go_ret
    exact ⟨rfl, dn1 hb1⟩)
theorem fm_u2 (w : World) (hV : Vars w) (hz : Hid (zer 0 2 = false)) (hp : Hid (pu 2 = true)) : Calls Tryd.prog 27 #[aa 0 2] w fun e w' => e = .returned (.string ⟨#[42, 50]⟩) ∧ Below w.heap.size w w' := by
  clear hV
  go_enter Tryd.func27, Tryd.ntmps27
  go_wp2_with (first
    | (go_at_call 15; refine (zero_is _ _ _ hz).mono ?_; rintro e W1 ⟨rfl, hb1⟩; obtain ⟨hc1, hf1⟩ := bcell hb1)
    | (go_at_call 29; refine (pu_is _ _ hp).mono ?_; rintro e W2 ⟨rfl, rfl⟩)
    | (go_at_call 44; refine (itoa_is 2 ⟨by decide, by decide⟩ _ (r := ⟨#[50]⟩) rfl).mono ?_; rintro e W2 ⟨rfl, rfl⟩))
  all_goals (
    go_ret
    exact ⟨rfl, dn1 hb1⟩)
theorem fm_u3 (w : World) (hV : Vars w) (hz : Hid (zer 0 3 = false)) (hp : Hid (pu 3 = true)) : Calls Tryd.prog 27 #[aa 0 3] w fun e w' => e = .returned (.string ⟨#[42, 51]⟩) ∧ Below w.heap.size w w' := by
  clear hV
  go_enter Tryd.func27, Tryd.ntmps27
  go_wp2_with (first
    | (go_at_call 15; refine (zero_is _ _ _ hz).mono ?_; rintro e W1 ⟨rfl, hb1⟩; obtain ⟨hc1, hf1⟩ := bcell hb1)
    | (go_at_call 29; refine (pu_is _ _ hp).mono ?_; rintro e W2 ⟨rfl, rfl⟩)
    | (go_at_call 44; refine (itoa_is 3 ⟨by decide, by decide⟩ _ (r := ⟨#[51]⟩) rfl).mono ?_; rintro e W2 ⟨rfl, rfl⟩))
  all_goals (
    go_ret
    exact ⟨rfl, dn1 hb1⟩)
theorem fm_u4 (w : World) (hV : Vars w) (hz : Hid (zer 0 4 = false)) (hp : Hid (pu 4 = true)) : Calls Tryd.prog 27 #[aa 0 4] w fun e w' => e = .returned (.string ⟨#[42, 52]⟩) ∧ Below w.heap.size w w' := by
  clear hV
  go_enter Tryd.func27, Tryd.ntmps27
  go_wp2_with (first
    | (go_at_call 15; refine (zero_is _ _ _ hz).mono ?_; rintro e W1 ⟨rfl, hb1⟩; obtain ⟨hc1, hf1⟩ := bcell hb1)
    | (go_at_call 29; refine (pu_is _ _ hp).mono ?_; rintro e W2 ⟨rfl, rfl⟩)
    | (go_at_call 44; refine (itoa_is 4 ⟨by decide, by decide⟩ _ (r := ⟨#[52]⟩) rfl).mono ?_; rintro e W2 ⟨rfl, rfl⟩))
  all_goals (
    go_ret
    exact ⟨rfl, dn1 hb1⟩)
theorem fm_u5 (w : World) (hV : Vars w) (hz : Hid (zer 0 5 = false)) (hp : Hid (pu 5 = true)) : Calls Tryd.prog 27 #[aa 0 5] w fun e w' => e = .returned (.string ⟨#[42, 53]⟩) ∧ Below w.heap.size w w' := by
  clear hV
  go_enter Tryd.func27, Tryd.ntmps27
  go_wp2_with (first
    | (go_at_call 15; refine (zero_is _ _ _ hz).mono ?_; rintro e W1 ⟨rfl, hb1⟩; obtain ⟨hc1, hf1⟩ := bcell hb1)
    | (go_at_call 29; refine (pu_is _ _ hp).mono ?_; rintro e W2 ⟨rfl, rfl⟩)
    | (go_at_call 44; refine (itoa_is 5 ⟨by decide, by decide⟩ _ (r := ⟨#[53]⟩) rfl).mono ?_; rintro e W2 ⟨rfl, rfl⟩))
  all_goals (
    go_ret
    exact ⟨rfl, dn1 hb1⟩)
theorem fm_u6 (w : World) (hV : Vars w) (hz : Hid (zer 0 6 = false)) (hp : Hid (pu 6 = true)) : Calls Tryd.prog 27 #[aa 0 6] w fun e w' => e = .returned (.string ⟨#[42, 54]⟩) ∧ Below w.heap.size w w' := by
  clear hV
  go_enter Tryd.func27, Tryd.ntmps27
  go_wp2_with (first
    | (go_at_call 15; refine (zero_is _ _ _ hz).mono ?_; rintro e W1 ⟨rfl, hb1⟩; obtain ⟨hc1, hf1⟩ := bcell hb1)
    | (go_at_call 29; refine (pu_is _ _ hp).mono ?_; rintro e W2 ⟨rfl, rfl⟩)
    | (go_at_call 44; refine (itoa_is 6 ⟨by decide, by decide⟩ _ (r := ⟨#[54]⟩) rfl).mono ?_; rintro e W2 ⟨rfl, rfl⟩))
  all_goals (
    go_ret
    exact ⟨rfl, dn1 hb1⟩)
theorem fm_u7 (w : World) (hV : Vars w) (hz : Hid (zer 0 7 = false)) (hp : Hid (pu 7 = true)) : Calls Tryd.prog 27 #[aa 0 7] w fun e w' => e = .returned (.string ⟨#[42, 55]⟩) ∧ Below w.heap.size w w' := by
  clear hV
  go_enter Tryd.func27, Tryd.ntmps27
  go_wp2_with (first
    | (go_at_call 15; refine (zero_is _ _ _ hz).mono ?_; rintro e W1 ⟨rfl, hb1⟩; obtain ⟨hc1, hf1⟩ := bcell hb1)
    | (go_at_call 29; refine (pu_is _ _ hp).mono ?_; rintro e W2 ⟨rfl, rfl⟩)
    | (go_at_call 44; refine (itoa_is 7 ⟨by decide, by decide⟩ _ (r := ⟨#[55]⟩) rfl).mono ?_; rintro e W2 ⟨rfl, rfl⟩))
  all_goals (
    go_ret
    exact ⟨rfl, dn1 hb1⟩)
theorem fm_u8 (w : World) (hV : Vars w) (hz : Hid (zer 0 8 = false)) (hp : Hid (pu 8 = true)) : Calls Tryd.prog 27 #[aa 0 8] w fun e w' => e = .returned (.string ⟨#[42, 56]⟩) ∧ Below w.heap.size w w' := by
  clear hV
  go_enter Tryd.func27, Tryd.ntmps27
  go_wp2_with (first
    | (go_at_call 15; refine (zero_is _ _ _ hz).mono ?_; rintro e W1 ⟨rfl, hb1⟩; obtain ⟨hc1, hf1⟩ := bcell hb1)
    | (go_at_call 29; refine (pu_is _ _ hp).mono ?_; rintro e W2 ⟨rfl, rfl⟩)
    | (go_at_call 44; refine (itoa_is 8 ⟨by decide, by decide⟩ _ (r := ⟨#[56]⟩) rfl).mono ?_; rintro e W2 ⟨rfl, rfl⟩))
  all_goals (
    go_ret
    exact ⟨rfl, dn1 hb1⟩)
theorem refFm_zero (w : World) (hV : Vars w) (hz : Hid (zer 0 0 = true)) : Calls Tryd.prog 28 #[aa 0 0] w fun e w' => e = .returned (.string ⟨#[45]⟩) ∧ Below w.heap.size w w' := by
  clear hV
  go_enter Tryd.func28, Tryd.ntmps28
  go_wp2_with (first
    | (go_at_call 34; refine (refZero_is _ _ _ hz).mono ?_; rintro e W1 ⟨rfl, hb1⟩; obtain ⟨hc1, hf1⟩ := bcell hb1))
  all_goals (
    go_ret
    exact ⟨rfl, dn1 hb1⟩)
theorem refFm_mode {m : Int} (w : World) (hV : Vars w) (hz : Hid (zer m 0 = false)) {r : ByteArray} (hr : Hid (nmB m = r)) : Calls Tryd.prog 28 #[aa m 0] w fun e w' => e = .returned (.string r) ∧ Below w.heap.size w w' := by
  have HV := Lib.hid hV
  clear hV
  go_enter Tryd.func28, Tryd.ntmps28
  go_wp2_with (first
    | (go_at_call 34; refine (refZero_is _ _ _ hz).mono ?_; rintro e W1 ⟨rfl, hb1⟩; obtain ⟨hc1, hf1⟩ := bcell hb1)
    | (go_at_call 45; refine (refFormat_mode _ _ hr).mono ?_; rintro e W2 ⟨rfl, rfl⟩))
  all_goals (
    go_ret
    exact ⟨rfl, dn1 hb1⟩)
theorem refFm_none1 {m n : Int} (w : World) (hV : Vars w) (hz : Hid (zer m n = false)) (hn : ¬ n = 0) (hm : ¬ m = 0) : Calls Tryd.prog 28 #[aa m n] w fun e w' => e = .returned (.string ⟨#[]⟩) ∧ Below w.heap.size w w' := by
  clear hV
  go_enter Tryd.func28, Tryd.ntmps28
  go_wp2_with (first
    | (go_at_call 34; refine (refZero_is _ _ _ hz).mono ?_; rintro e W1 ⟨rfl, hb1⟩; obtain ⟨hc1, hf1⟩ := bcell hb1))
  all_goals (
    go_ret
    exact ⟨rfl, dn1 hb1⟩)
theorem refFm_none2 {n : Int} (w : World) (hV : Vars w) (hz : Hid (zer 0 n = false)) (hn : ¬ n = 0) (hm : ¬ (1 ≤ n ∧ n ≤ 8)) : Calls Tryd.prog 28 #[aa 0 n] w fun e w' => e = .returned (.string ⟨#[]⟩) ∧ Below w.heap.size w w' := by
  clear hV
  have hk : n < 1 ∨ 8 < n := by omega
  clear hm
  rcases hk with hk | hk
  all_goals (
    go_enter Tryd.func28, Tryd.ntmps28
    go_wp2_with (first
      | (go_at_call 34; refine (refZero_is _ _ _ hz).mono ?_; rintro e W1 ⟨rfl, hb1⟩; obtain ⟨hc1, hf1⟩ := bcell hb1))
    all_goals (
      go_ret
      exact ⟨rfl, dn1 hb1⟩))
theorem refFm_u1 (w : World) (hV : Vars w) (hz : Hid (zer 0 1 = false)) : Calls Tryd.prog 28 #[aa 0 1] w fun e w' => e = .returned (.string ⟨#[42, 49]⟩) ∧ Below w.heap.size w w' := by
  clear hV
  go_enter Tryd.func28, Tryd.ntmps28
  go_wp2_with (first
    | (go_at_call 34; refine (refZero_is _ _ _ hz).mono ?_; rintro e W1 ⟨rfl, hb1⟩; obtain ⟨hc1, hf1⟩ := bcell hb1)
    | (go_at_call 46; refine (decimal_is 1 ⟨by decide, by decide⟩ _ (r := ⟨#[49]⟩) rfl).mono ?_; rintro e W2 ⟨rfl, hb2⟩))
  all_goals (
    go_ret
    exact ⟨rfl, dn1 (nx hb1 hb2)⟩)
theorem refFm_u2 (w : World) (hV : Vars w) (hz : Hid (zer 0 2 = false)) : Calls Tryd.prog 28 #[aa 0 2] w fun e w' => e = .returned (.string ⟨#[42, 50]⟩) ∧ Below w.heap.size w w' := by
  clear hV
  go_enter Tryd.func28, Tryd.ntmps28
  go_wp2_with (first
    | (go_at_call 34; refine (refZero_is _ _ _ hz).mono ?_; rintro e W1 ⟨rfl, hb1⟩; obtain ⟨hc1, hf1⟩ := bcell hb1)
    | (go_at_call 46; refine (decimal_is 2 ⟨by decide, by decide⟩ _ (r := ⟨#[50]⟩) rfl).mono ?_; rintro e W2 ⟨rfl, hb2⟩))
  all_goals (
    go_ret
    exact ⟨rfl, dn1 (nx hb1 hb2)⟩)
theorem refFm_u3 (w : World) (hV : Vars w) (hz : Hid (zer 0 3 = false)) : Calls Tryd.prog 28 #[aa 0 3] w fun e w' => e = .returned (.string ⟨#[42, 51]⟩) ∧ Below w.heap.size w w' := by
  clear hV
  go_enter Tryd.func28, Tryd.ntmps28
  go_wp2_with (first
    | (go_at_call 34; refine (refZero_is _ _ _ hz).mono ?_; rintro e W1 ⟨rfl, hb1⟩; obtain ⟨hc1, hf1⟩ := bcell hb1)
    | (go_at_call 46; refine (decimal_is 3 ⟨by decide, by decide⟩ _ (r := ⟨#[51]⟩) rfl).mono ?_; rintro e W2 ⟨rfl, hb2⟩))
  all_goals (
    go_ret
    exact ⟨rfl, dn1 (nx hb1 hb2)⟩)
theorem refFm_u4 (w : World) (hV : Vars w) (hz : Hid (zer 0 4 = false)) : Calls Tryd.prog 28 #[aa 0 4] w fun e w' => e = .returned (.string ⟨#[42, 52]⟩) ∧ Below w.heap.size w w' := by
  clear hV
  go_enter Tryd.func28, Tryd.ntmps28
  go_wp2_with (first
    | (go_at_call 34; refine (refZero_is _ _ _ hz).mono ?_; rintro e W1 ⟨rfl, hb1⟩; obtain ⟨hc1, hf1⟩ := bcell hb1)
    | (go_at_call 46; refine (decimal_is 4 ⟨by decide, by decide⟩ _ (r := ⟨#[52]⟩) rfl).mono ?_; rintro e W2 ⟨rfl, hb2⟩))
  all_goals (
    go_ret
    exact ⟨rfl, dn1 (nx hb1 hb2)⟩)
theorem refFm_u5 (w : World) (hV : Vars w) (hz : Hid (zer 0 5 = false)) : Calls Tryd.prog 28 #[aa 0 5] w fun e w' => e = .returned (.string ⟨#[42, 53]⟩) ∧ Below w.heap.size w w' := by
  clear hV
  go_enter Tryd.func28, Tryd.ntmps28
  go_wp2_with (first
    | (go_at_call 34; refine (refZero_is _ _ _ hz).mono ?_; rintro e W1 ⟨rfl, hb1⟩; obtain ⟨hc1, hf1⟩ := bcell hb1)
    | (go_at_call 46; refine (decimal_is 5 ⟨by decide, by decide⟩ _ (r := ⟨#[53]⟩) rfl).mono ?_; rintro e W2 ⟨rfl, hb2⟩))
  all_goals (
    go_ret
    exact ⟨rfl, dn1 (nx hb1 hb2)⟩)
theorem refFm_u6 (w : World) (hV : Vars w) (hz : Hid (zer 0 6 = false)) : Calls Tryd.prog 28 #[aa 0 6] w fun e w' => e = .returned (.string ⟨#[42, 54]⟩) ∧ Below w.heap.size w w' := by
  clear hV
  go_enter Tryd.func28, Tryd.ntmps28
  go_wp2_with (first
    | (go_at_call 34; refine (refZero_is _ _ _ hz).mono ?_; rintro e W1 ⟨rfl, hb1⟩; obtain ⟨hc1, hf1⟩ := bcell hb1)
    | (go_at_call 46; refine (decimal_is 6 ⟨by decide, by decide⟩ _ (r := ⟨#[54]⟩) rfl).mono ?_; rintro e W2 ⟨rfl, hb2⟩))
  all_goals (
    go_ret
    exact ⟨rfl, dn1 (nx hb1 hb2)⟩)
theorem refFm_u7 (w : World) (hV : Vars w) (hz : Hid (zer 0 7 = false)) : Calls Tryd.prog 28 #[aa 0 7] w fun e w' => e = .returned (.string ⟨#[42, 55]⟩) ∧ Below w.heap.size w w' := by
  clear hV
  go_enter Tryd.func28, Tryd.ntmps28
  go_wp2_with (first
    | (go_at_call 34; refine (refZero_is _ _ _ hz).mono ?_; rintro e W1 ⟨rfl, hb1⟩; obtain ⟨hc1, hf1⟩ := bcell hb1)
    | (go_at_call 46; refine (decimal_is 7 ⟨by decide, by decide⟩ _ (r := ⟨#[55]⟩) rfl).mono ?_; rintro e W2 ⟨rfl, hb2⟩))
  all_goals (
    go_ret
    exact ⟨rfl, dn1 (nx hb1 hb2)⟩)
theorem refFm_u8 (w : World) (hV : Vars w) (hz : Hid (zer 0 8 = false)) : Calls Tryd.prog 28 #[aa 0 8] w fun e w' => e = .returned (.string ⟨#[42, 56]⟩) ∧ Below w.heap.size w w' := by
  clear hV
  go_enter Tryd.func28, Tryd.ntmps28
  go_wp2_with (first
    | (go_at_call 34; refine (refZero_is _ _ _ hz).mono ?_; rintro e W1 ⟨rfl, hb1⟩; obtain ⟨hc1, hf1⟩ := bcell hb1)
    | (go_at_call 46; refine (decimal_is 8 ⟨by decide, by decide⟩ _ (r := ⟨#[56]⟩) rfl).mono ?_; rintro e W2 ⟨rfl, hb2⟩))
  all_goals (
    go_ret
    exact ⟨rfl, dn1 (nx hb1 hb2)⟩)
theorem formatA_is (m n : Int) (w : World) (hV : Vars w) {r : ByteArray} (hr : Hid (fmA m n = r)) : Calls Tryd.prog 27 #[aa m n] w fun e w' => e = .returned (.string r) ∧ Below w.heap.size w w' := by
  rw [← hr.out]
  clear hr
  unfold fmA
  by_cases h0 : m = 0 ∧ n = 0
  · rw [if_pos h0]
    obtain ⟨rfl, rfl⟩ := h0
    exact fm_zero w hV (by show _ = _; decide)
  · rw [if_neg h0]
    have hz : zer m n = false := decide_eq_false h0
    by_cases hn : n = 0
    · subst hn
      rw [if_pos rfl]
      exact fm_mode w hV hz rfl
    · rw [if_neg hn]
      by_cases hm : m = 0
      · subst hm
        by_cases hu : 1 ≤ n ∧ n ≤ 8
        · rw [if_pos ⟨rfl, hu⟩]
          rcases u_cases hu with rfl | rfl | rfl | rfl | rfl | rfl | rfl | rfl
          · exact fm_u1 w hV (by show _ = _; decide) (by show _ = _; decide)
          · exact fm_u2 w hV (by show _ = _; decide) (by show _ = _; decide)
          · exact fm_u3 w hV (by show _ = _; decide) (by show _ = _; decide)
          · exact fm_u4 w hV (by show _ = _; decide) (by show _ = _; decide)
          · exact fm_u5 w hV (by show _ = _; decide) (by show _ = _; decide)
          · exact fm_u6 w hV (by show _ = _; decide) (by show _ = _; decide)
          · exact fm_u7 w hV (by show _ = _; decide) (by show _ = _; decide)
          · exact fm_u8 w hV (by show _ = _; decide) (by show _ = _; decide)
        · rw [if_neg (fun e => hu e.2)]
          exact fm_none2 w hV hz hn (by show _ = _; exact decide_eq_false hu)
      · rw [if_neg (fun e => hm e.1)]
        exact fm_none1 w hV hz hn hm
theorem refFormatA_is (m n : Int) (w : World) (hV : Vars w) {r : ByteArray} (hr : Hid (fmA m n = r)) : Calls Tryd.prog 28 #[aa m n] w fun e w' => e = .returned (.string r) ∧ Below w.heap.size w w' := by
  rw [← hr.out]
  clear hr
  unfold fmA
  by_cases h0 : m = 0 ∧ n = 0
  · rw [if_pos h0]
    obtain ⟨rfl, rfl⟩ := h0
    exact refFm_zero w hV (by show _ = _; decide)
  · rw [if_neg h0]
    have hz : zer m n = false := decide_eq_false h0
    by_cases hn : n = 0
    · subst hn
      rw [if_pos rfl]
      exact refFm_mode w hV hz rfl
    · rw [if_neg hn]
      by_cases hm : m = 0
      · subst hm
        by_cases hu : 1 ≤ n ∧ n ≤ 8
        · rw [if_pos ⟨rfl, hu⟩]
          rcases u_cases hu with rfl | rfl | rfl | rfl | rfl | rfl | rfl | rfl
          · exact refFm_u1 w hV (by show _ = _; decide)
          · exact refFm_u2 w hV (by show _ = _; decide)
          · exact refFm_u3 w hV (by show _ = _; decide)
          · exact refFm_u4 w hV (by show _ = _; decide)
          · exact refFm_u5 w hV (by show _ = _; decide)
          · exact refFm_u6 w hV (by show _ = _; decide)
          · exact refFm_u7 w hV (by show _ = _; decide)
          · exact refFm_u8 w hV (by show _ = _; decide)
        · rw [if_neg (fun e => hu e.2)]
          exact refFm_none2 w hV hz hn hu
      · rw [if_neg (fun e => hm e.1)]
        exact refFm_none1 w hV hz hn hm
end Go.Proofs.YtbddgdicnonadaaDoor
