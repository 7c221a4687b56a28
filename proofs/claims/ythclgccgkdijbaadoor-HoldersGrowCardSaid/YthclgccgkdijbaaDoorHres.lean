/- Contract of the mill: Resource makes a shaped resource. -/
import Derived.Test.YthclgccgkdijbaaDoorHmf
namespace Go.Proofs.YthclgccgkdijbaaDoor
open Go.RowKit
open Go.Sort (grow)
set_option linter.unusedVariables false
set_option linter.unusedSimpArgs false

theorem RRd.at_ {w : World} {A : Option Addr} {l : List P4} (h : RRd w A l) {i : Nat} (hi : i < l.length) :
    ∃ b o s k u hm, A = some ⟨b, o, none⟩ ∧ b < w.heap.size ∧ Hid (l.getD i default = (s, k, u, hm)) ∧ w.cell? ⟨b, o + i * 4, none⟩ = some (.string s) ∧ w.cell? ⟨b, o + i * 4 + 1, none⟩ = some (.int .i64 k) ∧ w.cell? ⟨b, o + i * 4 + 2, none⟩ = some (.int .i64 u) ∧ w.cell? ⟨b, o + i * 4 + 3, none⟩ = some (.int .i64 hm) := by
  obtain ⟨b, o, hA, hb, hc⟩ := h (by rintro rfl; simp at hi)
  obtain ⟨h1, h2, h3, h4⟩ := hc i hi
  exact ⟨b, o, _, _, _, _, hA, hb, rfl, h1, h2, h3, h4⟩
theorem wf_of {n : Int} (h1 : -9223372036854775808 ≤ n) (h2 : n ≤ 9223372036854775807) : (Lit.int .i64 n).wf = true := Bool.and_eq_true_iff.2 ⟨decide_eq_true h1, decide_eq_true h2⟩
theorem wf_divs {n : Int} (h : (Lit.int .i64 n).wf = true) : (Lit.int .i64 (n / 4)).wf = true ∧ (Lit.int .i64 (n / 8)).wf = true ∧ (Lit.int .i64 (n / 16)).wf = true ∧ (Lit.int .i64 (n / 64)).wf = true ∧ (Lit.int .i64 (n / 256)).wf = true ∧ (Lit.int .i64 (n / 1024)).wf = true ∧ (Lit.int .i64 (n / 4096)).wf = true ∧ (Lit.int .i64 (n / 16384)).wf = true := by
  have h1 := i64_wf h
  exact ⟨wf_of (by omega) (by omega), wf_of (by omega) (by omega), wf_of (by omega) (by omega), wf_of (by omega) (by omega), wf_of (by omega) (by omega), wf_of (by omega) (by omega), wf_of (by omega) (by omega), wf_of (by omega) (by omega)⟩
def tape8 (n : Int) : List Int := [n, n / 4, n / 16, n / 64, n / 256, n / 1024, n / 4096, n / 16384]
theorem tape8_wf {n : Int} (h : (Lit.int .i64 n).wf = true) : ∀ x ∈ tape8 n, (Lit.int .i64 x).wf = true := by
  obtain ⟨h1, -, h2, h3, h4, h5, h6, h7⟩ := wf_divs h
  intro x hx
  simp only [tape8, List.mem_cons, List.not_mem_nil, or_false] at hx
  rcases hx with rfl | rfl | rfl | rfl | rfl | rfl | rfl | rfl
  · exact h
  · exact h1
  · exact h2
  · exact h3
  · exact h4
  · exact h5
  · exact h6
  · exact h7
abbrev rz : Obj := .cells #[.string ⟨#[]⟩, .int .i64 0, .int .i64 0, .int .i64 0] 23
abbrev tz (n : Int) : Obj := .cells #[.int .i64 n, .int .i64 (n / 4), .int .i64 (n / 16), .int .i64 (n / 64), .int .i64 (n / 256), .int .i64 (n / 1024), .int .i64 (n / 4096), .int .i64 (n / 16384)] 3
abbrev pz (g : Nat) : Obj := .cells #[.slice (some ⟨g, 0, none⟩) 8 8, .int .i64 0] 67
theorem tape_new (n : Int) (w : World) (hn : (Lit.int .i64 n).wf = true) : Tp (((w.alloc rz).alloc (tz n)).alloc (pz (w.heap.size + 1))) (w.heap.size + 1 + 1) := by
  have hP : Blk (((w.alloc rz).alloc (tz n)).alloc (pz (w.heap.size + 1))) (w.heap.size + 1 + 1) [.slice (some ⟨w.heap.size + 1, 0, none⟩) 8 8, .int .i64 0] := Blk.new _ _ _ (by simp)
  have hT : Blk (((w.alloc rz).alloc (tz n)).alloc (pz (w.heap.size + 1))) (w.heap.size + 1) [.int .i64 n, .int .i64 (n / 4), .int .i64 (n / 16), .int .i64 (n / 64), .int .i64 (n / 256), .int .i64 (n / 1024), .int .i64 (n / 4096), .int .i64 (n / 16384)] := (Blk.new (w.alloc rz) _ _ (by simp)).grow _
  refine ⟨some ⟨w.heap.size + 1, 0, none⟩, 8, 8, tape8 n, 0, ⟨hP.lt, hP.cell 0 rfl, hP.cell 1 rfl, hP.fz, rfl, fun _ => ⟨w.heap.size + 1, 0, rfl, by omega, fun j hj => ?_⟩, tape8_wf hn, by omega, by omega, by omega⟩⟩
  rw [Nat.zero_add]
  have hc : j = 0 ∨ j = 1 ∨ j = 2 ∨ j = 3 ∨ j = 4 ∨ j = 5 ∨ j = 6 ∨ j = 7 := by omega
  rcases hc with rfl | rfl | rfl | rfl | rfl | rfl | rfl | rfl
  · exact hT.cell 0 rfl
  · exact hT.cell 1 rfl
  · exact hT.cell 2 rfl
  · exact hT.cell 3 rfl
  · exact hT.cell 4 rfl
  · exact hT.cell 5 rfl
  · exact hT.cell 6 rfl
  · exact hT.cell 7 rfl
set_option maxHeartbeats 4000000 in
set_option maxRecDepth 20000 in
theorem resource_any (n : Int) (w : World) (hn : Hid ((Lit.int .i64 n).wf = true)) :
    Calls Tryd.prog 23 #[.int .i64 n] w fun e w' => (∃ (s : ByteArray) (k u h : Int), shp k u = true ∧ e = .returned (ra s k u h)) ∧ Below w.heap.size w w' := by
  have HT := Lib.hid (tape_new n w hn.out)
  have HB0 : Hid (Below w.heap.size w (((w.alloc rz).alloc (tz n)).alloc (pz (w.heap.size + 1)))) := Lib.hid (nxA (nxA (newB _ _) _) _)
  have HK0 : Hid (Blk (((w.alloc rz).alloc (tz n)).alloc (pz (w.heap.size + 1))) w.heap.size [.string ⟨#[]⟩, .int .i64 0, .int .i64 0, .int .i64 0]) := Lib.hid (((Blk.new w [.string ⟨#[]⟩, .int .i64 0, .int .i64 0, .int .i64 0] 23 rfl).grow _).grow _)
  obtain ⟨i, hi, hi6⟩ := mod_nat n 6 (by omega)
  have hi6' : i < 6 := by omega
  clear hi6
  go_enter Tryd.func23, Tryd.ntmps23
  go_upto_region 3 with (go_at_call 48; refine (catalog_any (w.heap.size + 1 + 1) _ HT.out).mono ?_; rintro e W1 ⟨⟨A1, c1, l1, rfl, hl1, hC1, hO1⟩, hT1, hF1⟩; have HL1 := Lib.hid hl1; have HC1 := Lib.hid hC1; have HO1 := Lib.hid hO1; have HK1 : Hid (Blk W1 w.heap.size [.string ⟨#[]⟩, .int .i64 0, .int .i64 0, .int .i64 0]) := Lib.hid (HK0.out.of (hF1.block w.heap.size HK0.out.lt (by intro h; injection h with h; omega))); have HB1 : Hid (Below w.heap.size w W1) := Lib.hid (HB0.out.grown hF1 (by simp; omega) (fun k hk => by injection hk with hk; omega)); clear hl1 hC1 hO1 hT1 hF1)
  obtain ⟨A2, c2, hv2, -, hr2, -⟩ := HO1.out.form
  obtain ⟨rfl, -, rfl⟩ : A1 = A2 ∧ 6 = l1.length ∧ c1 = c2 := by simpa using hv2
  obtain ⟨g, o, s, k, u, h, rfl, hg, hx, d1, d2, d3, d4⟩ := hr2.at_ (i := i) (by rw [HL1.out]; exact hi6')
  have HSH : Hid (shp k u = true) := Lib.hid (by
    have h1 := (HC1.out i (by rw [HL1.out]; exact hi6')).2.1
    rw [hx.out] at h1
    exact h1)
  have hi6i : (i : Int) < 6 := by omega
  have z0 := HK1.out.cell 0 rfl
  have z1 := HK1.out.cell 1 rfl
  have z2 := HK1.out.cell 2 rfl
  have z3 := HK1.out.cell 3 rfl
  have zf := HK1.out.fz
  have zl := HK1.out.lt
  clear hv2 hr2
  go_wp2_with (go_at_call 49; refine (mod_is n 6 _ hn.out (by omega) (by omega) hi).mono ?_; rintro e W2 ⟨rfl, rfl⟩)
  refine bodyPost_ret (v := ra s k u h) (by simp [results, Tryd.results23, go_sem, z0, z1, z2, z3, zf, zl]) rfl ⟨⟨s, k, u, h, HSH.out, rfl⟩, ?_⟩
  exact (((HB1.out.setCell (p := ⟨w.heap.size, 0, none⟩) (Nat.le_refl _) _).setCell (p := ⟨w.heap.size, 1, none⟩) (Nat.le_refl _) _).setCell (p := ⟨w.heap.size, 2, none⟩) (Nat.le_refl _) _).setCell (p := ⟨w.heap.size, 3, none⟩) (Nat.le_refl _) _
end Go.Proofs.YthclgccgkdijbaaDoor
