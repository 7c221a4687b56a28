/- Contract: the chapter's example (awake). -/
import Derived.Test.YtfcekfdoafpmoaaJp
import Derived.Test.YtfcekfdoafpmoaaJc
namespace Go.Proofs.Ytfcekfdoafpmoaa
open Go.RowKit
set_option linter.unusedVariables false
set_option linter.unusedSimpArgs false

abbrev awL : List Wt := [((0, 1, 1), (5, 0), 2, 0), ((1, 1, 1), (5, 0), 0, 0), ((2, 1, 1), (5, 0), 0, 0)]
abbrev awX : List Wt := [((0, 1, 1), (5, 0), 2, 0), ((3, 1, 1), (5, 0), 1, 0), ((1, 1, 1), (5, 0), 0, 1), ((2, 1, 1), (5, 0), 0, 1)]
theorem aw_c : inC awL ((3, 1, 1), (5, 0), 1, 0) = 0 := by decide
theorem aw_p : posW awL ((3, 1, 1), (5, 0), 1, 0) = 1 := by decide
theorem aw_x : putW awL ((3, 1, 1), (5, 0), 1, 0) 1 = awX := by decide
theorem aw_f : findW awX (3, 1, 1) = 1 := by decide
theorem aw_a : ahdW awX (2, 1, 1) = [(0, 1, 1), (3, 1, 1), (1, 1, 1)] := by decide
theorem wrd3 {w : World} {g : Nat} {x y z : Wt} (h1 : Z7 w g 0 x) (h2 : Z7 w g 7 y) (h3 : Z7 w g 14 z) : WRd w (some ⟨g, 0, none⟩) [x, y, z] := fun _ => ⟨g, 0, rfl, h1.lt, fun i hi => by
  have hc : i = 0 ∨ i = 1 ∨ i = 2 := by simp at hi; omega
  rcases hc with rfl | rfl | rfl
  · simpa using h1
  · simpa using h2
  · simpa using h3⟩
set_option maxHeartbeats 4000000 in
set_option maxRecDepth 20000 in
theorem awakeW_any (w : World) : Calls Try.prog 10 #[] w fun e w' => e = .returned (.bool true) ∧ Below w.heap.size w w' := by
  have p0 : Hid (pcN 0 = (0, 1, 1)) := Lib.hid (by decide)
  have p1 : Hid (pcN 1 = (1, 1, 1)) := Lib.hid (by decide)
  have p2 : Hid (pcN 2 = (2, 1, 1)) := Lib.hid (by decide)
  have p3 : Hid (pcN 3 = (3, 1, 1)) := Lib.hid (by decide)
  have f0 : Hid ((Lit.int .i64 0).wf = true) := Lib.hid (by decide)
  have f1 : Hid ((Lit.int .i64 1).wf = true) := Lib.hid (by decide)
  have f2 : Hid ((Lit.int .i64 2).wf = true) := Lib.hid (by decide)
  have f3 : Hid ((Lit.int .i64 3).wf = true) := Lib.hid (by decide)
  have HI : Hid (∀ (W : World) (A : Option Addr), WRd W A awL → Calls Try.prog 15 #[.slice A 3 3, wag 3 1 1 5 0 1 0] W fun e w' => (∃ A' c', e = .returned (.tuple #[.slice A' 4 c', .int .i64 1, .int .i64 0]) ∧ WRd w' A' awX ∧ 4 ≤ c') ∧ Below W.heap.size W w') := Lib.hid (fun W A h => (ins_ok A 3 3 awL 3 1 1 5 0 1 W h (Lib.hid rfl) (Lib.hid (by decide)) (by decide) (Lib.hid aw_c) (Lib.hid aw_p)).mono fun e w' ⟨⟨A', c', he, ho⟩, hb⟩ => by
    rw [aw_x] at ho
    obtain ⟨A2, c2, hv, hk, hr, -⟩ := ho.form
    injection hv with h1 h2 h3
    subst h1
    subst h3
    exact ⟨⟨A', c', he, hr, hk⟩, hb⟩)
  have HF : Hid (∀ (W : World) (A : Option Addr) (c : Nat), WRd W A awX → Calls Try.prog 20 #[.slice A 4 c, .agg #[.int .i64 3, .int .i64 1, .int .i64 1]] W fun e w' => e = .returned (.int .i64 1) ∧ Below W.heap.size W w') := Lib.hid (fun W A c h => find_is A 4 c awX 3 1 1 W h (Lib.hid rfl) (Lib.hid (by decide)) (Lib.hid aw_f))
  have HA : Hid (∀ (W : World) (A : Option Addr) (c : Nat), 4 ≤ c → WRd W A awX → Calls Try.prog 23 #[.slice A 4 c, .agg #[.int .i64 2, .int .i64 1, .int .i64 1]] W fun e w' => (∃ A' c', e = .returned (.slice A' 3 c') ∧ PRd w' A' [(0, 1, 1), (3, 1, 1), (1, 1, 1)]) ∧ Below W.heap.size W w') := Lib.hid (fun W A c h4 h => ahd_is A 4 c awX 2 1 1 W h (Lib.hid rfl) (Lib.hid (by decide)) h4 (Lib.hid aw_a) (Lib.hid rfl))
  have tok : True := trivial
  have tok2 : True := trivial
  go_enter Try.func10, Try.ntmps10
  go_wp2_with (first
    | (go_at_call 30; (with_reducible refine (claim_is 0 2 _ f0 p0).mono ?_); rintro e W1 ⟨rfl, hb1⟩; have HB1 := Lib.hid hb1; clear hb1)
    | (go_at_call 30; (with_reducible refine (claim_is 1 0 _ f1 p1).mono ?_); rintro e W2 ⟨rfl, hb2⟩; have HB2 := Lib.hid (nx HB1.out hb2); clear hb2)
    | (go_at_call 30; (with_reducible refine (claim_is 2 0 _ f2 p2).mono ?_); rintro e W3 ⟨rfl, hb3⟩; have HB3 := Lib.hid (nx HB2.out hb3); clear hb3)
    | (go_at_call 30; (with_reducible refine (claim_is 3 1 _ f3 p3).mono ?_); rintro e W4 ⟨rfl, hb4⟩; have HB4 := Lib.hid (nx (nxA HB3.out _) hb4); have HR4 : Hid (WRd W4 (some ⟨W3.heap.size, 0, none⟩) awL) := Lib.hid ((wrd3 (by unfold Z7; simp) (by unfold Z7; simp) (by unfold Z7; simp)).below hb4); clear hb4)
    | (go_at_call 15; (with_reducible refine (HI.out _ _ HR4.out).mono ?_); rintro e W5 ⟨⟨A5, c5, rfl, hr5, hc5⟩, hb5⟩; have HC5 := Lib.hid hc5; clear hc5; have HB5 := Lib.hid (nx HB4.out hb5); have HR5 := Lib.hid hr5; obtain ⟨g, o, rfl, hg, hz⟩ := hr5 (by simp); obtain ⟨-, -, -, -, -, -, a6⟩ := hz 0 (by decide); obtain ⟨-, -, -, -, -, -, b6⟩ := hz 2 (by decide); obtain ⟨-, -, -, -, -, -, d6⟩ := hz 3 (by decide); simp at a6 b6 d6; clear hz hb5)
    | (go_at_call 28; (with_reducible refine (proc_fn 3 _ f3 p3).mono ?_); rintro e W6 ⟨rfl, hb6⟩; have HR6 := Lib.hid (HR5.out.below hb6); have HB6 := Lib.hid (nx HB5.out hb6); clear hb6)
    | (go_at_call 20; (with_reducible refine (HF.out _ _ _ HR6.out).mono ?_); rintro e W7 ⟨rfl, hb7⟩; have HR7 := Lib.hid (HR6.out.below hb7); have HB7 := Lib.hid (nx HB6.out hb7); clear hb7)
    | (go_at_call 28; (with_reducible refine (proc_fn 2 _ f2 p2).mono ?_); rintro e W8 ⟨rfl, hb8⟩; have HR8 := Lib.hid (HR7.out.below hb8); have HB8 := Lib.hid (nx HB7.out hb8); clear hb8)
    | (go_at_call 23; (with_reducible refine (HA.out _ _ _ HC5.out HR8.out).mono ?_); rintro e W9 ⟨⟨A9, c9, rfl, hr9⟩, hb9⟩; have HB9 := Lib.hid (nx HB8.out hb9); clear hb9))
  go_ret
  exact ⟨rfl, HB9.out⟩
end Go.Proofs.Ytfcekfdoafpmoaa
