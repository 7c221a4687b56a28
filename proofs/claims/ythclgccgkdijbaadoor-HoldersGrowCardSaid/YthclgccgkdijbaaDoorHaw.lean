/- Contract: the chapter's example (awake). -/
import Derived.Test.YthclgccgkdijbaaDoorHag
namespace Go.Proofs.YthclgccgkdijbaaDoor
open Go.RowKit
set_option linter.unusedVariables false
set_option linter.unusedSimpArgs false

abbrev aP : Pr3 := (0, 1, 1)
abbrev aQ : Pr3 := (0, 1, 2)
abbrev aL1 : List Hd := [(aQ, (1, 0))]
abbrev aL : List Hd := [(aP, (2, 0)), (aQ, (1, 0))]
theorem vh_dec {l : List Hd} (h2 : l.length ≤ 8) (h3 : ∀ h ∈ l, vpP h.1 = true ∧ fit 1 1 h.2.1 h.2.2 = true) (h4 : AscH l) (h5 : ∀ a ∈ amtH l, per 1 1 a.1 a.2 = true) (h6 : frs (amtH l)) : VH 1 1 l :=
  ⟨by decide, h2, h3, h4, by decide, h5, fun _ => h6, fun h => by omega⟩
theorem aw_set1 : setH [] aQ (1, 0) = aL1 := by decide
theorem aw_set2 : setH aL1 aP (2, 0) = aL := by decide
theorem aw_valid : VH 1 1 aL := vh_dec (by decide) (by decide) (by unfold AscH; decide) (by decide) (by unfold frs; decide)
theorem aw_room : RoomH 1 1 aL aQ (2, 0) := ⟨aw_valid, by decide, by decide, by
  rw [show setH aL aQ (2, 0) = [(aP, (2, 0)), (aQ, (2, 0))] by decide]
  exact vh_dec (by decide) (by decide) (by unfold AscH; decide) (by decide) (by unfold frs; decide)⟩
theorem aw_not : ¬ RoomH 1 1 aL aQ (3, 0) := fun h => by
  have h1 := h.2.2.2.2.2.2.2.2.2.1 rfl
  rw [show setH aL aQ (3, 0) = [(aP, (2, 0)), (aQ, (3, 0))] by decide] at h1
  have h2 := (List.pairwise_cons.1 h1).1 (3, 0) (by decide)
  exact absurd h2 (by decide)
theorem aw_agn : AgR 1 1 aL aQ (3, 0) [aP] := ⟨fun _ => by decide, fun h => absurd ⟨⟨aw_valid, by decide, by decide⟩, aw_not⟩ h⟩
set_option maxHeartbeats 4000000 in
set_option maxRecDepth 20000 in
theorem awakeH_any (w : World) (hV : Vars w) : Calls Tryd.prog 11 #[] w fun e w' => e = .returned (.bool true) ∧ Below w.heap.size w w' := by
  have HV := Lib.hid hV
  have mixed : Tryd.prog.follows .mixedOrders = true := by kernel_rfl
  have HK0 := Lib.hid (Blk.new w [.string ⟨#[97]⟩, .int .i64 1, .int .i64 1, .int .i64 0] 23 rfl)
  have HK1 := Lib.hid (Blk.new (w.alloc (.cells #[.string ⟨#[97]⟩, .int .i64 1, .int .i64 1, .int .i64 0] 23)) [.int .i64 0, .int .i64 1, .int .i64 1] 26 (g := w.heap.size + 1) (by simp))
  have HK2 := Lib.hid (Blk.new ((w.alloc (.cells #[.string ⟨#[97]⟩, .int .i64 1, .int .i64 1, .int .i64 0] 23)).alloc (.cells #[.int .i64 0, .int .i64 1, .int .i64 1] 26)) [.int .i64 0, .int .i64 1, .int .i64 2] 26 (g := w.heap.size + 1 + 1) (by simp))
  have HK0' := Lib.hid ((HK0.out.grow (.cells #[.int .i64 0, .int .i64 1, .int .i64 1] 26)).grow (.cells #[.int .i64 0, .int .i64 1, .int .i64 2] 26))
  have HK1' := Lib.hid (HK1.out.grow (.cells #[.int .i64 0, .int .i64 1, .int .i64 2] 26))
  obtain ⟨W0, hW0⟩ : ∃ W0, Hid (((w.alloc (.cells #[.string ⟨#[97]⟩, .int .i64 1, .int .i64 1, .int .i64 0] 23)).alloc (.cells #[.int .i64 0, .int .i64 1, .int .i64 1] 26)).alloc (.cells #[.int .i64 0, .int .i64 1, .int .i64 2] 26) = W0) := ⟨_, rfl⟩
  have HB0 : Hid (Below w.heap.size w W0) := Lib.hid (by rw [← hW0.out]; exact nxA (nxA (newB _ _) _) _)
  rw [hW0.out] at HK0' HK1' HK2
  have HX : Hid (∀ W, Below W0.heap.size W0 W → Blk W w.heap.size [.string ⟨#[97]⟩, .int .i64 1, .int .i64 1, .int .i64 0] ∧ Blk W (w.heap.size + 1) [.int .i64 0, .int .i64 1, .int .i64 1] ∧ Blk W (w.heap.size + 1 + 1) [.int .i64 0, .int .i64 1, .int .i64 2] ∧ Vars W) := Lib.hid (fun W hW => ⟨HK0'.out.up hW HK0'.out.lt, HK1'.out.up hW HK1'.out.lt, HK2.out.up hW HK2.out.lt, HV.out.below (nx HB0.out hW)⟩)
  have HXS : Hid (∀ W, Below W0.heap.size W0 W → (W.cell? ⟨w.heap.size + 1, 0, none⟩ = some (.int .i64 0) ∧ W.cell? ⟨w.heap.size + 1, 1, none⟩ = some (.int .i64 1) ∧ W.cell? ⟨w.heap.size + 1, 2, none⟩ = some (.int .i64 1)) ∧ (W.cell? ⟨w.heap.size + 1 + 1, 0, none⟩ = some (.int .i64 0) ∧ W.cell? ⟨w.heap.size + 1 + 1, 1, none⟩ = some (.int .i64 1) ∧ W.cell? ⟨w.heap.size + 1 + 1, 2, none⟩ = some (.int .i64 2))) := Lib.hid (fun W hW => ⟨⟨(HX.out W hW).2.1.cell 0 rfl, (HX.out W hW).2.1.cell 1 rfl, (HX.out W hW).2.1.cell 2 rfl⟩, (HX.out W hW).2.2.1.cell 0 rfl, (HX.out W hW).2.2.1.cell 1 rfl, (HX.out W hW).2.2.1.cell 2 rfl⟩)
  clear HK0 HK1 HK0' HK1' HK2 hV
  have n0 : Hid (([] : List Hd).length = 0) := Lib.hid rfl
  have n1 : Hid (aL1.length = 1) := Lib.hid rfl
  have n2 : Hid (aL.length = 2) := Lib.hid rfl
  have m0 : Hid (0 ≤ 900) := Lib.hid (by decide)
  have m1 : Hid (1 ≤ 900) := Lib.hid (by decide)
  have m2 : Hid (2 ≤ 900) := Lib.hid (by decide)
  have m2' : Hid (2 ≤ 1000) := Lib.hid (by decide)
  have q1 : Hid (([aP] : List P3).length = 1) := Lib.hid rfl
  have HAG := Lib.hid aw_agn
  have hVal : Hid (VH 1 1 aL ↔ true = true) := Lib.hid ⟨fun _ => rfl, fun _ => aw_valid⟩
  have HS1 : Hid (∀ W : World, Calls Tryd.prog 20 #[.slice none 0 0, .agg #[.int .i64 0, .int .i64 1, .int .i64 2], .agg #[.int .i64 1, .int .i64 0]] W fun e w' => (∃ A1 c1, e = .returned (.slice A1 1 c1) ∧ HRd w' A1 aL1) ∧ Below W.heap.size W w') := Lib.hid (fun W => (hset_is none 0 0 [] 0 1 2 1 0 W (HRd.nil _ _) n0 m0).mono fun e w' ⟨⟨V, hV, ho⟩, hb⟩ => by
    rw [aw_set1] at ho
    obtain ⟨A1, c1, hv, -, hr, -⟩ := ho.form
    exact ⟨⟨A1, c1, by rw [hV, hv]; rfl, hr⟩, hb⟩)
  have HS2 : Hid (∀ (W : World) (A1 : Option Addr) (c1 : Nat), HRd W A1 aL1 → Calls Tryd.prog 20 #[.slice A1 1 c1, .agg #[.int .i64 0, .int .i64 1, .int .i64 1], .agg #[.int .i64 2, .int .i64 0]] W fun e w' => (∃ A2 c2, e = .returned (.slice A2 2 c2) ∧ 2 ≤ c2 ∧ HRd w' A2 aL) ∧ Below W.heap.size W w') := Lib.hid (fun W A1 c1 h => (hset_is A1 1 c1 aL1 0 1 1 2 0 W h n1 m1).mono fun e w' ⟨⟨V, hV, ho⟩, hb⟩ => by
    rw [aw_set2] at ho
    obtain ⟨A1, c1, hv, hc, hr, -⟩ := ho.form
    exact ⟨⟨A1, c1, by rw [hV, hv]; rfl, hc, hr⟩, hb⟩)
  have HRM : Hid (∀ (W : World) (A1 : Option Addr) (c1 : Nat), Vars W → 2 ≤ c1 → HRd W A1 aL → Calls Tryd.prog 28 #[ra ⟨#[97]⟩ 1 1 0, .slice A1 2 c1, .agg #[.int .i64 0, .int .i64 1, .int .i64 2], .agg #[.int .i64 2, .int .i64 0]] W fun e w' => e = .returned (.bool true) ∧ Below W.heap.size W w') := Lib.hid (fun W A1 c1 hv hc h => hroom_yes ⟨#[97]⟩ 1 1 0 A1 2 c1 aL 0 1 2 2 0 W hv h n2 hc m2 (Lib.hid aw_room))
  have HVL : Hid (∀ (W : World) (A1 : Option Addr) (c1 : Nat), Vars W → HRd W A1 aL → Calls Tryd.prog 12 #[ra ⟨#[97]⟩ 1 1 0, .slice A1 2 c1] W fun e w' => e = .returned (.bool true) ∧ Below W.heap.size W w') := Lib.hid (fun W A1 c1 hv h => hvalid_is ⟨#[97]⟩ 1 1 0 A1 2 c1 aL W hv h n2 m2' hVal)
  clear hVal
  have tok : True := trivial
  go_enter Tryd.func11, Tryd.ntmps11
  go_upto_region 3 with fail
  rw [hW0.out]
  go_region_held3 (fun W => (W.cell? ⟨w.heap.size + 1, 0, none⟩ = some (.int .i64 0) ∧ W.cell? ⟨w.heap.size + 1, 1, none⟩ = some (.int .i64 1) ∧ W.cell? ⟨w.heap.size + 1, 2, none⟩ = some (.int .i64 1)) ∧ (W.cell? ⟨w.heap.size + 1 + 1, 0, none⟩ = some (.int .i64 0) ∧ W.cell? ⟨w.heap.size + 1 + 1, 1, none⟩ = some (.int .i64 1) ∧ W.cell? ⟨w.heap.size + 1 + 1, 2, none⟩ = some (.int .i64 2)))
    (first
      | exact HXS.out _ (bdD (Below.refl _ _))
      | exact HXS.out _ HB2.out
      | exact HXS.out _ HB1.out)
    (first
      | (go_at_call 20; have _t := tok; (with_reducible refine (HS1.out _).mono ?_); rintro e W1 ⟨⟨A1, c1, rfl, hr1⟩, hbb1⟩; have HR1 := Lib.hid hr1; have HB1 : Hid (Below W0.heap.size W0 W1) := Lib.hid (nx (bdD (Below.refl _ _)) hbb1); clear hbb1 hr1 tok _t)
      | (go_at_call 20; (with_reducible refine (HS2.out _ A1 c1 HR1.out).mono ?_); rintro e W2 ⟨⟨A2, c2, rfl, hc2, hr2⟩, hbb2⟩; have HC2 := Lib.hid hc2; have HR2 := Lib.hid hr2; have HB2 := Lib.hid (nx HB1.out hbb2); clear hbb2 hr2 hc2))
  have hx := HX.out _ HB2.out
  have i0 := hx.1.cell 0 rfl
  have i1 := hx.1.cell 1 rfl
  have i2 := hx.1.cell 2 rfl
  have i3 := hx.1.cell 3 rfl
  have i4 := hx.2.2.1.cell 0 rfl
  have i5 := hx.2.2.1.cell 1 rfl
  have i6 := hx.2.2.1.cell 2 rfl
  clear hx
  go_upto_region 5 with (go_at_call 30; refine (hagainst_is ⟨#[97]⟩ 1 1 0 A2 2 c2 aL 0 1 2 3 0 _ (HX.out _ HB2.out).2.2.2 HR2.out n2 HC2.out m2 HAG q1).mono ?_; rintro e W3 ⟨⟨A3, c3, rfl, hp3⟩, hbb3⟩; have HP3 := Lib.hid hp3; have HR3 := Lib.hid (HR2.out.below hbb3); have HB3 := Lib.hid (nx HB2.out hbb3); clear hbb3 hp3)
  obtain ⟨g, o, x, y, z, m, v, rfl, hg, hx1, d1, d2, d3, d4, d5⟩ := HR3.out.at_ (i := 0) (by decide)
  have hxx := hx1.out
  simp only [List.getD_cons_zero, Prod.mk.injEq] at hxx
  obtain ⟨⟨rfl, rfl, rfl⟩, rfl, rfl⟩ := hxx
  obtain ⟨g', o', x', y', z', rfl, hg', hx2, f1, f2, f3⟩ := HP3.out.at_ (i := 0) (by decide)
  have hxy := hx2.out
  simp only [List.getD_cons_zero, Prod.mk.injEq] at hxy
  obtain ⟨rfl, rfl, rfl⟩ := hxy
  simp only [Nat.zero_mul, Nat.add_zero] at d1 d2 d3 f1 f2 f3
  have hx := HX.out _ HB3.out
  have s1 : ∀ P : NxW W3, P.W.cell? ⟨g, o, none⟩ = some (.int .i64 0) := NxW.cell d1
  have s2 : ∀ P : NxW W3, P.W.cell? ⟨g, o + 1, none⟩ = some (.int .i64 1) := NxW.cell d2
  have s3 : ∀ P : NxW W3, P.W.cell? ⟨g, o + 2, none⟩ = some (.int .i64 1) := NxW.cell d3
  have s4 : ∀ P : NxW W3, P.W.cell? ⟨g', o', none⟩ = some (.int .i64 0) := NxW.cell f1
  have s5 : ∀ P : NxW W3, P.W.cell? ⟨g', o' + 1, none⟩ = some (.int .i64 1) := NxW.cell f2
  have s6 : ∀ P : NxW W3, P.W.cell? ⟨g', o' + 2, none⟩ = some (.int .i64 1) := NxW.cell f3
  have r1 : ∀ P : NxW W3, P.W.cell? ⟨w.heap.size, 0, none⟩ = some (.string ⟨#[97]⟩) := NxW.cell (hx.1.cell 0 rfl)
  have r2 : ∀ P : NxW W3, P.W.cell? ⟨w.heap.size, 1, none⟩ = some (.int .i64 1) := NxW.cell (hx.1.cell 1 rfl)
  have r3 : ∀ P : NxW W3, P.W.cell? ⟨w.heap.size, 2, none⟩ = some (.int .i64 1) := NxW.cell (hx.1.cell 2 rfl)
  have r4 : ∀ P : NxW W3, P.W.cell? ⟨w.heap.size, 3, none⟩ = some (.int .i64 0) := NxW.cell (hx.1.cell 3 rfl)
  have r5 : ∀ P : NxW W3, P.W.cell? ⟨w.heap.size + 1, 0, none⟩ = some (.int .i64 0) := NxW.cell (hx.2.1.cell 0 rfl)
  have r6 : ∀ P : NxW W3, P.W.cell? ⟨w.heap.size + 1, 1, none⟩ = some (.int .i64 1) := NxW.cell (hx.2.1.cell 1 rfl)
  have r7 : ∀ P : NxW W3, P.W.cell? ⟨w.heap.size + 1, 2, none⟩ = some (.int .i64 1) := NxW.cell (hx.2.1.cell 2 rfl)
  have r8 : ∀ P : NxW W3, P.W.cell? ⟨w.heap.size + 1 + 1, 0, none⟩ = some (.int .i64 0) := NxW.cell (hx.2.2.1.cell 0 rfl)
  have r9 : ∀ P : NxW W3, P.W.cell? ⟨w.heap.size + 1 + 1, 1, none⟩ = some (.int .i64 1) := NxW.cell (hx.2.2.1.cell 1 rfl)
  have r10 : ∀ P : NxW W3, P.W.cell? ⟨w.heap.size + 1 + 1, 2, none⟩ = some (.int .i64 2) := NxW.cell (hx.2.2.1.cell 2 rfl)
  have he1 := fun W => eqPr 0 1 1 0 1 1 W
  have HC1 := Lib.hid (fun P : NxW W3 => Calls.nx_of P (HVL.out P.W (some ⟨g, o, none⟩) c2 (HX.out _ (nx HB3.out P.hb)).2.2.2 (HR3.out.below P.hb)))
  have HC3 := Lib.hid (fun P : NxW W3 => Calls.nx_of P (HRM.out P.W (some ⟨g, o, none⟩) c2 (HX.out _ (nx HB3.out P.hb)).2.2.2 HC2.out (HR3.out.below P.hb)))
  clear d1 d2 d3 d4 d5 f1 f2 f3 hx i0 i1 i2 i3 i4 i5 i6
  refine wp_region_below mixed (by kernel_rfl) ?_
  repeat (go_big_quiet_step (first
    | (go_at_call 12; exact HC1.out _)
    | (go_at_call 28; exact HC3.out _)))
  refine wpQuiet_nil ?_
  intro W9 hw'
  obtain ⟨⟨_, hb9⟩, hw''⟩ := hw'
  subst hw''
  have HB9 := Lib.hid (nx HB0.out (nx HB3.out hb9))
  go_wp2
  go_ret
  exact ⟨rfl, HB9.out⟩
end Go.Proofs.YthclgccgkdijbaaDoor
