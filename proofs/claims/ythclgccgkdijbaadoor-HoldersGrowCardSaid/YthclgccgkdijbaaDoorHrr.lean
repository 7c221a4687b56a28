/- Contract of the reference: Room of grants. -/
import Derived.Test.YthclgccgkdijbaaDoorHrm
import Derived.Test.YthclgccgkdijbaaDoorHrv
import Derived.Test.YthclgccgkdijbaaDoorHrs
namespace Go.Proofs.YthclgccgkdijbaaDoor
open Go.RowKit
set_option linter.unusedVariables false
set_option linter.unusedSimpArgs false

abbrev RS3 (W : World) (g : Nat) (a b d : Int) : Prop := W.cell? ⟨g, 0, none⟩ = some (.int .i64 a) ∧ W.cell? ⟨g, 1, none⟩ = some (.int .i64 b) ∧ W.cell? ⟨g, 2, none⟩ = some (.int .i64 d)
abbrev RS2 (W : World) (g : Nat) (m v : Int) : Prop := W.cell? ⟨g, 0, none⟩ = some (.int .i64 m) ∧ W.cell? ⟨g, 1, none⟩ = some (.int .i64 v)
theorem RS3.of {W : World} {g : Nat} {a b d : Int} (hb : Blk W g [.int .i64 a, .int .i64 b, .int .i64 d]) : RS3 W g a b d := ⟨hb.cell 0 rfl, hb.cell 1 rfl, hb.cell 2 rfl⟩
theorem RS2.of {W : World} {g : Nat} {m v : Int} (hb : Blk W g [.int .i64 m, .int .i64 v]) : RS2 W g m v := ⟨hb.cell 0 rfl, hb.cell 1 rfl⟩
theorem refValid_yes (s : ByteArray) (k u hm : Int) (A : Option Addr) (n c : Nat) (l : List Hd) (w : World) (hl : HRd w A l) (hn : Hid (l.length = n)) (hbig : Hid (n ≤ 1000)) (hr : Hid (VH k u l)) :
    Calls Tryd.prog 13 #[ra s k u hm, .slice A n c] w fun e w' => e = .returned (.bool true) ∧ Below w.heap.size w w' :=
  refValidH_is s k u hm A n c l w hl hn hbig (Lib.hid ⟨fun _ => rfl, fun _ => hr.out⟩)
theorem refValid_no (s : ByteArray) (k u hm : Int) (A : Option Addr) (n c : Nat) (l : List Hd) (w : World) (hl : HRd w A l) (hn : Hid (l.length = n)) (hbig : Hid (n ≤ 1000)) (hr : Hid (¬ VH k u l)) :
    Calls Tryd.prog 13 #[ra s k u hm, .slice A n c] w fun e w' => e = .returned (.bool false) ∧ Below w.heap.size w w' :=
  refValidH_is s k u hm A n c l w hl hn hbig (Lib.hid ⟨fun h => absurd h hr.out, fun h => by cases h⟩)
theorem setH_len (l : List Hd) (p : Pr3) (a : P2) : (setH l p a).length ≤ l.length + 1 := by
  unfold setH
  have := delH_len l p
  split
  · omega
  · rw [insH_len]; omega
set_option maxHeartbeats 8000000 in
set_option maxRecDepth 20000 in
theorem refRoomH_is (s : ByteArray) (k u hm : Int) (A : Option Addr) (n c : Nat) (l : List Hd) (a b d m v : Int) (w : World) (hl : HRd w A l) (hn : Hid (l.length = n)) (hbig : Hid (n ≤ 900)) {r : Bool} (hr : Hid (RoomH k u l (a, b, d) (m, v) ↔ r = true)) :
    Calls Tryd.prog 29 #[ra s k u hm, .slice A n c, .agg #[.int .i64 a, .int .i64 b, .int .i64 d], .agg #[.int .i64 m, .int .i64 v]] w fun e w' => e = .returned (.bool r) ∧ Below w.heap.size w w' := by
  have HR := Lib.hid hl
  have hbig2 : Hid (n ≤ 1000) := Lib.hid (by have := hbig.out; omega)
  have HK0 := Lib.hid (Blk.new w [.string s, .int .i64 k, .int .i64 u, .int .i64 hm] 23 rfl)
  have HK1 := Lib.hid (Blk.new (w.alloc (.cells #[.string s, .int .i64 k, .int .i64 u, .int .i64 hm] 23)) [.int .i64 a, .int .i64 b, .int .i64 d] 26 (g := w.heap.size + 1) (by simp))
  have HK2 := Lib.hid (Blk.new ((w.alloc (.cells #[.string s, .int .i64 k, .int .i64 u, .int .i64 hm] 23)).alloc (.cells #[.int .i64 a, .int .i64 b, .int .i64 d] 26)) [.int .i64 m, .int .i64 v] 30 (g := w.heap.size + 1 + 1) (by simp))
  have HK0' := Lib.hid ((HK0.out.grow (.cells #[.int .i64 a, .int .i64 b, .int .i64 d] 26)).grow (.cells #[.int .i64 m, .int .i64 v] 30))
  have HK1' := Lib.hid (HK1.out.grow (.cells #[.int .i64 m, .int .i64 v] 30))
  obtain ⟨W0, hW0⟩ : ∃ W0, Hid (((w.alloc (.cells #[.string s, .int .i64 k, .int .i64 u, .int .i64 hm] 23)).alloc (.cells #[.int .i64 a, .int .i64 b, .int .i64 d] 26)).alloc (.cells #[.int .i64 m, .int .i64 v] 30) = W0) := ⟨_, rfl⟩
  have HB0 : Hid (Below w.heap.size w W0) := Lib.hid (by rw [← hW0.out]; exact nxA (nxA (newB _ _) _) _)
  rw [hW0.out] at HK0' HK1' HK2
  have HX : Hid (∀ W, Below W0.heap.size W0 W → Blk W w.heap.size [.string s, .int .i64 k, .int .i64 u, .int .i64 hm] ∧ Blk W (w.heap.size + 1) [.int .i64 a, .int .i64 b, .int .i64 d] ∧ Blk W (w.heap.size + 1 + 1) [.int .i64 m, .int .i64 v]) := Lib.hid (fun W hW => ⟨HK0'.out.up hW HK0'.out.lt, HK1'.out.up hW HK1'.out.lt, HK2.out.up hW HK2.out.lt⟩)
  have HXS : Hid (∀ W, Below W0.heap.size W0 W → RS4 W w.heap.size s k u hm ∧ RS3 W (w.heap.size + 1) a b d ∧ RS2 W (w.heap.size + 1 + 1) m v) := Lib.hid (fun W hW => ⟨RS4.of (HX.out W hW).1, RS3.of (HX.out W hW).2.1, RS2.of (HX.out W hW).2.2⟩)
  have hx0 := HX.out W0 (Below.refl _ _)
  have i0 := hx0.1.cell 0 rfl
  have i1 := hx0.1.cell 1 rfl
  have i2 := hx0.1.cell 2 rfl
  have i3 := hx0.1.cell 3 rfl
  have i4 := hx0.2.1.cell 0 rfl
  have i5 := hx0.2.1.cell 1 rfl
  have i6 := hx0.2.1.cell 2 rfl
  have i7 := hx0.2.2.cell 0 rfl
  have i8 := hx0.2.2.cell 1 rfl
  clear HK0 HK1 HK0' HK1' HK2 hl hx0
  have HARM : Hid (∀ W, Below W0.heap.size W0 W → HRd W A l) := Lib.hid (fun W hW => HR.out.below (nx HB0.out hW))
  have mixed : Tryd.prog.follows .mixedOrders = true := by kernel_rfl
  have r1 : ∀ P : NxW W0, P.W.cell? ⟨w.heap.size, 0, none⟩ = some (.string s) := NxW.cell i0
  have r2 : ∀ P : NxW W0, P.W.cell? ⟨w.heap.size, 1, none⟩ = some (.int .i64 k) := NxW.cell i1
  have r3 : ∀ P : NxW W0, P.W.cell? ⟨w.heap.size, 2, none⟩ = some (.int .i64 u) := NxW.cell i2
  have r4 : ∀ P : NxW W0, P.W.cell? ⟨w.heap.size, 3, none⟩ = some (.int .i64 hm) := NxW.cell i3
  have r5 : ∀ P : NxW W0, P.W.cell? ⟨w.heap.size + 1, 0, none⟩ = some (.int .i64 a) := NxW.cell i4
  have r6 : ∀ P : NxW W0, P.W.cell? ⟨w.heap.size + 1, 1, none⟩ = some (.int .i64 b) := NxW.cell i5
  have r7 : ∀ P : NxW W0, P.W.cell? ⟨w.heap.size + 1, 2, none⟩ = some (.int .i64 d) := NxW.cell i6
  have r8 : ∀ P : NxW W0, P.W.cell? ⟨w.heap.size + 1 + 1, 0, none⟩ = some (.int .i64 m) := NxW.cell i7
  have r9 : ∀ P : NxW W0, P.W.cell? ⟨w.heap.size + 1 + 1, 1, none⟩ = some (.int .i64 v) := NxW.cell i8
  obtain ⟨b2, hb2⟩ : ∃ b2, Hid (vpB a b d = b2) := ⟨_, Lib.hid rfl⟩
  obtain ⟨b3, hb3⟩ : ∃ b3, Hid (fit k u m v = b3) := ⟨_, Lib.hid rfl⟩
  have HC2 := Lib.hid (fun P : NxW W0 => Calls.nx_of P (refValid_b a b d P.W hb2))
  have HC3 := Lib.hid (fun P : NxW W0 => Calls.nx_of P (refFits_is s k u hm m v P.W hb3))
  by_cases hv : VH k u l
  · have HC1 := Lib.hid (fun P : NxW W0 => Calls.nx_of P (refValid_yes s k u hm A n c l P.W (HARM.out _ P.hb) hn hbig2 (Lib.hid hv)))
    by_cases hgo : b2 = true ∧ b3 = true
    · obtain ⟨rfl, rfl⟩ := hgo
      have HVY : Hid (VH k u l) := Lib.hid hv
      obtain ⟨l2, hl2⟩ : ∃ l2, Hid (setH l (a, b, d) (m, v) = l2) := ⟨_, Lib.hid rfl⟩
      obtain ⟨n2, hn2⟩ : ∃ n2, Hid (l2.length = n2) := ⟨_, Lib.hid rfl⟩
      have hn22 : Hid (n2 ≤ 1000) := Lib.hid (by
        have h1 := setH_len l (a, b, d) (m, v)
        rw [hl2.out, hn2.out, hn.out] at h1
        have := hbig.out
        omega)
      have hr2 : Hid (VH k u l2 ↔ r = true) := Lib.hid (by
        rw [← hr.out, ← hl2.out]
        exact ⟨fun h => ⟨hv, hb2.out, hb3.out, h⟩, fun h => h.2.2.2⟩)
      have HRV : Hid (∀ (A2 : Option Addr) (c2 : Nat) (W : World), HRd W A2 l2 → Calls Tryd.prog 13 #[ra s k u hm, .slice A2 n2 c2] W fun e w' => e = .returned (.bool r) ∧ Below W.heap.size W w') := Lib.hid (fun A2 c2 W h => refValidH_is s k u hm A2 n2 c2 l2 W h hn2 hn22 hr2)
      clear hr hv HC1 HC2 HC3 r1 r2 r3 r4 r5 r6 r7 r8 r9
      have tok : True := trivial
      go_enter Tryd.func29, Tryd.ntmps29
      go_upto_region 1 with fail
      rw [hW0.out]
      go_region_held3 (fun W => RS4 W w.heap.size s k u hm ∧ RS3 W (w.heap.size + 1) a b d ∧ RS2 W (w.heap.size + 1 + 1) m v)
        (first
          | exact HXS.out _ (bdD (Below.refl _ _))
          | exact HXS.out _ HB5.out
          | exact HXS.out _ HB4.out
          | exact HXS.out _ HB3.out
          | exact HXS.out _ HB2.out
          | exact HXS.out _ HB1.out)
        (first
          | (go_at_call 13; have _t := tok; (with_reducible refine (refValid_yes s k u hm A n c l _ (HARM.out _ (bdD (Below.refl _ _))) hn hbig2 HVY).mono ?_); rintro e W1 ⟨rfl, hbb1⟩; have HB1 : Hid (Below W0.heap.size W0 W1) := Lib.hid (nx (bdD (Below.refl _ _)) hbb1); clear hbb1 tok _t)
          | (go_at_call 38; (with_reducible refine (refValid_b a b d _ hb2).mono ?_); rintro e W2 ⟨rfl, hbb2⟩; have HB2 := Lib.hid (nx HB1.out hbb2); clear hbb2)
          | (go_at_call 39; (with_reducible refine (refFits_is s k u hm m v _ hb3).mono ?_); rintro e W3 ⟨rfl, hbb3⟩; have HB3 := Lib.hid (nx HB2.out hbb3); clear hbb3)
          | (go_at_call 21; (with_reducible refine (refSet_is A n c l a b d m v _ (HARM.out _ HB3.out) hn hbig).mono ?_); rintro e W4 ⟨⟨V4, rfl, ho4⟩, hbb4⟩; rw [hl2.out] at ho4; obtain ⟨A4, c4, hv4, -, hrd4, -⟩ := ho4.form; rw [hn2.out] at hv4; subst hv4; have HRD4 := Lib.hid hrd4; have HB4 := Lib.hid (nx HB3.out hbb4); clear hbb4 ho4 hrd4)
          | (go_at_call 13; (with_reducible refine (HRV.out A4 c4 _ HRD4.out).mono ?_); rintro e W5 ⟨rfl, hbb5⟩; have HB5 := Lib.hid (nx HB4.out hbb5); clear hbb5))
      all_goals (
        go_wp2
        go_ret
        exact ⟨rfl, nx HB0.out HB5.out⟩)
    · have hend : Hid (r = false) := iffNo hr.out (fun h => hgo ⟨hb2.out.symm.trans h.2.1, hb3.out.symm.trans h.2.2.1⟩)
      clear hr hv
      cases b2 with
      | false =>
        clear hgo
        go_enter Tryd.func29, Tryd.ntmps29
        go_upto_region 1 with fail
        rw [hW0.out]
        refine wp_region_below mixed (by kernel_rfl) ?_
        repeat (go_big_quiet_step (first
          | (go_at_call 13; exact HC1.out _)
          | (go_at_call 38; exact HC2.out _)))
        refine wpQuiet_nil ?_
        intro W2 hw'
        obtain ⟨⟨_, hb9⟩, hw''⟩ := hw'
        subst hw''
        all_goals (
          have HB9 := Lib.hid (nx HB0.out hb9)
          go_wp2
          go_ret
          exact ⟨ret_bool hend.out.symm, HB9.out⟩)
      | true =>
        obtain rfl : b3 = false := by
          cases b3
          · rfl
          · exact absurd ⟨rfl, rfl⟩ hgo
        clear hgo
        go_enter Tryd.func29, Tryd.ntmps29
        go_upto_region 1 with fail
        rw [hW0.out]
        refine wp_region_below mixed (by kernel_rfl) ?_
        repeat (go_big_quiet_step (first
          | (go_at_call 13; exact HC1.out _)
          | (go_at_call 38; exact HC2.out _)
          | (go_at_call 39; exact HC3.out _)))
        refine wpQuiet_nil ?_
        intro W2 hw'
        obtain ⟨⟨_, hb9⟩, hw''⟩ := hw'
        subst hw''
        all_goals (
          have HB9 := Lib.hid (nx HB0.out hb9)
          go_wp2
          go_ret
          exact ⟨ret_bool hend.out.symm, HB9.out⟩)
  · have HC1 := Lib.hid (fun P : NxW W0 => Calls.nx_of P (refValid_no s k u hm A n c l P.W (HARM.out _ P.hb) hn hbig2 (Lib.hid hv)))
    have hend : Hid (r = false) := iffNo hr.out (fun h => hv h.1)
    clear hr hv
    go_enter Tryd.func29, Tryd.ntmps29
    go_upto_region 1 with fail
    rw [hW0.out]
    refine wp_region_below mixed (by kernel_rfl) ?_
    repeat (go_big_quiet_step (first
      | (go_at_call 13; exact HC1.out _)))
    refine wpQuiet_nil ?_
    intro W2 hw'
    obtain ⟨⟨_, hb9⟩, hw''⟩ := hw'
    subst hw''
    all_goals (
      have HB9 := Lib.hid (nx HB0.out hb9)
      go_wp2
      go_ret
      exact ⟨ret_bool hend.out.symm, HB9.out⟩)
end Go.Proofs.YthclgccgkdijbaaDoor
