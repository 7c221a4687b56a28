/- Contract of the reference: Against. -/
import Derived.Test.YthclgccgkdijbaaDoorHrr
import Derived.Test.YthclgccgkdijbaaDoorHag
namespace Go.Proofs.YthclgccgkdijbaaDoor
open Go.RowKit
set_option linter.unusedVariables false
set_option linter.unusedSimpArgs false

theorem agn_snoc (k : Int) (l : List Hd) (p : Pr3) (a : P2) {j : Nat} (hj : j < l.length) : agnH k (l.take (j + 1)) p a = agnH k (l.take j) p a ++ (if (l.getD j default).1 = p then [] else if (decide (k = 2) || !fr (l.getD j default).2 a) = true then [l.getD j default] else []) := by
  unfold agnH
  rw [delH_snoc l p hj, List.filter_append]
  congr 1
  by_cases h : (l.getD j default).1 = p
  · rw [if_pos h, if_pos h]; rfl
  · rw [if_neg h, if_neg h]
    by_cases h2 : (decide (k = 2) || !fr (l.getD j default).2 a) = true
    · rw [if_pos h2, List.filter_cons, if_pos h2]; rfl
    · rw [if_neg h2, List.filter_cons, if_neg h2]; rfl
theorem prsH_snoc (l : List Hd) (x : Hd) : prsH (l ++ [x]) = prsH l ++ [x.1] := by simp [prsH]
theorem agn_len (k : Int) (l : List Hd) (p : Pr3) (a : P2) : (agnH k l p a).length ≤ l.length := Nat.le_trans (List.length_filter_le _ _) (delH_len l p)
set_option maxHeartbeats 16000000 in
set_option maxRecDepth 20000 in
theorem refAgainst_is (s : ByteArray) (k u hm : Int) (A : Option Addr) (n c : Nat) (l : List Hd) (a b d m v : Int) (w : World) (hl : HRd w A l) (hn : Hid (l.length = n)) (hbig : Hid (n ≤ 900)) {L : List P3} (hL : Hid (AgR k u l (a, b, d) (m, v) L)) {q : Nat} (hq : Hid (L.length = q)) :
    Calls Tryd.prog 31 #[ra s k u hm, .slice A n c, .agg #[.int .i64 a, .int .i64 b, .int .i64 d], .agg #[.int .i64 m, .int .i64 v]] w fun e w' => (∃ A' c', e = .returned (.slice A' q c') ∧ PRd w' A' L) ∧ Below w.heap.size w w' := by
  have HR := Lib.hid hl
  have hbig2 : Hid (n ≤ 1000) := Lib.hid (by have := hbig.out; omega)
  have HK0 := Lib.hid (Blk.new w [.string s, .int .i64 k, .int .i64 u, .int .i64 hm] 23 rfl)
  have HK1 := Lib.hid (Blk.new (w.alloc (.cells #[.string s, .int .i64 k, .int .i64 u, .int .i64 hm] 23)) [.int .i64 a, .int .i64 b, .int .i64 d] 26 (g := w.heap.size + 1) (by simp))
  have HK2 := Lib.hid (Blk.new ((w.alloc (.cells #[.string s, .int .i64 k, .int .i64 u, .int .i64 hm] 23)).alloc (.cells #[.int .i64 a, .int .i64 b, .int .i64 d] 26)) [.int .i64 m, .int .i64 v] 30 (g := w.heap.size + 1 + 1) (by simp))
  have HK0' := Lib.hid ((HK0.out.grow (.cells #[.int .i64 a, .int .i64 b, .int .i64 d] 26)).grow (.cells #[.int .i64 m, .int .i64 v] 30))
  have HK1' := Lib.hid (HK1.out.grow (.cells #[.int .i64 m, .int .i64 v] 30))
  obtain ⟨W0, hW0⟩ : ∃ W0, Hid (((w.alloc (.cells #[.string s, .int .i64 k, .int .i64 u, .int .i64 hm] 23)).alloc (.cells #[.int .i64 a, .int .i64 b, .int .i64 d] 26)).alloc (.cells #[.int .i64 m, .int .i64 v] 30) = W0) := ⟨_, rfl⟩
  have HB0 : Hid (Below w.heap.size w W0) := Lib.hid (by rw [← hW0.out]; exact nxA (nxA (newB _ _) _) _)
  rw [hW0.out] at HK0' HK1' HK2
  have HX : Hid (∀ W, Below W0.heap.size W0 W → Blk W w.heap.size [.string s, .int .i64 k, .int .i64 u, .int .i64 hm] ∧ Blk W (w.heap.size + 1) [.int .i64 a, .int .i64 b, .int .i64 d] ∧ Blk W (w.heap.size + 1 + 1) [.int .i64 m, .int .i64 v]) := Lib.hid (fun W hW => ⟨HK0'.out.up hW HK0'.out.lt, HK1'.out.up hW HK1'.out.lt, HK2.out.up hW HK2.out.lt⟩)
  have HXS : Hid (∀ W, Below W0.heap.size W0 W → RS4 W w.heap.size s k u hm ∧ RS3 W (w.heap.size + 1) a b d ∧ RS2 W (w.heap.size + 1 + 1) m v) := Lib.hid (fun W hW => ⟨RS4.of (HX.out W hW).1, RS3.of (HX.out W hW).2.1, RS2.of (HX.out W hW).2.2⟩)
  have hx0 := HX.out W0 (Below.refl _ _)
  have i0 := hx0.1.cell 0 rfl
  have i1 := hx0.1.cell 1 rfl
  have i2 := hx0.1.cell 2 rfl
  have i3 := hx0.1.cell 3 rfl
  have i4 := hx0.2.1.cell 0 rfl
  have i5 := hx0.2.1.cell 1 rfl
  have i6 := hx0.2.1.cell 2 rfl
  have i7 := hx0.2.2.cell 0 rfl
  have i8 := hx0.2.2.cell 1 rfl
  clear HK0 HK1 HK0' HK1' HK2 hl hx0
  have HARM : Hid (∀ W, Below W0.heap.size W0 W → HRd W A l) := Lib.hid (fun W hW => HR.out.below (nx HB0.out hW))
  have mixed : Tryd.prog.follows .mixedOrders = true := by kernel_rfl
  obtain ⟨b2, hb2⟩ : ∃ b2, Hid (vpB a b d = b2) := ⟨_, Lib.hid rfl⟩
  obtain ⟨b3, hb3⟩ : ∃ b3, Hid (fit k u m v = b3) := ⟨_, Lib.hid rfl⟩
  have hnil : ¬ (SenH k u l (a, b, d) (m, v) ∧ ¬ RoomH k u l (a, b, d) (m, v)) → L = [] ∧ q = 0 := fun h => by
    have h1 := hL.out.2 h
    exact ⟨h1, by rw [← hq.out, h1]; rfl⟩
  have HNIL := Lib.hid hnil
  clear hnil
  by_cases hv : VH k u l
  case neg =>
    obtain ⟨rfl, rfl⟩ := HNIL.out (fun h => hv h.1.1)
    have HVY : Hid (¬ VH k u l) := Lib.hid hv
    clear hv hL HNIL
    go_enter Tryd.func31, Tryd.ntmps31
    go_upto_region 1 with fail
    rw [hW0.out]
    go_wp2_with (first
      | (go_at_call 13; refine (refValid_no s k u hm A n c l _ (HARM.out _ (Below.refl _ _)) hn hbig2 HVY).mono ?_; rintro e W1 ⟨rfl, hbb1⟩; have HB1 := Lib.hid hbb1; clear hbb1; have hx1 := HX.out _ HB1.out; have j10 := hx1.1.cell 0 rfl; have j11 := hx1.1.cell 1 rfl; have j12 := hx1.1.cell 2 rfl; have j13 := hx1.1.cell 3 rfl; have j14 := hx1.2.1.cell 0 rfl; have j15 := hx1.2.1.cell 1 rfl; have j16 := hx1.2.1.cell 2 rfl; have j17 := hx1.2.2.cell 0 rfl; have j18 := hx1.2.2.cell 1 rfl; clear hx1))
    go_ret
    exact ⟨⟨none, 0, rfl, PRd.nil _ _⟩, nx HB0.out HB1.out⟩
  have HVY : Hid (VH k u l) := Lib.hid hv
  cases b2 with
  | false =>
    obtain ⟨rfl, rfl⟩ := HNIL.out (fun h => by have h1 := h.1.2.1; have h2 := hb2.out; unfold vpP at h1; simp only [h2] at h1; cases h1)
    clear hv hL HNIL
    go_enter Tryd.func31, Tryd.ntmps31
    go_upto_region 1 with fail
    rw [hW0.out]
    go_wp2_with (first
      | (go_at_call 13; refine (refValid_yes s k u hm A n c l _ (HARM.out _ (Below.refl _ _)) hn hbig2 HVY).mono ?_; rintro e W1 ⟨rfl, hbb1⟩; have HB1 := Lib.hid hbb1; clear hbb1; have hx1 := HX.out _ HB1.out; have j10 := hx1.1.cell 0 rfl; have j11 := hx1.1.cell 1 rfl; have j12 := hx1.1.cell 2 rfl; have j13 := hx1.1.cell 3 rfl; have j14 := hx1.2.1.cell 0 rfl; have j15 := hx1.2.1.cell 1 rfl; have j16 := hx1.2.1.cell 2 rfl; have j17 := hx1.2.2.cell 0 rfl; have j18 := hx1.2.2.cell 1 rfl; clear hx1)
      | (go_at_call 38; refine (refValid_b a b d _ hb2).mono ?_; rintro e W2 ⟨rfl, hbb2⟩; have HB2 := Lib.hid (nx HB1.out hbb2); clear hbb2; have hx2 := HX.out _ HB2.out; have j20 := hx2.1.cell 0 rfl; have j21 := hx2.1.cell 1 rfl; have j22 := hx2.1.cell 2 rfl; have j23 := hx2.1.cell 3 rfl; have j24 := hx2.2.1.cell 0 rfl; have j25 := hx2.2.1.cell 1 rfl; have j26 := hx2.2.1.cell 2 rfl; have j27 := hx2.2.2.cell 0 rfl; have j28 := hx2.2.2.cell 1 rfl; clear hx2))
    go_ret
    exact ⟨⟨none, 0, rfl, PRd.nil _ _⟩, nx HB0.out HB2.out⟩
  | true =>
  cases b3 with
  | false =>
    obtain ⟨rfl, rfl⟩ := HNIL.out (fun h => by have h1 := h.1.2.2; have h2 := hb3.out; simp only [h2] at h1; cases h1)
    clear hv hL HNIL
    go_enter Tryd.func31, Tryd.ntmps31
    go_upto_region 1 with fail
    rw [hW0.out]
    go_wp2_with (first
      | (go_at_call 13; refine (refValid_yes s k u hm A n c l _ (HARM.out _ (Below.refl _ _)) hn hbig2 HVY).mono ?_; rintro e W1 ⟨rfl, hbb1⟩; have HB1 := Lib.hid hbb1; clear hbb1; have hx1 := HX.out _ HB1.out; have j10 := hx1.1.cell 0 rfl; have j11 := hx1.1.cell 1 rfl; have j12 := hx1.1.cell 2 rfl; have j13 := hx1.1.cell 3 rfl; have j14 := hx1.2.1.cell 0 rfl; have j15 := hx1.2.1.cell 1 rfl; have j16 := hx1.2.1.cell 2 rfl; have j17 := hx1.2.2.cell 0 rfl; have j18 := hx1.2.2.cell 1 rfl; clear hx1)
      | (go_at_call 38; refine (refValid_b a b d _ hb2).mono ?_; rintro e W2 ⟨rfl, hbb2⟩; have HB2 := Lib.hid (nx HB1.out hbb2); clear hbb2; have hx2 := HX.out _ HB2.out; have j20 := hx2.1.cell 0 rfl; have j21 := hx2.1.cell 1 rfl; have j22 := hx2.1.cell 2 rfl; have j23 := hx2.1.cell 3 rfl; have j24 := hx2.2.1.cell 0 rfl; have j25 := hx2.2.1.cell 1 rfl; have j26 := hx2.2.1.cell 2 rfl; have j27 := hx2.2.2.cell 0 rfl; have j28 := hx2.2.2.cell 1 rfl; clear hx2)
      | (go_at_call 39; refine (refFits_is s k u hm m v _ hb3).mono ?_; rintro e W3 ⟨rfl, hbb3⟩; have HB3 := Lib.hid (nx HB2.out hbb3); clear hbb3; have hx3 := HX.out _ HB3.out; have j30 := hx3.1.cell 0 rfl; have j31 := hx3.1.cell 1 rfl; have j32 := hx3.1.cell 2 rfl; have j33 := hx3.1.cell 3 rfl; have j34 := hx3.2.1.cell 0 rfl; have j35 := hx3.2.1.cell 1 rfl; have j36 := hx3.2.1.cell 2 rfl; have j37 := hx3.2.2.cell 0 rfl; have j38 := hx3.2.2.cell 1 rfl; clear hx3))
    go_ret
    exact ⟨⟨none, 0, rfl, PRd.nil _ _⟩, nx HB0.out HB3.out⟩
  | true =>
  have hsen : SenH k u l (a, b, d) (m, v) := ⟨hv, hb2.out, hb3.out⟩
  by_cases hroom : RoomH k u l (a, b, d) (m, v)
  case pos =>
    obtain ⟨rfl, rfl⟩ := HNIL.out (fun h => h.2 hroom)
    have HRM : Hid (∀ W : World, HRd W A l → Calls Tryd.prog 29 #[ra s k u hm, .slice A n c, .agg #[.int .i64 a, .int .i64 b, .int .i64 d], .agg #[.int .i64 m, .int .i64 v]] W fun e w' => e = .returned (.bool true) ∧ Below W.heap.size W w') := Lib.hid (fun W h => refRoomH_is s k u hm A n c l a b d m v W h hn hbig (Lib.hid ⟨fun _ => rfl, fun _ => hroom⟩))
    clear hv hL HNIL hsen hroom
    go_enter Tryd.func31, Tryd.ntmps31
    go_upto_region 1 with fail
    rw [hW0.out]
    go_wp2_with (first
      | (go_at_call 13; refine (refValid_yes s k u hm A n c l _ (HARM.out _ (Below.refl _ _)) hn hbig2 HVY).mono ?_; rintro e W1 ⟨rfl, hbb1⟩; have HB1 := Lib.hid hbb1; clear hbb1; have hx1 := HX.out _ HB1.out; have j10 := hx1.1.cell 0 rfl; have j11 := hx1.1.cell 1 rfl; have j12 := hx1.1.cell 2 rfl; have j13 := hx1.1.cell 3 rfl; have j14 := hx1.2.1.cell 0 rfl; have j15 := hx1.2.1.cell 1 rfl; have j16 := hx1.2.1.cell 2 rfl; have j17 := hx1.2.2.cell 0 rfl; have j18 := hx1.2.2.cell 1 rfl; clear hx1)
      | (go_at_call 38; refine (refValid_b a b d _ hb2).mono ?_; rintro e W2 ⟨rfl, hbb2⟩; have HB2 := Lib.hid (nx HB1.out hbb2); clear hbb2; have hx2 := HX.out _ HB2.out; have j20 := hx2.1.cell 0 rfl; have j21 := hx2.1.cell 1 rfl; have j22 := hx2.1.cell 2 rfl; have j23 := hx2.1.cell 3 rfl; have j24 := hx2.2.1.cell 0 rfl; have j25 := hx2.2.1.cell 1 rfl; have j26 := hx2.2.1.cell 2 rfl; have j27 := hx2.2.2.cell 0 rfl; have j28 := hx2.2.2.cell 1 rfl; clear hx2)
      | (go_at_call 39; refine (refFits_is s k u hm m v _ hb3).mono ?_; rintro e W3 ⟨rfl, hbb3⟩; have HB3 := Lib.hid (nx HB2.out hbb3); clear hbb3; have hx3 := HX.out _ HB3.out; have j30 := hx3.1.cell 0 rfl; have j31 := hx3.1.cell 1 rfl; have j32 := hx3.1.cell 2 rfl; have j33 := hx3.1.cell 3 rfl; have j34 := hx3.2.1.cell 0 rfl; have j35 := hx3.2.1.cell 1 rfl; have j36 := hx3.2.1.cell 2 rfl; have j37 := hx3.2.2.cell 0 rfl; have j38 := hx3.2.2.cell 1 rfl; clear hx3)
      | (go_at_call 29; refine (HRM.out _ (HARM.out _ HB3.out)).mono ?_; rintro e W4 ⟨rfl, hbb4⟩; have HB4 := Lib.hid (nx HB3.out hbb4); clear hbb4))
    go_ret
    exact ⟨⟨none, 0, rfl, PRd.nil _ _⟩, nx HB0.out HB4.out⟩
  have HRM : Hid (∀ W : World, HRd W A l → Calls Tryd.prog 29 #[ra s k u hm, .slice A n c, .agg #[.int .i64 a, .int .i64 b, .int .i64 d], .agg #[.int .i64 m, .int .i64 v]] W fun e w' => e = .returned (.bool false) ∧ Below W.heap.size W w') := Lib.hid (fun W h => refRoomH_is s k u hm A n c l a b d m v W h hn hbig (Lib.hid ⟨fun h => absurd h hroom, fun h => by cases h⟩))
  have HLE := Lib.hid (hL.out.1 ⟨hsen, hroom⟩)
  have HPER : Hid (∀ x ∈ l, per k u x.2.1 x.2.2 = true) := Lib.hid (fun x hx => fit_per (hv.2.2.1 x hx).2)
  have HPA : Hid (per k u m v = true) := Lib.hid (fit_per hb3.out)
  have HSH : Hid (shp k u = true) := Lib.hid hv.1
  obtain ⟨z, hz⟩ : ∃ z, Hid (decide (k = 2) = z) := ⟨_, Lib.hid rfl⟩
  have hzk : (k == 2) = z := by rw [← hz.out]; rfl
  have HK1 : Hid (z = false → k = 1) := Lib.hid (fun h => by
    have h2 := of_decide_eq_false (hz.out.trans h)
    rcases of_decide_eq_true HSH.out with ⟨h3, -⟩ | ⟨h3, -⟩
    · exact h3
    · exact absurd h3 h2)
  clear hv hL HNIL hsen hroom
  go_enter Tryd.func31, Tryd.ntmps31
  go_upto_region 1 with fail
  rw [hW0.out]
  go_wp2_with (first
      | (go_at_call 13; refine (refValid_yes s k u hm A n c l _ (HARM.out _ (Below.refl _ _)) hn hbig2 HVY).mono ?_; rintro e W1 ⟨rfl, hbb1⟩; have HB1 := Lib.hid hbb1; clear hbb1; have hx1 := HX.out _ HB1.out; have j10 := hx1.1.cell 0 rfl; have j11 := hx1.1.cell 1 rfl; have j12 := hx1.1.cell 2 rfl; have j13 := hx1.1.cell 3 rfl; have j14 := hx1.2.1.cell 0 rfl; have j15 := hx1.2.1.cell 1 rfl; have j16 := hx1.2.1.cell 2 rfl; have j17 := hx1.2.2.cell 0 rfl; have j18 := hx1.2.2.cell 1 rfl; clear hx1)
      | (go_at_call 38; refine (refValid_b a b d _ hb2).mono ?_; rintro e W2 ⟨rfl, hbb2⟩; have HB2 := Lib.hid (nx HB1.out hbb2); clear hbb2; have hx2 := HX.out _ HB2.out; have j20 := hx2.1.cell 0 rfl; have j21 := hx2.1.cell 1 rfl; have j22 := hx2.1.cell 2 rfl; have j23 := hx2.1.cell 3 rfl; have j24 := hx2.2.1.cell 0 rfl; have j25 := hx2.2.1.cell 1 rfl; have j26 := hx2.2.1.cell 2 rfl; have j27 := hx2.2.2.cell 0 rfl; have j28 := hx2.2.2.cell 1 rfl; clear hx2)
      | (go_at_call 39; refine (refFits_is s k u hm m v _ hb3).mono ?_; rintro e W3 ⟨rfl, hbb3⟩; have HB3 := Lib.hid (nx HB2.out hbb3); clear hbb3; have hx3 := HX.out _ HB3.out; have j30 := hx3.1.cell 0 rfl; have j31 := hx3.1.cell 1 rfl; have j32 := hx3.1.cell 2 rfl; have j33 := hx3.1.cell 3 rfl; have j34 := hx3.2.1.cell 0 rfl; have j35 := hx3.2.1.cell 1 rfl; have j36 := hx3.2.1.cell 2 rfl; have j37 := hx3.2.2.cell 0 rfl; have j38 := hx3.2.2.cell 1 rfl; clear hx3)
      | (go_at_call 29; refine (HRM.out _ (HARM.out _ HB3.out)).mono ?_; rintro e W4 ⟨rfl, hbb4⟩; have HB4 := Lib.hid (nx HB3.out hbb4); clear hbb4))
  go_loopw [9, 10] (fun V i wr => ∃ (j q2 c2 : Nat) (A2 : Option Addr), j ≤ n ∧ q2 ≤ j ∧ i = .int .i64 j ∧ V = .slice A2 q2 c2 ∧ Hid ((prsH (agnH k (l.take j) (a, b, d) (m, v))).length = q2) ∧ Hid (OwnPr wr W0.heap.size (.slice A2 q2 c2) (prsH (agnH k (l.take j) (a, b, d) (m, v)))) ∧ Hid (Below W0.heap.size W0 wr)) (fun _ i _ => n - (intOf i).toNat)
  case atStart => exact ⟨0, 0, 0, none, by omega, by omega, rfl, rfl, Lib.hid (by simp [prsH, agnH, delH]), Lib.hid (by rw [List.take_zero]; simp only [prsH, agnH, delH, List.filter_nil, List.map_nil]; exact OwnPr.nil _ _), HB4⟩
  case round =>
    obtain ⟨j, q2, c2, A2, hj, hqj, rfl, rfl, hLn, hO, hB⟩ := hrel
    obtain ⟨WR, hWR⟩ : ∃ W, W = wr := ⟨_, rfl⟩
    subst hWR
    obtain ⟨D, hD⟩ : ∃ D, Hid (agnH k (l.take j) (a, b, d) (m, v) = D) := ⟨_, Lib.hid rfl⟩
    rw [hD.out] at hLn hO
    by_cases hlt : (j : Int) < (n : Int)
    · obtain ⟨g, o, x, y, z1, m', v', rfl, hgw, hx, c1, c2', c3, c4, c5⟩ := HR.out.at_ (i := j) (by have := hn.out; omega)
      have e5 : IntKind.i64.wrap ((j : Int) + 1) = (j : Int) + 1 := by have := hbig.out; rw [IntKind.wrap_i64]; omega
      have hsn := agn_snoc k l (a, b, d) (m, v) (j := j) (by rw [hn.out]; omega)
      rw [hD.out, hx.out, hz.out] at hsn
      obtain ⟨f4, hf4⟩ : ∃ f4, Hid (fr (m', v') (m, v) = f4) := ⟨_, Lib.hid rfl⟩
      have hmem : ((x, y, z1), (m', v')) ∈ l := by rw [← hx.out]; exact getD_memH (by rw [hn.out]; omega)
      have HCM : Hid (z = false → (Cmp k u [(m', v'), (m, v)] ↔ f4 = true)) := Lib.hid (fun h => by
        rw [← hf4.out]
        exact cmp_two HSH.out (HPER.out _ hmem) HPA.out (HK1.out h))
      simp only [hf4.out] at hsn
      clear hmem
      have HCELL : Hid (∀ W, Below W0.heap.size W0 W → (W.cell? ⟨g, o + j * 5, none⟩ = some (.int .i64 x) ∧ W.cell? ⟨g, o + j * 5 + 1, none⟩ = some (.int .i64 y) ∧ W.cell? ⟨g, o + j * 5 + 2, none⟩ = some (.int .i64 z1) ∧ W.cell? ⟨g, o + j * 5 + 3, none⟩ = some (.int .i64 m') ∧ W.cell? ⟨g, o + j * 5 + 4, none⟩ = some (.int .i64 v'))) := Lib.hid (fun W hW => by
        have h0 := nx HB0.out hW
        exact ⟨(h0.cell (p := ⟨g, o + j * 5, none⟩) hgw).trans c1, (h0.cell (p := ⟨g, o + j * 5 + 1, none⟩) hgw).trans c2', (h0.cell (p := ⟨g, o + j * 5 + 2, none⟩) hgw).trans c3, (h0.cell (p := ⟨g, o + j * 5 + 3, none⟩) hgw).trans c4, (h0.cell (p := ⟨g, o + j * 5 + 4, none⟩) hgw).trans c5⟩)
      clear c1 c2' c3 c4 c5
      obtain ⟨w1, w2, w3, -, -⟩ := HCELL.out _ hB.out
      have hxr := HX.out _ hB.out
      have k1 : ∀ (P : NxW WR), P.W.cell? ⟨g, o + j * 5, none⟩ = some (.int .i64 x) := NxW.cell w1
      have k2 : ∀ (P : NxW WR), P.W.cell? ⟨g, o + j * 5 + 1, none⟩ = some (.int .i64 y) := NxW.cell w2
      have k3 : ∀ (P : NxW WR), P.W.cell? ⟨g, o + j * 5 + 2, none⟩ = some (.int .i64 z1) := NxW.cell w3
      have p1 : ∀ (P : NxW WR), P.W.cell? ⟨w.heap.size + 1, 0, none⟩ = some (.int .i64 a) := NxW.cell (hxr.2.1.cell 0 rfl)
      have p2 : ∀ (P : NxW WR), P.W.cell? ⟨w.heap.size + 1, 1, none⟩ = some (.int .i64 b) := NxW.cell (hxr.2.1.cell 1 rfl)
      have p3 : ∀ (P : NxW WR), P.W.cell? ⟨w.heap.size + 1, 2, none⟩ = some (.int .i64 d) := NxW.cell (hxr.2.1.cell 2 rfl)
      clear w1 w2 w3 hxr
      obtain ⟨ε, hε⟩ : ∃ ε, Hid (decide (x = a ∧ y = b ∧ z1 = d) = ε) := ⟨_, rfl⟩
      have he : ∀ W : World, (binOp .eql 26 (.agg #[.int .i64 x, .int .i64 y, .int .i64 z1]) (.agg #[.int .i64 a, .int .i64 b, .int .i64 d])).run Tryd.prog W = .ok (.bool ε) W := fun W => by rw [← hε.out]; exact eqPr x y z1 a b d W
      have HSN := Lib.hid hsn
      clear hsn
      go_upto_region 7 with fail
      refine wp_region_below mixed (by kernel_rfl) ?_
      repeat (go_big_quiet_step (fail))
      refine wpQuiet_nil ?_
      intro W5 hw'
      obtain ⟨⟨_, hb5⟩, hw''⟩ := hw'
      subst hw''
      have HB5 := Lib.hid (nx hB.out hb5)
      have HO5 := Lib.hid (hO.out.below hb5)
      clear k1 k2 k3 p1 p2 p3 hb5
      cases ε with
      | true =>
        have hxe : (x, y, z1) = (a, b, d) := by
          obtain ⟨rfl, rfl, rfl⟩ := of_decide_eq_true hε.out
          rfl
        have HS2 : Hid (agnH k (l.take (j + 1)) (a, b, d) (m, v) = D) := Lib.hid (by rw [HSN.out, if_pos hxe, List.append_nil])
        clear hxe
        go_wp2
        go_roundw
        case rel => exact ⟨j + 1, q2, c2, A2, by omega, by omega, by go_num, rfl, by rw [HS2.out]; exact hLn, by rw [HS2.out]; exact HO5, HB5⟩
        case measure => simp [intOf]; omega
      | false =>
        have hxe : ¬ (x, y, z1) = (a, b, d) := fun h => by
          have h1 := of_decide_eq_false hε.out
          simp only [Prod.mk.injEq] at h
          exact h1 h
        have HS1 : Hid (agnH k (l.take (j + 1)) (a, b, d) (m, v) = D ++ (if (z || !f4) = true then [((x, y, z1), (m', v'))] else [])) := Lib.hid (by rw [HSN.out, if_neg hxe])
        clear hxe
        obtain ⟨w1, w2, w3, w4, w5⟩ := HCELL.out _ HB5.out
        have hxr := HX.out _ HB5.out
        have y1 : ∀ (P : NxW W5), P.W.cell? ⟨w.heap.size, 1, none⟩ = some (.int .i64 k) := NxW.cell (hxr.1.cell 1 rfl)
        have hone : Hid (([(x, y, z1)] : List P3).length = 1) := Lib.hid rfl
        have hLL : Hid ((prsH D).length + 1 ≤ 1000000) := Lib.hid (by have := hLn.out; have := hbig.out; omega)
        have HPS : Hid (prsH (D ++ [((x, y, z1), (m', v'))]) = prsH D ++ [(x, y, z1)]) := Lib.hid (prsH_snoc D _)
        have hlenS : Hid ((prsH D ++ [(x, y, z1)]).length = q2 + 1) := Lib.hid (by rw [List.length_append, hLn.out]; rfl)
        cases z with
        | true =>
          have HS2 : Hid (agnH k (l.take (j + 1)) (a, b, d) (m, v) = D ++ [((x, y, z1), (m', v'))]) := Lib.hid (by rw [HS1.out]; rfl)
          clear w1 w2 w3 w4 w5 hxr
          go_wp2
          refine wp_region_below mixed (by kernel_rfl) ?_
          repeat (go_big_quiet_step (fail))
          refine wpQuiet_nil ?_
          intro W6 hw'
          obtain ⟨⟨_, hb6⟩, hw''⟩ := hw'
          subst hw''
          have HB6 := Lib.hid (nx HB5.out hb6)
          have HO6 := Lib.hid (HO5.out.below hb6)
          obtain ⟨w1, w2, w3, w4, w5⟩ := HCELL.out _ HB6.out
          clear y1 hb6
          go_wp2_with (at_builtin; (refine app_pr rfl (.tmp 61) (.tmp 67) rfl W0.heap.size _ (prsH D) (some ⟨W6.heap.size, 0, none⟩) [(x, y, z1)] 1 1 hone rfl rfl (HO6.out.below (newB _ _)) (prd_one (by refine ⟨?_, ?_, ?_⟩ <;> simp)) hLL (nxA HB6.out _).size ?_); intro V7 W7 ho7 hb7; obtain ⟨A7, c7, hv7, -, -, -⟩ := ho7.form; rw [hlenS.out] at hv7; subst hv7; have HO7 := Lib.hid ho7; have HB7 := Lib.hid ((nxA HB6.out _).trans hb7); clear ho7 hb7)
          go_roundw
          case rel => exact ⟨j + 1, q2 + 1, c7, A7, by omega, by omega, by go_num, rfl, by rw [HS2.out, HPS.out]; exact hlenS, by rw [HS2.out, HPS.out]; exact HO7, HB7⟩
          case measure => simp [intOf]; omega
        | false =>
          have HCM2 : Hid (Cmp k u [(m', v'), (m, v)] ↔ f4 = true) := Lib.hid (HCM.out rfl)
          have h2n : Hid (([(m', v'), (m, v)] : List P2).length = 2) := Lib.hid rfl
          have h2m : Hid (2 ≤ 1000) := Lib.hid (by decide)
          have HCC : Hid (∀ (g : Nat) (W : World), W.cell? ⟨g, 0, none⟩ = some (.int .i64 m') ∧ W.cell? ⟨g, 1, none⟩ = some (.int .i64 v') ∧ W.cell? ⟨g, 2, none⟩ = some (.int .i64 m) ∧ W.cell? ⟨g, 3, none⟩ = some (.int .i64 v) → Calls Tryd.prog 41 #[ra s k u hm, .slice (some ⟨g, 0, none⟩) 2 2] W fun e w' => e = .returned (.bool f4) ∧ Below W.heap.size W w') := Lib.hid (fun g W h => refCompat_is s k u hm (some ⟨g, 0, none⟩) 2 2 _ W (ard_two h) h2n h2m HCM2)
          have HXA : Hid (∀ W, Below W0.heap.size W0 W → RS4 W w.heap.size s k u hm ∧ RS2 W (w.heap.size + 1 + 1) m v ∧ (W.cell? ⟨g, o + j * 5 + 3, none⟩ = some (.int .i64 m') ∧ W.cell? ⟨g, o + j * 5 + 4, none⟩ = some (.int .i64 v'))) := Lib.hid (fun W hW => ⟨(HXS.out W hW).1, (HXS.out W hW).2.2, (HCELL.out W hW).2.2.2⟩)
          clear y1 w1 w2 w3 w4 w5 hxr
          go_upto_region 8 with fail
          go_region_held3 (fun W => RS4 W w.heap.size s k u hm ∧ RS2 W (w.heap.size + 1 + 1) m v ∧ (W.cell? ⟨g, o + j * 5 + 3, none⟩ = some (.int .i64 m') ∧ W.cell? ⟨g, o + j * 5 + 4, none⟩ = some (.int .i64 v')))
            (first
              | exact HXA.out _ (nx HB5.out (bdD (Below.refl _ _)))
              | exact HXA.out _ (nxA (nx HB5.out (bdD (Below.refl _ _))) _)
              | exact HXA.out _ HB6.out)
            (first
              | (go_at_call 41; (with_reducible refine (HCC.out W5.heap.size _ (by refine ⟨?_, ?_, ?_, ?_⟩ <;> simp)).mono ?_); rintro e W6 ⟨rfl, hbb6⟩; have HB6 : Hid (Below W0.heap.size W0 W6) := Lib.hid (nx (nxA (nx HB5.out (bdD (Below.refl _ _))) _) hbb6); have HO6 := Lib.hid ((HO5.out.below (nxA (bdD (Below.refl _ _)) _)).below hbb6); clear hbb6))
          all_goals (
            cases f4 with
            | true =>
              have HS2 : Hid (agnH k (l.take (j + 1)) (a, b, d) (m, v) = D) := Lib.hid (by rw [HS1.out]; exact List.append_nil D)
              go_wp2
              go_roundw
              case rel => exact ⟨j + 1, q2, c2, A2, by omega, by omega, by go_num, rfl, by rw [HS2.out]; exact hLn, by rw [HS2.out]; exact HO6, HB6⟩
              case measure => simp [intOf]; omega
            | false =>
              have HS2 : Hid (agnH k (l.take (j + 1)) (a, b, d) (m, v) = D ++ [((x, y, z1), (m', v'))]) := Lib.hid (by rw [HS1.out]; rfl)
              obtain ⟨w1, w2, w3, w4, w5⟩ := HCELL.out _ HB6.out
              go_wp2_with (at_builtin; (refine app_pr rfl (.tmp 61) (.tmp 67) rfl W0.heap.size _ (prsH D) (some ⟨W6.heap.size, 0, none⟩) [(x, y, z1)] 1 1 hone rfl rfl (HO6.out.below (newB _ _)) (prd_one (by refine ⟨?_, ?_, ?_⟩ <;> simp)) hLL (nxA HB6.out _).size ?_); intro V7 W7 ho7 hb7; obtain ⟨A7, c7, hv7, -, -, -⟩ := ho7.form; rw [hlenS.out] at hv7; subst hv7; have HO7 := Lib.hid ho7; have HB7 := Lib.hid ((nxA HB6.out _).trans hb7); clear ho7 hb7)
              go_roundw
              case rel => exact ⟨j + 1, q2 + 1, c7, A7, by omega, by omega, by go_num, rfl, by rw [HS2.out, HPS.out]; exact hlenS, by rw [HS2.out, HPS.out]; exact HO7, HB7⟩
              case measure => simp [intOf]; omega)
    · have hjn : j = n := by omega
      subst hjn
      have HDE : Hid (prsH D = L) := Lib.hid (by
        rw [← HLE.out, ← hD.out, List.take_of_length_le (by rw [hn.out]; omega)])
      have hqq : q2 = q := by rw [← hLn.out, HDE.out]; exact hq.out
      subst hqq
      have HPF : Hid (PRd WR A2 L) := Lib.hid (by
        have h1 := hO.out
        rw [HDE.out] at h1
        obtain ⟨A3, c3, hv, -, hr, -⟩ := h1.form
        injection hv with hv
        rw [hv]
        exact hr)
      go_wp2
      go_ret
      exact ⟨⟨A2, ⟨c2, rfl⟩, HPF.out⟩, nx HB0.out hB.out⟩
end Go.Proofs.YthclgccgkdijbaaDoor
