/- The reference's Minimal, walked. Contracts of the program: compareSets, with cmp.Compare, cmp.Or and slices.Compare; slices.SortFunc at a row of sets, by the library's contract. -/
import Derived.Test.YtohjllnfnkajjaaGreatQ3
import Derived.Test.YtohjllnfnkajjaaGreatIdn
import Derived.Shelf.SlSortCmp.Whole1
import Derived.Shelf.SlSortCmp.NoneTotal
import Derived.Lib.OwnBridge
import Derived.Ground.SlsfProg
import Derived.Test.YtohjllnfnkajjaaGreatSlay
namespace Go.Proofs.YtohjllnfnkajjaaGreat
open Go.RowKit
set_option linter.unusedVariables false
set_option linter.unusedSimpArgs false

/-- The box of an expression, cell by cell. -/
abbrev Y5 (W : World) (b : Nat) (k : Int) (s : ByteArray) (m u : Int) (A : Option Addr) (n c : Nat) : Prop :=
  W.cell? ⟨b, 0, none⟩ = some (.int .i64 k) ∧ W.cell? ⟨b, 1, none⟩ = some (.string s) ∧ W.cell? ⟨b, 2, none⟩ = some (.int .i64 m) ∧ W.cell? ⟨b, 3, none⟩ = some (.int .i64 u) ∧ W.cell? ⟨b, 4, none⟩ = some (.slice A n c)
theorem Blk.y5 {W : World} {b : Nat} {k : Int} {s : ByteArray} {m u : Int} {A : Option Addr} {n c : Nat} (h : Blk W b [.int .i64 k, .string s, .int .i64 m, .int .i64 u, .slice A n c]) : Y5 W b k s m u A n c :=
  ⟨h.cell 0 rfl, h.cell 1 rfl, h.cell 2 rfl, h.cell 3 rfl, h.cell 4 rfl⟩
/-- So far no bit can be left out. -/
def lstB (f : List Bool → Bool) (n b j : Nat) : Bool := (List.range j).all fun i => !(b.testBit i && f ((bitS n b).set i false))
theorem lstB_succ (f : List Bool → Bool) (n b j : Nat) : lstB f n b (j + 1) = (lstB f n b j && !(b.testBit j && f ((bitS n b).set j false))) := by simp [lstB, List.range_succ]
theorem minB_lst {f : List Bool → Bool} {n b : Nat} (h : f (bitS n b) = true) : minB f n b = lstB f n b n := by unfold minB lstB; rw [h, Bool.true_and]
theorem minB_not {f : List Bool → Bool} {n b : Nat} (h : f (bitS n b) = false) : minB f n b = false := by unfold minB; rw [h, Bool.false_and]
theorem pow_wrap (i : Nat) (hi : i < 10) : IntKind.i64.wrap ((2 : Int) ^ i) = ((2 ^ i : Nat) : Int) := by
  obtain rfl | rfl | rfl | rfl | rfl | rfl | rfl | rfl | rfl | rfl : i = 0 ∨ i = 1 ∨ i = 2 ∨ i = 3 ∨ i = 4 ∨ i = 5 ∨ i = 6 ∨ i = 7 ∨ i = 8 ∨ i = 9 := by omega
  all_goals rfl
theorem andNot_is (b i : Nat) (hb : b < 256) (hi : i < 8) : bits BinOp.andNot IntKind.i64 (b : Int) ((2 ^ i : Nat) : Int) = (clrN b i : Int) := by
  have h := (clr_all ⟨b, hb⟩ ⟨i, hi⟩).1
  simp only at h
  rw [← h]
  rfl
/-- A slice of slices that reads as these lists. -/
def SRd (w : World) (A : Option Addr) (X : List (List Int)) : Prop :=
  X ≠ [] → ∃ b o, A = some ⟨b, o, none⟩ ∧ b < w.heap.size ∧ ∀ i, i < X.length → ∃ A' c', w.cell? ⟨b, o + i, none⟩ = some (.slice A' (X.getD i []).length c') ∧ (X.getD i []).length ≤ c' ∧ IRd w A' (X.getD i [])
theorem SRd.below {w w' : World} {A : Option Addr} {X : List (List Int)} (h : SRd w A X) (hb : Below w.heap.size w w') : SRd w' A X := fun hx => by
  obtain ⟨b, o, hA, hlt, hc⟩ := h hx
  refine ⟨b, o, hA, Nat.lt_of_lt_of_le hlt hb.size, fun i hi => ?_⟩
  obtain ⟨A', c', h1, h2, h3⟩ := hc i hi
  exact ⟨A', c', (hb.cell (p := ⟨b, o + i, none⟩) hlt).trans h1, h2, h3.below hb⟩
theorem NRd.ints {w : World} {A : Option Addr} {s : List Nat} (h : NRd w A s) : IRd w A (s.map Int.ofNat) := fun hx => by
  obtain ⟨b, o, hA, hlt, hc⟩ := h (by rintro rfl; exact hx rfl)
  refine ⟨b, o, hA, hlt, fun i hi => ?_⟩
  rw [List.length_map] at hi
  rw [hc i hi]
  simp [List.getD_eq_getElem?_getD, List.getElem?_eq_getElem hi]
theorem SX.srd {w : World} {base : Nat} {V : Value} {vs : List Value} {X : List (List Nat)} (hO : OwnS w base V vs) (h : SX w base vs X) : ∃ A c, V = .slice A X.length c ∧ SRd w A (ofN X) ∧ X.length ≤ c := by
  by_cases hne : vs = []
  · subst hne
    have hX : X = [] := List.eq_nil_of_length_eq_zero h.len.symm
    subst hX
    obtain ⟨A, c, hV, hc⟩ := hO.shape
    exact ⟨A, c, hV, fun hx => absurd rfl hx, hc⟩
  · obtain ⟨g, c, hV, hc, hb, hg, hcell, _⟩ := hO.own hne
    refine ⟨_, c, by rw [hV, h.len], fun _ => ⟨g, 0, rfl, hg, fun i hi => ?_⟩, by rw [← h.len]; exact hc⟩
    rw [List.length_map] at hi
    have hi2 : i < vs.length := by rw [h.len]; exact hi
    have h1 := hcell i _ (List.getElem?_eq_getElem hi2)
    have h2 := h.at_ i _ _ (List.getElem?_eq_getElem hi2) (List.getElem?_eq_getElem hi)
    obtain ⟨A', c', hv, hc', hr⟩ := h2.form
    have h3 : (ofN X).getD i [] = (X[i]).map Int.ofNat := by simp [List.getD_eq_getElem?_getD, List.getElem?_eq_getElem hi]
    rw [h3, List.length_map, Nat.zero_add, h1, hv]
    exact ⟨A', c', rfl, hc', hr.ints⟩
theorem OwnS.cellAt' {w : World} {base g n c : Nat} {vs : List Value} (h : OwnS w base (.slice (some ⟨g, 0, none⟩) n c) vs) {i : Nat} {u : Value} (hu : vs[i]? = some u) : w.cell? ⟨g, i, none⟩ = some u := by
  obtain ⟨g', c', hV, _, _, _, hc, _⟩ := h.own (by rintro rfl; simp at hu)
  injection hV with h1 h2 h3
  injection h1 with h1
  injection h1 with h1
  subst h1
  exact hc i u hu
theorem OwnS.fzAt {w : World} {base g n c : Nat} {vs : List Value} (h : OwnS w base (.slice (some ⟨g, 0, none⟩) n c) vs) (o : Nat) : w.frozen? ⟨g, o, none⟩ = false := by
  rcases h.2 with ⟨hv, _⟩ | ⟨g', cap, cur, hv, _, hg, _⟩
  · cases hv
  · injection hv with h1 h2 h3
    injection h1 with h1
    injection h1 with h1
    subst h1
    simp [World.frozen?, hg]
theorem rset_ex (b n : Nat) (w : World) (hb : b < 256) (hn : n ≤ 8) :
    Calls Tryz.prog 14 #[.int .i64 (b : Int), .int .i64 (n : Int)] w fun x w' => (∃ g, x = .returned (.slice (some ⟨g, 0, none⟩) n n) ∧ Blk w' g (bvs (bitS n b))) ∧ Below w.heap.size w w' :=
  (rset_is b n w hb hn).mono fun _ _ h => ⟨⟨_, h.1, h.2.1⟩, h.2.2⟩
set_option maxHeartbeats 16000000 in
set_option maxRecDepth 100000 in
theorem rmin_yes {e : Ex} {L : List A3} (k : Int) (s : ByteArray) (m u : Int) (A : Option Addr) (n c : Nat) (w : World) (hT : TIn (Lo w.heap.size) w ⟨k, s, m, u, A, n, c⟩ e) (hL : Hid (VL e L)) :
    Calls Tryz.prog 28 #[xe k s m u A n c] w fun x w' => (∃ X A c, x = .returned (.slice A X.length c) ∧ MinOf (e.hld L) L.length X ∧ SRd w' A (ofN X) ∧ X.length ≤ c) ∧ Below w.heap.size w w' := by
  have HT0 := Lib.hid (hT.grow (.cells #[.int .i64 k, .string s, .int .i64 m, .int .i64 u, .slice A n c] 28))
  have HTW := Lib.hid hT
  have HK0 := Lib.hid (Blk.new w [.int .i64 k, .string s, .int .i64 m, .int .i64 u, .slice A n c] 28 rfl)
  obtain ⟨N, hN⟩ : ∃ N, Hid (L.length = N) := ⟨_, rfl⟩
  have hn81 : N ≤ 8 ∧ 1 ≤ N := by have h1 := hL.out.n8; have h3 := hL.out.pos; have h2 := hN.out; omega
  have hn8 := hn81.1
  have b0 : ((N : Int) == 0) = false := by rw [beq_eq_false_iff_ne]; omega
  have e0 := pow_wrap N (by omega)
  have e00 := u64_wrap N (by omega)
  obtain ⟨P, hP⟩ : ∃ P, Hid (2 ^ N = P) := ⟨2 ^ N, Lib.hid rfl⟩
  have hP2 : P ≤ 256 := by have h := hP.out; have h2 := Nat.pow_le_pow_right (n := 2) (by omega) hn8; omega
  rw [hP.out] at e0
  clear hT hn81
  go_enter Tryz.func28, Tryz.ntmps28
  go_wp2_with (first | (go_at_call 13; refine (refAtoms_yes (e := e) (L := L) k s m u A n c _ HT0.out hL).mono ?_; rintro x W1 ⟨⟨A1, n1, c1, rfl, hn1, hq1⟩, hb1⟩; have hnn : n1 = N := hn1.symm.trans hN.out; subst hnn; have HK1 := Lib.hid (HK0.out.up hb1 (by simp)); have HB1 := Lib.hid (dn1 hb1); have HT1 := Lib.hid (HTW.out.up HB1.out); clear hb1 hn1 hq1))
  have HLT : Hid (w.heap.size < W1.heap.size) := Lib.hid HK1.out.lt
  clear HT0 HTW HK0
  go_loopw [4, 5] (fun v i wr => ∃ (b : Nat) (A2 : Option Addr) (k2 c2 : Nat) (vs : List Value) (X : List (List Nat)), b ≤ P ∧ i = .int .i64 b ∧ v = .slice A2 k2 c2 ∧ Hid (OwnS wr W1.heap.size (.slice A2 k2 c2) vs) ∧ Hid (SX wr W1.heap.size vs X) ∧ Hid (MinUp (e.hld L) n1 b X) ∧ Hid (X.length ≤ b) ∧ Hid (Below W1.heap.size W1 wr)) (fun _ i _ => P - (intOf i).toNat)
  case atStart => exact ⟨0, none, 0, 0, [], [], by omega, rfl, rfl, OwnS.nil _ _, SX.nil _ _, MinUp.zero _ _, Nat.le_refl _, Below.refl _ _⟩
  case round =>
    obtain ⟨b, A2, k2, c2, vs, X, hb, rfl, rfl, hO, hX, hM, hXl, hB⟩ := hrel
    obtain ⟨WR, hWR⟩ : ∃ W, W = wr := ⟨_, rfl⟩
    subst hWR
    by_cases hlt : (b : Int) < (P : Int)
    · have hb256 : b < 256 := by omega
      have e5 : IntKind.i64.wrap ((b : Int) + 1) = (b : Int) + 1 := by rw [IntKind.wrap_i64]; omega
      have HALL : Hid (∀ W, Below WR.heap.size WR W → Below WR.heap.size WR W ∧ Y5 W w.heap.size k s m u A n c) := Lib.hid (fun W h => ⟨h, ((HK1.out.up hB.out HLT.out).up h (Nat.lt_of_lt_of_le HLT.out hB.out.size)).y5⟩)
      have HALT : Hid (∀ W, Below WR.heap.size WR W → TIn (Lo W.heap.size) W ⟨k, s, m, u, A, n, c⟩ e) := Lib.hid (fun W h => HT1.out.up (nx hB.out h))
      obtain ⟨φ, hφ⟩ : ∃ φ, Hid (e.hld L (bitS n1 b) = φ) := ⟨_, rfl⟩
      cases φ with
      | false =>
        have hM2 : Hid (MinUp (e.hld L) n1 (b + 1) X) := Lib.hid (hM.out.skip (minB_not hφ.out))
        go_wp2
        go_region_held3 (fun W => Below WR.heap.size WR W ∧ Y5 W w.heap.size k s m u A n c)
      (first
        | exact HALL.out _ (Below.refl _ _)
        | exact HALL.out _ (bdD (Below.refl _ _))
        | (go_split_ands; exact HALL.out _ (nx (by assumption) hb2)))
      (first
        | (go_at_call 14; (with_reducible refine (rset_ex b n1 _ hb256 hn8).mono ?_); rintro x W6 ⟨⟨g6, rfl, hg2⟩, hb2⟩; go_split_ands; have HSZ : Hid (SI W6 (bitS n1 b) (some ⟨g6, 0, none⟩) n1) := Lib.hid ⟨bitS_len _ _, hg2.br, by omega⟩; have HTZ := Lib.hid (HALT.out _ (nx (by assumption) hb2)))
        | (go_at_call 18; (with_reducible refine (refHolds_yes (e := e) (L := L) (S := bitS n1 b) k s m u A n c _ n1 n1 _ HTZ.out HSZ.out hL hφ).mono ?_); rintro x W7 ⟨rfl, hb2⟩))
        all_goals (
          go_split_ands
          go_wp2
          go_roundw
          case rel => exact ⟨b + 1, A2, k2, c2, vs, X, by omega, by go_num, rfl, hO.out.below (by assumption), hX.out.below (by assumption), hM2, (by have := hXl.out; show _ ≤ _; omega), nx hB.out (by assumption)⟩
          case measure => simp [intOf]; omega)
      | true =>
        go_upto_region 8 with fail
        go_cut [27] from 22 to 27 (fun l wx => l = .bool false ∧ Below WR.heap.size WR wx)
        case first =>
          go_region_held3 (fun W => Below WR.heap.size WR W ∧ Y5 W w.heap.size k s m u A n c)
          (first
            | exact HALL.out _ (Below.refl _ _)
            | exact HALL.out _ (bdD (Below.refl _ _))
            | (go_split_ands; exact HALL.out _ (nx (by assumption) hb2)))
          (first
            | (go_at_call 14; (with_reducible refine (rset_ex b n1 _ hb256 hn8).mono ?_); rintro x W6 ⟨⟨g6, rfl, hg2⟩, hb2⟩; go_split_ands; have HSZ : Hid (SI W6 (bitS n1 b) (some ⟨g6, 0, none⟩) n1) := Lib.hid ⟨bitS_len _ _, hg2.br, by omega⟩; have HTZ := Lib.hid (HALT.out _ (nx (by assumption) hb2)))
            | (go_at_call 18; (with_reducible refine (refHolds_yes (e := e) (L := L) (S := bitS n1 b) k s m u A n c _ n1 n1 _ HTZ.out HSZ.out hL hφ).mono ?_); rintro x W7 ⟨rfl, hb2⟩))
          all_goals (go_split_ands; go_wp2_with fail; go_meet; exact ⟨rfl, by assumption⟩)
        case rest =>
          obtain ⟨rfl, hBx⟩ := hcut
          have HBX := Lib.hid hBx
          clear hBx
          go_upto_block 2 with fail
          go_cut [6] from 28 to 49 (fun l wx => l = .bool (lstB (e.hld L) n1 b n1) ∧ Below WR.heap.size WR wx)
          case first =>
            clear HALL HALT
            go_wp2_with fail
            go_loopw [6, 7] (fun l i wr => ∃ (j : Nat), j ≤ n1 ∧ i = .int .i64 j ∧ l = .bool (lstB (e.hld L) n1 b j) ∧ Hid (Below WR.heap.size WR wr)) (fun _ i _ => n1 - (intOf i).toNat)
            case atStart => exact ⟨0, by omega, rfl, rfl, HBX.out⟩
            case round =>
              obtain ⟨j, hj, rfl, rfl, hZ⟩ := hrel
              by_cases hjl : (j : Int) < (n1 : Int)
              · have e6 : IntKind.i64.wrap ((j : Int) + 1) = (j : Int) + 1 := by rw [IntKind.wrap_i64]; omega
                have e7 := u64_wrap j (by omega)
                have HALL : Hid (∀ W, Below wr.heap.size wr W → Below wr.heap.size wr W ∧ Y5 W w.heap.size k s m u A n c) := Lib.hid (fun W h => ⟨h, ((HK1.out.up (nx hB.out hZ.out) HLT.out).up h (Nat.lt_of_lt_of_le HLT.out (nx hB.out hZ.out).size)).y5⟩)
                have HALT : Hid (∀ W, Below wr.heap.size wr W → TIn (Lo W.heap.size) W ⟨k, s, m, u, A, n, c⟩ e) := Lib.hid (fun W h => HT1.out.up (nx (nx hB.out hZ.out) h))
                obtain ⟨β, hβ⟩ : ∃ β, Hid (b.testBit j = β) := ⟨_, rfl⟩
                have hq2 := bit_is b j hb256 hβ
                have hls := lstB_succ (e.hld L) n1 b j
                rw [hβ.out] at hls
                cases β with
                | false =>
                  have hls2 : Hid (lstB (e.hld L) n1 b (j + 1) = lstB (e.hld L) n1 b j) := by show _ = _; rw [hls]; simp
                  clear hls
                  go_wp2_with fail
                  go_quiet (fail)
                  go_wp2_with fail
                  go_roundw
                  case rel => exact ⟨j + 1, by omega, by go_num, (by rw [hls2.out]), bdN hZ.out _⟩
                  case measure => simp [intOf]; omega
                | true =>
                  have hcl : clrN b j < 256 := clrN_lt hb256 (by omega)
                  have e8 := pow_wrap j (by omega)
                  have e9 := andNot_is b j hb256 (by omega)
                  obtain ⟨q2, hq3⟩ : ∃ q2, Hid (2 ^ j = q2) := ⟨2 ^ j, Lib.hid rfl⟩
                  rw [hq3.out] at e8 e9
                  obtain ⟨cl, hcl2⟩ : ∃ cl, Hid (clrN b j = cl) := ⟨_, Lib.hid rfl⟩
                  rw [hcl2.out] at e9 hcl
                  obtain ⟨φ2, hφ2⟩ : ∃ φ2, Hid (e.hld L (bitS n1 cl) = φ2) := ⟨_, Lib.hid rfl⟩
                  have hbs := bitS_clr (n := n1) (b := b) (i := j) hn8 hb256 (by omega)
                  rw [hcl2.out] at hbs
                  rw [← hbs, hφ2.out, Bool.true_and] at hls
                  have HLS := Lib.hid hls
                  clear hls hbs
                  go_upto_region 13 with fail
                  go_cut [49] from 33 to 49 (fun l wx => l = .bool φ2 ∧ Below wr.heap.size wr wx)
                  case first =>
                    go_region_held3 (fun W => Below wr.heap.size wr W ∧ Y5 W w.heap.size k s m u A n c)
                    (first
                      | exact HALL.out _ (Below.refl _ _)
                      | exact HALL.out _ (bdD (Below.refl _ _))
                      | (go_split_ands; exact HALL.out _ (nx (by assumption) hb2)))
                    (first
                      | (go_at_call 14; (with_reducible refine (rset_ex cl n1 _ hcl hn8).mono ?_); rintro x W6 ⟨⟨g6, rfl, hg2⟩, hb2⟩; go_split_ands; have HSZ : Hid (SI W6 (bitS n1 cl) (some ⟨g6, 0, none⟩) n1) := Lib.hid ⟨bitS_len _ _, hg2.br, by omega⟩; have HTZ := Lib.hid (HALT.out _ (nx (by assumption) hb2)))
                      | (go_at_call 18; (with_reducible refine (refHolds_yes (e := e) (L := L) (S := bitS n1 cl) k s m u A n c _ n1 n1 _ HTZ.out HSZ.out hL hφ2).mono ?_); rintro x W7 ⟨rfl, hb2⟩))
                    all_goals (go_split_ands; go_wp2_with fail; go_meet; exact ⟨rfl, by assumption⟩)
                  case rest =>
                    obtain ⟨rfl, hBz⟩ := hcut
                    have HBZ := Lib.hid (nx hZ.out hBz)
                    clear hBz
                    cases φ2 with
                    | true =>
                      go_wp2_with fail
                      go_roundw
                      case rel => exact ⟨j + 1, by omega, by go_num, (by rw [HLS.out]; simp), HBZ.out⟩
                      case measure => simp [intOf]; omega
                    | false =>
                      go_wp2_with fail
                      go_roundw
                      case rel => exact ⟨j + 1, by omega, by go_num, (by rw [HLS.out]; simp), HBZ.out⟩
                      case measure => simp [intOf]; omega
              · have hje : j = n1 := by omega
                subst hje
                go_wp2_with fail
                go_meet
                exact ⟨rfl, hZ.out⟩
          case rest =>
            obtain ⟨rfl, hBy⟩ := hcut
            have HBY := Lib.hid hBy
            have hmin := minB_lst (f := e.hld L) hφ.out
            obtain ⟨μ, hμ⟩ : ∃ μ, Hid (lstB (e.hld L) n1 b n1 = μ) := ⟨_, Lib.hid rfl⟩
            rw [hμ.out] at hmin ⊢
            have HMIN := Lib.hid hmin
            clear hBy hmin HALL HALT HBX
            cases μ with
            | false =>
              have hM2 : Hid (MinUp (e.hld L) n1 (b + 1) X) := Lib.hid (hM.out.skip HMIN.out)
              go_wp2
              go_roundw
              case rel => exact ⟨b + 1, A2, k2, c2, vs, X, by omega, by go_num, rfl, hO.out.below HBY.out, hX.out.below HBY.out, hM2, (by have := hXl.out; show _ ≤ _; omega), nx hB.out HBY.out⟩
              case measure => simp [intOf]; omega
            | true =>
              obtain ⟨xl, hxl⟩ : ∃ xl, Hid (X.length = xl) := ⟨_, Lib.hid rfl⟩
              have hxb : xl ≤ 256 := by have h1 := hXl.out; have h2 := hxl.out; omega
              obtain ⟨nv, hnv⟩ : ∃ nv, Hid ((bitL n1 b).length = nv) := ⟨_, Lib.hid rfl⟩
              have hnv8 : nv ≤ 8 := by have h1 := bitL_len n1 b; have h2 := hnv.out; omega
              have hvl : Hid (vs.length = xl) := Lib.hid (hX.out.len.trans hxl.out)
              have hl2 : Hid (vs.length + 1 ≤ 1000000) := by have := hvl.out; show _ ≤ _; omega
              have e9 : IntKind.i64.wrap ((xl : Int) + 1 - 1) = (xl : Int) := by rw [IntKind.wrap_i64]; omega
              go_upto_block 4 with (first
                | (go_at_call 46; refine (rlist_is b n1 _ hb256 hn8).mono ?_; rintro x W7 ⟨⟨v, rfl, hv⟩, hb7⟩; obtain ⟨Av, cv, hVv, -, hnr⟩ := hv.form; rw [hnv.out] at hVv; subst hVv; have HB7 := Lib.hid (nx HBY.out hb7); have HW7 := Lib.hid (show W1.heap.size ≤ W7.heap.size from Nat.le_trans hB.out.size HB7.out.size); have HN7 : Hid (∀ o, OwnN (W7.alloc o) W1.heap.size (.slice Av nv cv) (bitL n1 b)) := Lib.hid (fun o => (hv.mono (Nat.le_trans hB.out.size HBY.out.size)).below (newB W7 o)); have HO7 : Hid (∀ o, OwnS (W7.alloc o) W1.heap.size (.slice A2 k2 c2) vs) := Lib.hid (fun o => hO.out.below (nxA HB7.out o)); have HX7 : Hid (∀ o, SX (W7.alloc o) W1.heap.size vs X) := Lib.hid (fun o => hX.out.below (nxA HB7.out o)); clear hv hb7 hnr)
                | (at_builtin; (refine app_sl rfl (.tmp 52) (.tmp 56) rfl W1.heap.size (.slice A2 k2 c2) vs W7.heap.size 1 (.slice Av nv cv) rfl rfl (HO7.out _) (by simp) rfl hl2 (Nat.le_trans HW7.out (by simp)) ?_); intro V2 w2 ho2 hg2 hn2; obtain ⟨g9, c9, hV2, hc9, hbg9, hlt9, -, -⟩ := ho2.own (by simp); rw [show (vs ++ [Value.slice Av nv cv]).length = xl + 1 by rw [List.length_append, List.length_singleton, hvl.out]] at hV2; subst hV2; have HO9 : Hid (OwnS w2 W1.heap.size (.slice (some ⟨g9, 0, none⟩) (xl + 1) c9) (insAt xl vs (.slice Av nv cv))) := Lib.hid (by rw [← hvl.out, insAt_end, hvl.out]; exact ho2); have HX9 := Lib.hid ((HX7.out _).grown (HO7.out _) hg2); have HN9 := Lib.hid (OwnN.grown (HO7.out _) (HN7.out _) hg2); have HB9 := Lib.hid (hB.out.trans (gB_own (gB_trans (gB_below (nxA HB7.out _) (Nat.le_refl _)) hg2) (fun g hg => (own_lt hO.out hg).1) hB.out.size)); have HG9 := Lib.hid hbg9; clear ho2 hg2 hn2 hc9 hbg9 hlt9))
              clear HN7 HO7 HX7 hO hX
              go_wp2
              go_loopw [8] (fun kk wz => ∃ (j : Nat), j ≤ xl ∧ kk = .int .i64 j ∧ Hid (OwnS wz W1.heap.size (.slice (some ⟨g9, 0, none⟩) (xl + 1) c9) (insAt j vs (.slice Av nv cv))) ∧ Hid (SX wz W1.heap.size vs X) ∧ Hid (OwnN wz W1.heap.size (.slice Av nv cv) (bitL n1 b)) ∧ Hid (∀ t ∈ X.drop j, lessB (bitL n1 b) t = true) ∧ Hid (Below W1.heap.size W1 wz)) (fun kk _ => (intOf kk).toNat)
              case atStart => exact ⟨xl, Nat.le_refl _, rfl, HO9, HX9, HN9, (by show ∀ t ∈ _, _; rw [List.drop_eq_nil_of_le (by rw [hxl.out]; exact Nat.le_refl _)]; intro t ht; cases ht), HB9⟩
              case round =>
                obtain ⟨j, hj, rfl, hOz, hXz, hNz, hTz, hBz⟩ := hrel
                have hput : ∀ (hA : ∀ t ∈ (X.take j).getLast?, lessB (bitL n1 b) t = false), MinUp (e.hld L) n1 (b + 1) (insAt j X (bitL n1 b)) := fun hA => MinUp.put (by rw [List.take_append_drop]; exact hM.out) HMIN.out (by rw [hP.out]; omega) hTz.out hA
                have HPUT := Lib.hid hput
                clear hput
                by_cases hj0 : j = 0
                · subst hj0
                  have g0 : decide (0 < (0 : Nat)) = false := rfl
                  go_wp2
                  go_quiet (fail)
                  go_wp2
                  go_roundw
                  case rel => exact ⟨b + 1, some ⟨g9, 0, none⟩, xl + 1, c9, insAt 0 vs (.slice Av nv cv), insAt 0 X (bitL n1 b), by omega, by go_num, rfl, hOz.out.below (bdN (Below.refl _ _) _), (hXz.out.ins hNz.out (Nat.zero_le _)).below (bdN (Below.refl _ _) _), HPUT.out (fun t ht => by simp at ht), (by have := hXl.out; show _ ≤ _; rw [insAt_len]; omega), bdN hBz.out _⟩
                  case measure => simp [intOf]; omega
                · obtain ⟨i, rfl⟩ : ∃ i, j = i + 1 := ⟨j - 1, by omega⟩
                  have hiX : i < X.length := by have := hxl.out; omega
                  have hiv : i < vs.length := by have := hvl.out; omega
                  obtain ⟨y, hy⟩ : ∃ y, vs[i]? = some y := ⟨_, List.getElem?_eq_getElem hiv⟩
                  obtain ⟨t, ht⟩ : ∃ t, X[i]? = some t := ⟨_, List.getElem?_eq_getElem hiX⟩
                  have hNy := hXz.out.at_ i y t hy ht
                  obtain ⟨Ay, cy, hVy, -, hry⟩ := hNy.form
                  obtain ⟨nt, hnt⟩ : ∃ nt, Hid (t.length = nt) := ⟨_, Lib.hid rfl⟩
                  rw [hnt.out] at hVy
                  subst hVy
                  obtain ⟨Ax, cx, hVx, -, hrx⟩ := hNz.out.form
                  have hax : Av = Ax := by injection hVx
                  subst hax
                  have HRY := Lib.hid hry
                  have HRX := Lib.hid hrx
                  have HY := Lib.hid hy
                  obtain ⟨δ, hδ⟩ : ∃ δ, Hid (lessB (bitL n1 b) t = δ) := ⟨_, Lib.hid rfl⟩
                  have i1 : (insAt (i + 1) vs (Value.slice Av nv cv))[i + 1]? = some (.slice Av nv cv) := by rw [insAt_get (by omega), if_neg (by omega), if_pos rfl]
                  have i0 : (insAt (i + 1) vs (Value.slice Av nv cv))[i]? = some (.slice Ay nt cy) := by rw [insAt_get (by omega), if_pos (by omega)]; exact hy
                  have HI1 := Lib.hid i1
                  have HI0 := Lib.hid i0
                  obtain ⟨WZ, hWZ⟩ : ∃ W, W = wr := ⟨_, rfl⟩
                  subst hWZ
                  have HALZ : Hid (∀ W, Below WZ.heap.size WZ W → Below WZ.heap.size WZ W ∧ W.cell? ⟨g9, i + 1, none⟩ = some (.slice Av nv cv) ∧ W.cell? ⟨g9, i, none⟩ = some (.slice Ay nt cy)) := Lib.hid (fun W h => ⟨h, (hOz.out.below h).cellAt' HI1.out, (hOz.out.below h).cellAt' HI0.out⟩)
                  have g0 : decide (0 < i + 1) = true := by simp
                  have g1 : IntKind.i64.wrap ((i : Int) + 1 - 1) = (i : Int) := by rw [IntKind.wrap_i64]; omega
                  have g2 : (i : Int) + 1 < (xl : Int) + 1 := by omega
                  have g3 : (i : Int) < (xl : Int) + 1 := by omega
                  have g4 : i < xl := by omega
                  have g5 : i < xl + 1 := by omega
                  have g6 : (0 : Int) ≤ (i : Int) + 1 := by omega
                  have g7 : (i : Int) < (xl : Int) := by omega
                  have g8 : i ≤ xl := by omega
                  have g9' : IntKind.i64.wrap (i : Int) = (i : Int) := by rw [IntKind.wrap_i64]; omega
                  have g10 : IntKind.i64.wrap ((i : Int) + 1) = (i : Int) + 1 := by rw [IntKind.wrap_i64]; omega
                  clear hNy hVx hry hrx hy i0 i1 hj0
                  go_upto_region 18 with fail
                  go_cut [74] from 61 to 74 (fun l wx => l = .bool δ ∧ Below WZ.heap.size WZ wx)
                  case first =>
                    go_region_held3 (fun W => Below WZ.heap.size WZ W ∧ W.cell? ⟨g9, i + 1, none⟩ = some (.slice Av nv cv) ∧ W.cell? ⟨g9, i, none⟩ = some (.slice Ay nt cy))
                      (first
                        | exact HALZ.out _ (Below.refl _ _)
                        | exact HALZ.out _ (bdD (Below.refl _ _))
                        | (go_split_ands; exact HALZ.out _ (nx (by assumption) hb2)))
                      (first
                        | (go_at_call 47; go_split_ands; (with_reducible refine (rless_is (bitL n1 b) t Av nv cv Ay nt cy _ (HRX.out.below ?_) (HRY.out.below ?_) hnv hnt (by omega) hδ).mono ?_); (· assumption); (· assumption); rintro x W6 ⟨rfl, hb2⟩))
                    all_goals (go_split_ands; go_wp2_with fail; go_meet; exact ⟨rfl, by assumption⟩)
                  case rest =>
                    obtain ⟨rfl, hBc⟩ := hcut
                    have HBC := Lib.hid hBc
                    have HOc := Lib.hid (hOz.out.below hBc)
                    have p1 := HOc.out.cellAt' HI1.out
                    have p0 := HOc.out.cellAt' HI0.out
                    have f1 := HOc.out.fzAt (i + 1)
                    have f0 := HOc.out.fzAt i
                    clear hBc HALZ
                    cases δ with
                    | false =>
                      go_wp2
                      go_roundw
                      case rel => exact ⟨b + 1, some ⟨g9, 0, none⟩, xl + 1, c9, insAt (i + 1) vs (.slice Av nv cv), insAt (i + 1) X (bitL n1 b), by omega, by go_num, rfl, HOc.out, (hXz.out.ins hNz.out (by omega)).below HBC.out, HPUT.out (fun z hz => by rw [List.getLast?_take, if_neg (by omega), show i + 1 - 1 = i by omega, ht] at hz; obtain rfl := Option.some.inj hz; exact hδ.out), (by have := hXl.out; show _ ≤ _; rw [insAt_len]; omega), nx hBz.out HBC.out⟩
                      case measure => simp [intOf]; omega
                    | true =>
                      have HT2 : Hid (∀ z ∈ X.drop i, lessB (bitL n1 b) z = true) := Lib.hid (fun z hz => by
                        rw [List.drop_eq_getElem_cons hiX] at hz
                        rcases List.mem_cons.1 hz with h | h
                        · rw [List.getElem?_eq_getElem hiX] at ht
                          obtain rfl := Option.some.inj ht
                          rw [h]; exact hδ.out
                        · exact hTz.out z h)
                      have ho1 := HOc.out.set (i + 1) (.slice Ay nt cy)
                      have ho2 := ho1.set i (.slice Av nv cv)
                      rw [insAt_down (by omega) HY.out] at ho2
                      have hx1 := SX.grown HOc.out (hXz.out.below HBC.out) (gB_set wc g9 (i + 1) (.slice Ay nt cy))
                      have hx2 := SX.grown ho1 hx1 (gB_set _ g9 i (.slice Av nv cv))
                      have hn1' := OwnN.grown HOc.out (hNz.out.below HBC.out) (gB_set wc g9 (i + 1) (.slice Ay nt cy))
                      have hn2' := OwnN.grown ho1 hn1' (gB_set _ g9 i (.slice Av nv cv))
                      have HO2 := Lib.hid ho2
                      have HX2 := Lib.hid hx2
                      have HN2 := Lib.hid hn2'
                      have HB2 := Lib.hid (((nx hBz.out HBC.out).setCell (p := ⟨g9, i + 1, none⟩) HG9.out (.slice Ay nt cy)).setCell (p := ⟨g9, i, none⟩) HG9.out (.slice Av nv cv))
                      clear ho1 ho2 hx1 hx2 hn1' hn2'
                      go_wp2
                      go_roundw
                      case rel => exact ⟨i, by omega, by go_num, HO2, HX2, HN2, HT2, HB2⟩
                      case measure => first | (simp [intOf]; done) | (simp [intOf]; omega)
    · have hbe : b = P := by omega
      have hfin : Hid (MinOf (e.hld L) L.length X) := Lib.hid (by have h := hM.out; rw [hbe, ← hP.out, ← hN.out] at h; exact h)
      obtain ⟨A3', c3, hV, hrd, hcc⟩ := SX.srd hO.out hX.out
      have HR := Lib.hid (And.intro hrd hcc)
      have hV2 : A2 = A3' ∧ k2 = X.length ∧ c2 = c3 := by simpa using hV
      obtain ⟨rfl, rfl, rfl⟩ := hV2
      clear hrd hcc hV
      go_wp2
      go_ret
      exact ⟨⟨X, _, _, rfl, hfin.out, HR.out.1, HR.out.2⟩, nx HB1.out hB.out⟩
end Go.Proofs.YtohjllnfnkajjaaGreat

namespace Go.Proofs.YtohjllnfnkajjaaGreat
open Go.RowKit
open Go.Sort (grow SWO SortedIn PermIn Holds heap_grow_old putRow mapBlock ahead)
set_option linter.unusedVariables false
set_option linter.unusedSimpArgs false

/-! ### The order, as numbers below, at and above nought -/
def lexC : List Nat → List Nat → Int
  | [], [] => 0
  | [], _ :: _ => -1
  | _ :: _, [] => 1
  | a :: r, b :: s => if a = b then lexC r s else if a < b then -1 else 1
def cmpS (s t : List Nat) : Int := if ord (s.length : Int) (t.length : Int) = 0 then lexC s t else ord (s.length : Int) (t.length : Int)
theorem lexC_lt : ∀ {s t : List Nat}, s.length = t.length → (lexC s t < 0 ↔ lexB s t = true)
  | [], [], _ => by rw [lexC, lexB]; simp; simp
  | [], _ :: _, h => by simp at h
  | _ :: _, [], h => by simp at h
  | a :: r, b :: s, h => by
    rw [lexC, lexB]
    by_cases e : a = b
    · rw [if_pos e, if_pos e]
      exact lexC_lt (by simpa using h)
    · rw [if_neg e, if_neg e]
      by_cases k : a < b
      · rw [if_pos k, decide_eq_true k]; simp
      · rw [if_neg k, decide_eq_false k]; simp
theorem cmpS_lt (s t : List Nat) : cmpS s t < 0 ↔ lessB s t = true := by
  unfold cmpS lessB
  by_cases e : s.length = t.length
  · rw [if_pos e, e, ord_self, if_pos rfl]
    exact lexC_lt e
  · rw [if_neg e, decide_eq_true_iff]
    rcases ord_cases (s.length : Int) (t.length : Int) with ⟨h, k⟩ | ⟨h, k⟩ | ⟨h, k⟩
    · rw [k]; simp; omega
    · rw [k]; simp; omega
    · omega
theorem lexC_drop {s t : List Nat} {j : Nat} (h1 : j < s.length) (h2 : j < t.length) : lexC (s.drop j) (t.drop j) = if s.getD j 0 = t.getD j 0 then lexC (s.drop (j + 1)) (t.drop (j + 1)) else if s.getD j 0 < t.getD j 0 then -1 else 1 := by
  rw [List.drop_eq_getElem_cons h1, List.drop_eq_getElem_cons h2, lexC]
  simp [List.getD_eq_getElem?_getD, List.getElem?_eq_getElem h1, List.getElem?_eq_getElem h2]
theorem nan_is (x : Int) (w : World) : Calls Tryz.prog 110 #[.int .i64 x] w fun e w' => e = .returned (.bool false) ∧ w' = w := by
  go_enter Tryz.func110, Tryz.ntmps110
  go_wp2
  go_ret
  exact ⟨ret_bool (by simp), rfl⟩
theorem cmpc_is (x y r : Int) (w : World) (h : Hid (ord x y = r)) : Calls Tryz.prog 84 #[.int .i64 x, .int .i64 y] w fun e w' => e = .returned (.int .i64 r) ∧ w' = w := by
  rcases ord_cases x y with ⟨h1, k⟩ | ⟨h1, k⟩ | ⟨h1, k⟩
  · have hr : Hid (r = -1) := by show _ = _; rw [← h.out, k]
    clear k h
    go_enter Tryz.func84, Tryz.ntmps84
    go_wp2_with (go_at_call 110; refine (nan_is _ _).mono ?_; rintro e W1 ⟨rfl, rfl⟩)
    go_ret
    exact ⟨ret_i64 hr.out.symm, rfl⟩
  · have hr : Hid (r = 1) := by show _ = _; rw [← h.out, k]
    have h2 : ¬ x < y := by omega
    clear k h
    go_enter Tryz.func84, Tryz.ntmps84
    go_wp2_with (go_at_call 110; refine (nan_is _ _).mono ?_; rintro e W1 ⟨rfl, rfl⟩)
    go_ret
    exact ⟨ret_i64 hr.out.symm, rfl⟩
  · have hr : Hid (r = 0) := by show _ = _; rw [← h.out, k]
    subst h1
    have h2 : ¬ x < x := by omega
    clear k h
    go_enter Tryz.func84, Tryz.ntmps84
    go_wp2_with (go_at_call 110; refine (nan_is _ _).mono ?_; rintro e W1 ⟨rfl, rfl⟩)
    go_ret
    exact ⟨ret_i64 hr.out.symm, rfl⟩
set_option maxHeartbeats 2000000 in
set_option maxRecDepth 8000 in
/-- slices.Compare at numbers. -/
theorem lexc_is (s t : List Nat) (A : Option Addr) (n c : Nat) (B : Option Addr) (m d : Nat) (w : World) (hA : NRd w A s) (hB : NRd w B t) (hn : Hid (s.length = n)) (hm : Hid (t.length = m)) (hb : n ≤ 1000) (hb' : m ≤ 1000) {r : Int} (hr : Hid (lexC s t = r)) :
    Calls Tryz.prog 85 #[.slice A n c, .slice B m d] w fun x w' => x = .returned (.int .i64 r) ∧ w' = w := by
  have HA := Lib.hid hA
  have HB := Lib.hid hB
  clear hA hB
  go_enter Tryz.func85, Tryz.ntmps85
  go_wp2
  go_loopw [11] (fun i wr => ∃ (j : Nat), j ≤ n ∧ j ≤ m ∧ i = .int .i64 j ∧ Hid (lexC (s.drop j) (t.drop j) = r) ∧ wr = w) (fun i _ => n - (intOf i).toNat)
  case atStart => exact ⟨0, by omega, by omega, rfl, hr, rfl⟩
  case round =>
    obtain ⟨j, hj, hjm, rfl, hR, rfl⟩ := hrel
    by_cases hlt : (j : Int) < (n : Int)
    · have e5 : IntKind.i64.wrap ((j : Int) + 1) = (j : Int) + 1 := by rw [IntKind.wrap_i64]; omega
      obtain ⟨g, o, v, rfl, hg, hv, c1⟩ := HA.out.at_ (i := j) (by have := hn.out; omega)
      by_cases hlm : (m : Int) ≤ (j : Int)
      · have hend : Hid (r = 1) := by
          show _ = _
          rw [← hR.out, List.drop_eq_getElem_cons (l := s) (by have := hn.out; omega), (show t.drop j = [] from List.drop_eq_nil_of_le (by have := hm.out; omega)), lexC]
        go_wp2
        go_ret
        exact ⟨ret_i64 hend.out.symm, rfl⟩
      · have hd := lexC_drop (s := s) (t := t) (j := j) (by have := hn.out; omega) (by have := hm.out; omega)
        obtain ⟨g', o', v', rfl, hg', hv', c2⟩ := HB.out.at_ (i := j) (by have := hm.out; omega)
        have hlm2 : (j : Int) < (m : Int) := by omega
        rw [hR.out, hv.out, hv'.out] at hd
        rcases Nat.lt_trichotomy v v' with hvv | hvv | hvv
        · have hend : Hid (r = -1) := by show _ = _; rw [hd, if_neg (by omega), if_pos hvv]
          have hcc : Hid (ord (v : Int) (v' : Int) = -1) := by show _ = _; unfold ord; rw [if_pos (by omega)]
          clear hd
          go_wp2_with (go_at_call 84; refine (cmpc_is _ _ (-1) _ hcc).mono ?_; rintro e W1 ⟨rfl, rfl⟩)
          go_ret
          exact ⟨ret_i64 hend.out.symm, rfl⟩
        · subst hvv
          have hR2 : Hid (lexC (s.drop (j + 1)) (t.drop (j + 1)) = r) := by show _ = _; rw [hd, if_pos rfl]
          have hcc : Hid (ord (v : Int) (v : Int) = 0) := by show _ = _; rw [ord_self]
          clear hd
          go_wp2_with (go_at_call 84; refine (cmpc_is _ _ 0 _ hcc).mono ?_; rintro e W1 ⟨rfl, rfl⟩)
          go_roundw
          case rel => exact ⟨j + 1, by omega, by omega, by go_num, hR2, trivial⟩
          case measure => simp [intOf]; omega
        · have hend : Hid (r = 1) := by show _ = _; rw [hd, if_neg (by omega), if_neg (by omega)]
          have hcc : Hid (ord (v : Int) (v' : Int) = 1) := by show _ = _; unfold ord; rw [if_neg (by omega), if_pos (by omega)]
          clear hd
          go_wp2_with (go_at_call 84; refine (cmpc_is _ _ 1 _ hcc).mono ?_; rintro e W1 ⟨rfl, rfl⟩)
          go_ret
          exact ⟨ret_i64 hend.out.symm, rfl⟩
    · have hje : j = n := by omega
      subst hje
      by_cases hlm : (j : Int) < (m : Int)
      · have hend : Hid (r = -1) := by
          show _ = _
          rw [← hR.out, (show s.drop j = [] from List.drop_eq_nil_of_le (by have := hn.out; omega)), List.drop_eq_getElem_cons (l := t) (by have := hm.out; omega), lexC]
        go_wp2
        go_ret
        exact ⟨ret_i64 hend.out.symm, rfl⟩
      · have hend : Hid (r = 0) := by
          show _ = _
          rw [← hR.out, (show s.drop j = [] from List.drop_eq_nil_of_le (by have := hn.out; omega)), (show t.drop j = [] from List.drop_eq_nil_of_le (by have := hm.out; omega)), lexC]
        go_wp2
        go_ret
        exact ⟨ret_i64 hend.out.symm, rfl⟩
set_option maxHeartbeats 2000000 in
set_option maxRecDepth 8000 in
/-- cmp.Or of two numbers. -/
theorem or_is (a b : Int) (g : Nat) (w : World) (hb : Blk w g [.int .i64 a, .int .i64 b]) {r : Int} (hr : Hid ((if a = 0 then b else a) = r)) :
    Calls Tryz.prog 83 #[.slice (some ⟨g, 0, none⟩) 2 2] w fun x w' => x = .returned (.int .i64 r) ∧ w' = w := by
  have x0 := hb.cell 0 rfl
  have x1 := hb.cell 1 rfl
  clear hb
  go_enter Tryz.func83, Tryz.ntmps83
  go_wp2
  go_loopw [8] (fun i wr => ∃ (j : Nat), j ≤ 2 ∧ i = .int .i64 j ∧ Hid ((1 ≤ j → a = 0) ∧ (2 ≤ j → b = 0)) ∧ wr = w) (fun i _ => 2 - (intOf i).toNat)
  case atStart => exact ⟨0, by omega, rfl, ⟨by omega, by omega⟩, rfl⟩
  case round =>
    obtain ⟨j, hj, rfl, hz, rfl⟩ := hrel
    have hc : j = 0 ∨ j = 1 ∨ j = 2 := by omega
    clear hj
    rcases hc with rfl | rfl | rfl
    · by_cases ha : a = 0
      · have b0 : (a != 0) = false := by rw [ha]; rfl
        go_wp2
        go_roundw
        case rel => exact ⟨1, by omega, by go_num, ⟨fun _ => ha, by omega⟩, trivial⟩
        case measure => simp [intOf]
      · have b0 : (a != 0) = true := by rw [bne_iff_ne]; exact ha
        have hend : Hid (r = a) := by show _ = _; rw [← hr.out, if_neg ha]
        go_wp2
        go_ret
        exact ⟨ret_i64 hend.out.symm, rfl⟩
    · by_cases hbz : b = 0
      · have b0 : (b != 0) = false := by rw [hbz]; rfl
        go_wp2
        go_roundw
        case rel => exact ⟨2, by omega, by go_num, ⟨fun _ => hz.out.1 (by omega), fun _ => hbz⟩, trivial⟩
        case measure => simp [intOf]
      · have b0 : (b != 0) = true := by rw [bne_iff_ne]; exact hbz
        have hend : Hid (r = b) := by show _ = _; rw [← hr.out, if_pos (hz.out.1 (by omega))]
        go_wp2
        go_ret
        exact ⟨ret_i64 hend.out.symm, rfl⟩
    · have hend : Hid (r = 0) := by show _ = _; rw [← hr.out, if_pos (hz.out.1 (by omega))]; exact hz.out.2 (by omega)
      go_wp2
      go_ret
      exact ⟨ret_i64 hend.out.symm, rfl⟩
set_option maxHeartbeats 2000000 in
set_option maxRecDepth 8000 in
theorem cmpS_is (s t : List Nat) (A : Option Addr) (n c : Nat) (B : Option Addr) (m d : Nat) (w : World) (hA : NRd w A s) (hB : NRd w B t) (hn : Hid (s.length = n)) (hm : Hid (t.length = m)) (hb : n ≤ 1000) (hb' : m ≤ 1000) {r : Int} (hr : Hid (cmpS s t = r)) :
    Calls Tryz.prog 56 #[.slice A n c, .slice B m d] w fun x w' => x = .returned (.int .i64 r) ∧ Gro w w' := by
  obtain ⟨r1, h1⟩ : ∃ r1, Hid (ord (n : Int) (m : Int) = r1) := ⟨_, rfl⟩
  obtain ⟨r2, h2⟩ : ∃ r2, Hid (lexC s t = r2) := ⟨_, rfl⟩
  have h3 : Hid ((if r1 = 0 then r2 else r1) = r) := by show _ = _; rw [← hr.out, ← h1.out, ← h2.out, ← hn.out, ← hm.out]; rfl
  have HBK : Hid (∀ W : World, Blk (W.alloc (.cells #[.int .i64 r1, .int .i64 r2] 3)) W.heap.size [.int .i64 r1, .int .i64 r2]) := Lib.hid (fun W => Blk.new W _ _ rfl)
  clear hr
  go_enter Tryz.func56, Tryz.ntmps56
  go_wp2_with (first
    | (go_at_call 84; refine (cmpc_is _ _ r1 _ h1).mono ?_; rintro e W1 ⟨rfl, rfl⟩)
    | (go_at_call 85; refine (lexc_is s t A n c B m d _ hA hB hn hm hb hb' h2).mono ?_; rintro e W1 ⟨rfl, rfl⟩)
    | (go_at_call 83; refine (or_is r1 r2 _ _ (HBK.out _) h3).mono ?_; rintro e W1 ⟨rfl, rfl⟩))
  go_ret
  exact ⟨rfl, (Gro.refl _).alloc _⟩
/-! ### The row sorted -/
/-- An element of the row: a slice of the call's own, and the set that it holds. -/
abbrev El (w : World) (base g : Nat) : Type := { p : Value × List Nat // OwnN w base p.1 p.2 ∧ p.1.ownBlock ≠ some g ∧ p.2.length ≤ 1000 }
theorem El.list {w : World} {base g : Nat} : ∀ (vs : List Value) (X : List (List Nat)), vs.length = X.length → (∀ (i : Nat) (v : Value) (s : List Nat), vs[i]? = some v → X[i]? = some s → OwnN w base v s ∧ v.ownBlock ≠ some g ∧ s.length ≤ 1000) → ∃ d : List (El w base g), d.map (fun x => x.1.1) = vs ∧ d.map (fun x => x.1.2) = X
  | [], [], _, _ => ⟨[], rfl, rfl⟩
  | [], _ :: _, h, _ => by simp at h
  | _ :: _, [], h, _ => by simp at h
  | v :: vs, s :: X, h, hall => by
    obtain ⟨d, h1, h2⟩ := El.list vs X (by simpa using h) (fun i u t hu ht => hall (i + 1) u t (by simpa using hu) (by simpa using ht))
    exact ⟨⟨(v, s), hall 0 v s rfl rfl⟩ :: d, by rw [List.map_cons, h1], by rw [List.map_cons, h2]⟩
theorem row_other {α : Type} [Inhabited α] (enc : α → Value) (w : World) (g m : Nat) (dk : Array α) (os : Array Obj) {b : Nat} (hb : b < w.heap.size) (hne : b ≠ g) : (sortWorld enc w g 0 m dk os).heap[b]? = w.heap[b]? := by
  unfold sortWorld
  rw [heap_grow_old _ _ (by rw [size_putRow]; exact hb)]
  simp [putRow, mapBlock, ahead, Array.getElem?_modify, Ne.symm hne]
theorem lessB_irr9 (s : List Nat) : ¬ cmpS s s < 0 := by
  rw [cmpS_lt, lessB_irr]
  decide
theorem lessB_tr9 {a b c : List Nat} (h1 : cmpS a b < 0) (h2 : cmpS b c < 0) : cmpS a c < 0 := by
  rw [cmpS_lt] at *
  exact lessB_trans h1 h2
theorem lessB_nt9 {a b c : List Nat} (h1 : ¬ cmpS a b < 0) (h2 : ¬ cmpS b c < 0) : ¬ cmpS a c < 0 := by
  rw [cmpS_lt, Bool.not_eq_true] at *
  rcases Classical.em (a = b) with e | e
  · rw [e]; exact h2
  · rcases Classical.em (b = c) with e2 | e2
    · rw [← e2]; exact h1
    · have k1 := (lessB_total e).resolve_left (by rw [h1]; decide)
      have k2 := (lessB_total e2).resolve_left (by rw [h2]; decide)
      have k3 := lessB_trans k2 k1
      cases hx : lessB a c with
      | false => rfl
      | true => have := lessB_trans k3 hx; rw [lessB_irr] at this; cases this
theorem lessB_swo {α : Type} (f : α → List Nat) : SWO (ltOf (fun x y : α => cmpS (f x) (f y))) :=
  ⟨fun x => decide_eq_false (lessB_irr9 (f x)), fun x y z h1 h2 => decide_eq_true (lessB_tr9 (of_decide_eq_true h1) (of_decide_eq_true h2)), fun x y z h1 h2 => decide_eq_false (lessB_nt9 (of_decide_eq_false h1) (of_decide_eq_false h2))⟩
theorem sort_none (A : Option Addr) (cap : Nat) (fv : Value) (w : World) :
    Calls Tryz.prog 55 #[.slice A 0 cap, fv] w fun e w' => e = .returned (.tuple #[]) ∧ w' = w :=
  AnyF.slices_SortFunc_none Tryz.sortSetsL0 A cap fv w
/-- The sorted row of sets. -/
theorem sort_sets {w : World} {base g c : Nat} {vs : List Value} {X : List (List Nat)} (hS : OwnS w base (.slice (some ⟨g, 0, none⟩) vs.length c) vs) (hX : SX w base vs X) (hl : ∀ s ∈ X, s.length ≤ 1000) (hn : vs.length ≤ 1000) (h0 : vs ≠ []) :
    Calls Tryz.prog 55 #[.slice (some ⟨g, 0, none⟩) vs.length c, .func (.func 56) #[] #[]] w fun e w' =>
      e = .returned (.tuple #[]) ∧ ∃ X' : List (List Nat), X'.Perm X ∧ X'.Pairwise (fun a b => lessB b a = false) ∧ SRd w' (some ⟨g, 0, none⟩) (ofN X') ∧ Below base w w' := by
  obtain ⟨g', c', hV, hcap, hbase, hlt, hcell, hfz⟩ := hS.own h0
  obtain ⟨rfl, rfl⟩ : g = g' ∧ c = c' := by simpa using hV
  obtain ⟨d, h1, h2⟩ := El.list (w := w) (base := base) (g := g) vs X hX.len (fun i v s hv hs => ⟨hX.at_ i v s hv hs, own_ne hS (hX.at_ i v s hv hs) rfl, hl s (List.mem_of_getElem? hs)⟩)
  have hdn : d ≠ [] := by rintro rfl; exact h0 h1.symm
  have hinh : Inhabited (El w base g) := ⟨d.head hdn⟩
  obtain ⟨enc, henc⟩ : ∃ enc : El w base g → Value, enc = fun x => x.1.1 := ⟨_, rfl⟩
  have hlen : d.length = vs.length := by rw [← h1, List.length_map]
  have kept : ∀ (m : Nat) (dk : Array (El w base g)) (os : Array Obj) (x : El w base g), OwnN (sortWorld enc w g 0 m dk os) base x.1.1 x.1.2 := fun m dk os x =>
    own_kept x.2.1 (fun q hq => row_other enc w g m dk os (own_lt x.2.1 hq).2 (fun e => x.2.2.1 (by rw [hq, e])))
  have eg : ∀ args w, (callFunc 56 args).run Tryz.prog w = .ok (.enter 56 args) w := enters_of Tryz.func56 (by kernel_rfl) rfl
  have hcmp : CmpLays1 Tryz.prog 56 #[] enc (fun x y : El w base g => cmpS x.1.2 y.1.2) g 0 d.toArray.size w := fun m os dk hs x y => by
    obtain ⟨A, c1, hA, _, hA2⟩ := (kept m dk os x).form
    obtain ⟨B, c2, hB, _, hB2⟩ := (kept m dk os y).form
    have e1 : enc x = .slice A x.1.2.length c1 := by rw [henc]; exact hA
    have e2 : enc y = .slice B y.1.2.length c2 := by rw [henc]; exact hB
    rw [e1, e2]
    exact cmpS_is x.1.2 y.1.2 A _ c1 B _ c2 _ hA2 hB2 (Lib.hid rfl) (Lib.hid rfl) x.2.2.2 y.2.2.2 (Lib.hid rfl)
  have hH : Holds enc w g 0 d.toArray := fun j hj => by
    have hj' : j < d.length := by simpa using hj
    rw [Nat.zero_add]
    refine ⟨?_, hfz j⟩
    rw [hcell j (enc d[j]) (by rw [← h1, List.getElem?_map, List.getElem?_eq_getElem hj', henc]; rfl), getElem!_pos d.toArray j hj]
    rfl
  have hcon := Any.slices_SortFunc Tryz.sortSetsL enc (fun x => by rw [henc]; exact x.2.1.oneCell) (fun x y : El w base g => cmpS x.1.2 y.1.2) (lessB_swo (fun x : El w base g => x.1.2)) 56 #[] g 0 c d.toArray w eg hcmp hH hlt (by simp; omega)
  change Calls Tryz.prog 55 _ _ _ at hcon
  rw [List.size_toArray, hlen] at hcon
  refine hcon.mono ?_
  rintro e w' ⟨he, d', n, os, ⟨hsz, _, hp⟩, hs, hw⟩
  have hsz' : d'.size = vs.length := by rw [hsz, List.size_toArray, hlen]
  have hSW : SW enc w g 0 d' w' := ⟨n, os, hw⟩
  have hH' := SW.holds hSW hlt hH (by rw [hsz', List.size_toArray, hlen])
  refine ⟨he, d'.toList.map (fun x => x.1.2), ?_, ?_, ?_, ?_⟩
  · have e1 : d'.extract 0 vs.length = d' := by rw [← hsz']; simp
    have e2 : d.toArray.extract 0 vs.length = d.toArray := by rw [← hlen]; simp
    rw [e1, e2] at hp
    rw [← h2]
    exact (by simpa using hp : d'.toList.Perm d).map _
  · rw [List.pairwise_map, List.pairwise_iff_getElem]
    intro i j hi hj hij
    have h3 := hs i j (Nat.zero_le _) hij (by rw [← hsz']; simpa using hj)
    rw [getElem!_pos d' j (by simpa using hj), getElem!_pos d' i (by simpa using hi)] at h3
    unfold ltOf at h3
    rw [decide_eq_false_iff_not, cmpS_lt, Bool.not_eq_true] at h3
    simpa using h3
  · refine fun _ => ⟨g, 0, rfl, SW.lt hSW hlt, fun i hi => ?_⟩
    have hi' : i < d'.size := by simpa using hi
    obtain ⟨A, c1, hA, hc1, hA2⟩ := (kept n d' os d'[i]).form
    rw [← hw] at hA2
    have h3 := (hH' i hi').1
    rw [getElem!_pos d' i hi', henc] at h3
    have h4 : (ofN (d'.toList.map (fun x => x.1.2))).getD i [] = (d'[i]).1.2.map Int.ofNat := by
      simp [List.getD_eq_getElem?_getD, hi']
    rw [h4, List.length_map, h3]
    exact ⟨A, c1, by rw [← hA], hc1, hA2.ints⟩
  · rw [hw]
    have h3 : Below base w (Go.Sort.putRow enc (Go.Sort.ahead w n) g 0 d') := Lib.below_putRow (Below.refl _ _) hbase
    exact h3.trans ((below_grow _ os).mono (by have := h3.size; omega))
end Go.Proofs.YtohjllnfnkajjaaGreat
