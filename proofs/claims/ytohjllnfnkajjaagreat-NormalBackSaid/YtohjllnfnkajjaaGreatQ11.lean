/- Contracts of the program: Implies, Equivalent. Contracts of the program: FromSets, with beginning and allOf. The program's contracts of package normal, together. The statements' own example (chapter 9), out of the contracts. What the walks of layer 9's statements share. -/
import Derived.Test.YtohjllnfnkajjaaGreatQ8
import Derived.Test.YtohjllnfnkajjaaGreatQ9
import Derived.Test.YtohjllnfnkajjaaGreatQ10
import Derived.Deep.RegionHeld3
namespace Go.Proofs.YtohjllnfnkajjaaGreat
open Go.RowKit
set_option linter.unusedVariables false
set_option linter.unusedSimpArgs false

/-! ### A set's atoms among others -/
def renB (L : List A3) (s : List Nat) (a : A3) : Bool := s.any fun i => decide (L.getD i default = a)
theorem renB_iff {L : List A3} {s : List Nat} {a : A3} : renB L s a = true ↔ ∃ i ∈ s, L.getD i default = a := by
  unfold renB
  rw [List.any_eq_true]
  exact exists_congr fun i => and_congr Iff.rfl decide_eq_true_iff
def rn (L : List A3) (s : List Nat) (M : List A3) : List Bool := M.map (renB L s)
theorem rn_len (L : List A3) (s : List Nat) (M : List A3) : (rn L s M).length = M.length := by simp [rn]
theorem rn_nil (L M : List A3) : rn L [] M = List.replicate M.length false := by
  refine List.ext_getElem (by simp [rn]) fun i h1 h2 => ?_
  simp [rn, renB]
theorem renB_snoc (L : List A3) (s : List Nat) (i : Nat) (a : A3) : renB L (s ++ [i]) a = (renB L s a || decide (L.getD i default = a)) := by simp [renB]
theorem rn_out {L : List A3} {s : List Nat} {M : List A3} {i : Nat} (h : ¬ L.getD i default ∈ M) : rn L (s ++ [i]) M = rn L s M := by
  unfold rn
  refine List.map_congr_left fun a ha => ?_
  rw [renB_snoc, decide_eq_false (fun e => h (by rw [e]; exact ha)), Bool.or_false]
theorem rn_put {L : List A3} {s : List Nat} {M : List A3} {i k : Nat} (hd : Dist M) (hk : k < M.length) (h : M.getD k default = L.getD i default) : (rn L s M).set k true = rn L (s ++ [i]) M := by
  refine List.ext_getElem (by rw [List.length_set, rn_len, rn_len]) fun j h1 h2 => ?_
  have hj : j < M.length := by rw [rn_len] at h2; exact h2
  have hkk : M[k] = L.getD i default := by rw [← h, List.getD_eq_getElem?_getD, List.getElem?_eq_getElem hk]; rfl
  rw [List.getElem_set]
  by_cases e : k = j
  · subst e
    rw [if_pos rfl]
    simp only [rn, List.getElem_map]
    rw [renB_snoc, hkk, decide_eq_true rfl, Bool.or_true]
  · rw [if_neg e]
    simp only [rn, List.getElem_map]
    rw [renB_snoc, decide_eq_false (fun e2 => ?_), Bool.or_false]
    have h3 := List.pairwise_iff_getElem.1 hd
    rcases Nat.lt_or_gt_of_ne e with h4 | h4
    · exact h3 k j hk hj h4 (by rw [hkk, e2])
    · exact h3 j k hj hk h4 (by rw [hkk, e2])
theorem imp_min {a b : Ex} {L M : List A3} (ha : VL a L) (hb : VL b M) {X : List (List Nat)} (hX : MinOf (a.hld L) L.length X) : Imp a b ↔ ∀ s ∈ X, b.hld M (rn L s M) = true := by
  rw [imp_bits ha hb]
  constructor
  · intro h s hs
    obtain ⟨c, hc, hm, rfl⟩ := (hX.2 s).1 hs
    have h1 := h c hc (minB_iff.1 hm).1
    have e : rn L (bitL L.length c) M = oth L (bitS L.length c) M := by
      unfold rn oth
      refine List.map_congr_left fun x _ => ?_
      rw [Bool.eq_iff_iff, renB_iff, inS_iff ha.dist]
      constructor
      · rintro ⟨i, hi, he⟩
        obtain ⟨h2, h3⟩ := bitL_mem.1 hi
        exact ⟨i, h2, by rw [bitS_at, decide_eq_true h2, h3]; rfl, he⟩
      · rintro ⟨i, h2, h3, he⟩
        rw [bitS_at, Bool.and_eq_true] at h3
        exact ⟨i, bitL_mem.2 ⟨h2, h3.2⟩, he⟩
    rw [e]
    exact h1
  · intro h x hx hh
    obtain ⟨s, hs, hsub⟩ := (covers hX _).1 hh
    refine hld_mono (L := M) (S := rn L s M) (T := oth L (bitS L.length x) M) (fun k hk => ?_) b (h s hs)
    have hkl : k < M.length := by
      refine Classical.byContradiction fun hn => ?_
      rw [List.getD_eq_getElem?_getD, List.getElem?_eq_none (by rw [rn_len]; omega)] at hk
      cases hk
    have e1 : (rn L s M).getD k false = renB L s (M[k]) := by unfold rn; simp [List.getD_eq_getElem?_getD, List.getElem?_eq_getElem hkl]
    have e2 : (oth L (bitS L.length x) M).getD k false = inS L (bitS L.length x) (M[k]) := by unfold oth; simp [List.getD_eq_getElem?_getD, List.getElem?_eq_getElem hkl]
    rw [e1, renB_iff] at hk
    obtain ⟨i, hi, he⟩ := hk
    rw [e2, inS_iff ha.dist]
    have hsi := hsub i hi
    obtain ⟨c, hc, hm, rfl⟩ := (hX.2 s).1 hs
    exact ⟨i, (bitL_mem.1 hi).1, hsi, he⟩
set_option maxHeartbeats 4000000 in
set_option maxRecDepth 20000 in
/-- slices.Index at atoms: which. -/
theorem indexK_is (q : List A3) (A : Option Addr) (n c : Nat) (s : ByteArray) (m u : Int) (w : World) (hR : QRd w A q) (hn : Hid (q.length = n)) (hn8 : n ≤ 1000000) :
    Calls Tryz.prog 98 #[.slice A n c, av s m u] w fun x w' => (∃ v : Int, x = .returned (.int .i64 v) ∧ Hid ((v = -1 ∧ ¬ (s, m, u) ∈ q) ∨ ∃ k : Nat, v = (k : Int) ∧ k < n ∧ q.getD k default = (s, m, u))) ∧ Below w.heap.size w w' := by
  have HR := Lib.hid hR
  have HK1 := Lib.hid (Blk.new w [.string s, .int .i64 m, .int .i64 u] 25 rfl)
  have HB0 := Lib.hid (newB w (.cells #[.string s, .int .i64 m, .int .i64 u] 25))
  clear hR
  go_enter Tryz.func98, Tryz.ntmps98
  go_wp2
  go_loopw [8] (fun i wr => ∃ (j : Nat), j ≤ n ∧ i = .int .i64 j ∧ Hid (∀ i, i < j → ¬ q.getD i default = (s, m, u)) ∧ Hid (Below w.heap.size w wr) ∧ Hid (Blk wr w.heap.size [.string s, .int .i64 m, .int .i64 u])) (fun i _ => n - (intOf i).toNat)
  case atStart => exact ⟨0, by omega, rfl, (fun i hi => by omega), HB0.out, HK1.out⟩
  case round =>
    obtain ⟨j, hj, rfl, hno, hB, hK⟩ := hrel
    have q1 := hK.out.cell 0 rfl
    have q2 := hK.out.cell 1 rfl
    have q3 := hK.out.cell 2 rfl
    by_cases hlt : (j : Int) < (n : Int)
    · obtain ⟨g, o, s', m', u', rfl, hg, hx, c1, c2, c3⟩ := (HR.out.below hB.out).at_ (i := j) (by have := hn.out; omega)
      have e5 : IntKind.i64.wrap ((j : Int) + 1) = (j : Int) + 1 := by rw [IntKind.wrap_i64]; omega
      have e0 : ∀ W, (binOp .eql 25 (av s m u) (av s' m' u')).run Tryz.prog W = .ok (.bool (eqS s s' && decide (m = m' ∧ u = u'))) W := fun W => eqAtom s s' m u m' u' W
      cases hq : (eqS s s' && decide (m = m' ∧ u = u')) with
      | true =>
        rw [hq] at e0
        have hend : Hid (q.getD j default = (s, m, u)) := Lib.hid (by rw [hx.out, eq_a3.1 hq])
        clear hq
        go_wp2
        go_quiet (fail)
        go_wp2
        go_ret
        exact ⟨⟨_, rfl, Lib.hid (.inr ⟨j, rfl, by omega, hend.out⟩)⟩, bdN hB.out _⟩
      | false =>
        rw [hq] at e0
        have hno2 : Hid (∀ i, i < j + 1 → ¬ q.getD i default = (s, m, u)) := fun i hi e => by
          by_cases hjk : i = j
          · subst hjk
            rw [hx.out] at e
            rw [eq_a3.2 e.symm] at hq
            cases hq
          · exact hno.out i (by omega) e
        clear hq
        go_wp2
        go_quiet (fail)
        go_wp2
        go_roundw
        case rel => exact ⟨j + 1, by omega, by go_num, hno2, bdN hB.out _, hK.out.of rfl⟩
        case measure => simp [intOf]; omega
    · have hend : Hid (¬ (s, m, u) ∈ q) := Lib.hid (by
        intro hmem
        obtain ⟨i, hi, he⟩ := mem_getD3 hmem
        exact hno.out i (by have := hn.out; omega) he)
      go_wp2
      go_ret
      exact ⟨⟨_, rfl, Lib.hid (.inl ⟨rfl, hend.out⟩)⟩, hB.out⟩
set_option maxHeartbeats 4000000 in
set_option maxRecDepth 20000 in
theorem renum_is (s : List Nat) (L M : List A3) (As : Option Addr) (ns cs : Nat) (A : Option Addr) (n c : Nat) (A' : Option Addr) (n' c' : Nat) (w : World) (hs : IRd w As (s.map Int.ofNat)) (hL : QRd w A L) (hM : QRd w A' M) (hns : Hid (s.length = ns)) (hn : Hid (L.length = n)) (hn' : Hid (M.length = n')) (hb : ns ≤ 1000) (hb' : n' ≤ 8) (hin : Hid (∀ i ∈ s, i < n)) (hd : Hid (Dist M)) :
    Calls Tryz.prog 77 #[.slice As ns cs, .slice A n c, .slice A' n' c'] w fun x w' => (∃ g, x = .returned (.slice (some ⟨g, 0, none⟩) n' n') ∧ Blk w' g (bvs (rn L s M))) ∧ Below w.heap.size w w' := by
  have HS := Lib.hid hs
  have HL := Lib.hid hL
  have HM := Lib.hid hM
  have hmk := make_bools n' (by omega)
  clear hs hL hM
  go_enter Tryz.func77, Tryz.ntmps77
  go_wp2
  go_loopw [16] (fun i wr => ∃ (j : Nat), j ≤ ns ∧ i = .int .i64 j ∧ Hid (Blk wr w.heap.size (bvs (rn L (s.take j) M))) ∧ Hid (Below w.heap.size w wr)) (fun i _ => ns - (intOf i).toNat)
  case atStart => exact ⟨0, by omega, rfl, Lib.hid (by rw [List.take_zero, rn_nil, hn'.out]; exact Blk.new w _ _ rfl), newB _ _⟩
  case round =>
    obtain ⟨j, hj, rfl, hK, hB⟩ := hrel
    by_cases hlt : (j : Int) < (ns : Int)
    · have hjl : j < s.length := by have := hns.out; omega
      have e5 : IntKind.i64.wrap ((j : Int) + 1) = (j : Int) + 1 := by rw [IntKind.wrap_i64]; omega
      obtain ⟨b1, o1, rfl, hb1, y1⟩ := (HS.out.below hB.out).at_ (i := j) (by rw [List.length_map]; exact hjl)
      rw [getD_mapN hjl] at y1
      obtain ⟨i, hi⟩ : ∃ i, Hid (s.getD j 0 = i) := ⟨_, Lib.hid rfl⟩
      have hil : i < n := hin.out i (by rw [← hi.out, List.getD_eq_getElem?_getD, List.getElem?_eq_getElem hjl]; exact List.getElem_mem _)
      rw [hi.out] at y1
      have i0 : (0 : Int) ≤ (i : Int) := by omega
      have i1 : (i : Int) < (n : Int) := by omega
      obtain ⟨ga, oa, sa, ma, ua, rfl, hga, hxa, c1, c2, c3⟩ := (HL.out.below hB.out).at_ (i := i) (by have := hn.out; omega)
      have HTK : Hid (s.take (j + 1) = s.take j ++ [i]) := Lib.hid (by rw [take_snocD (d := 0) hjl, hi.out])
      go_upto_region 6 with (go_at_call 98; refine (indexK_is M A' n' c' sa ma ua _ (HM.out.below hB.out) hn' (by omega)).mono ?_; rintro z W4 ⟨⟨v, rfl, hv⟩, hb4⟩; have HV := Lib.hid hv; have HK4 := Lib.hid (hK.out.up hb4 hK.out.lt); have HB4 := Lib.hid (nx hB.out hb4); clear hb4 hv)
      rcases HV.out.out with ⟨rfl, hno⟩ | ⟨k, rfl, hkn, he⟩
      · have HK5 : Hid (Blk W4 w.heap.size (bvs (rn L (s.take (j + 1)) M))) := Lib.hid (by rw [HTK.out, rn_out (by rw [hxa.out]; exact hno)]; exact HK4.out)
        clear hno HV
        go_wp2
        go_roundw
        case rel => exact ⟨j + 1, by omega, by go_num, HK5, HB4.out⟩
        case measure => simp [intOf]; omega
      · have HK5 := Lib.hid (HK4.out.bset k true)
        rw [rn_put hd.out (by have := hn'.out; omega) (he.trans hxa.out.symm), ← HTK.out] at HK5
        have HB5 := Lib.hid (HB4.out.setCell (p := ⟨w.heap.size, k, none⟩) (Nat.le_refl _) (.bool true))
        have p5 := HK4.out.cell k (bvs_at (by rw [rn_len]; have := hn'.out; omega))
        have f5 := HK4.out.fz k
        have k0 : (0 : Int) ≤ (k : Int) := by omega
        have k1 : (k : Int) < (n' : Int) := by omega
        clear he HV
        go_wp2
        go_roundw
        case rel => exact ⟨j + 1, by omega, by go_num, HK5, HB5⟩
        case measure => simp [intOf]; omega
    · have hje : j = ns := by omega
      have HK5 : Hid (Blk wr w.heap.size (bvs (rn L s M))) := Lib.hid (by have h := hK.out; rw [List.take_of_length_le (by rw [hns.out]; omega)] at h; exact h)
      go_wp2
      go_ret
      exact ⟨⟨_, rfl, HK5.out⟩, hB.out⟩
set_option maxHeartbeats 8000000 in
set_option maxRecDepth 20000 in
theorem implies_is {a b : Ex} (L M : List A3) (P : List (List Nat) → Prop) (G : List Bool → Bool) (k : Int) (s : ByteArray) (m u : Int) (A : Option Addr) (n c : Nat) (k' : Int) (s' : ByteArray) (m' u' : Int) (A' : Option Addr) (n' c' : Nat) (w : World) (hT : TIn (Lo w.heap.size) w ⟨k, s, m, u, A, n, c⟩ a) (hT' : TIn (Lo w.heap.size) w ⟨k', s', m', u', A', n', c'⟩ b)
    (HAa : Hid (∀ W : World, TIn (Lo W.heap.size) W ⟨k, s, m, u, A, n, c⟩ a → Calls Tryz.prog 50 #[xe k s m u A n c] W fun x w' => (∃ A c, x = .returned (.slice A L.length c) ∧ QRd w' A L) ∧ Below W.heap.size W w'))
    (HMa : Hid (∀ W : World, TIn (Lo W.heap.size) W ⟨k, s, m, u, A, n, c⟩ a → Calls Tryz.prog 17 #[xe k s m u A n c] W (SetsQ P W)))
    (HAb : Hid (∀ W : World, TIn (Lo W.heap.size) W ⟨k', s', m', u', A', n', c'⟩ b → Calls Tryz.prog 50 #[xe k' s' m' u' A' n' c'] W fun x w' => (∃ A c, x = .returned (.slice A M.length c) ∧ QRd w' A M) ∧ Below W.heap.size W w'))
    (HHb : Hid (∀ (B : Option Addr) (q : Nat) (W : World) (S : List Bool) (r : Bool), TIn (Lo W.heap.size) W ⟨k', s', m', u', A', n', c'⟩ b → SI W S B q → Hid (G S = r) → Calls Tryz.prog 38 #[xe k' s' m' u' A' n' c', .slice B q q] W fun x w' => x = .returned (.bool r) ∧ Below W.heap.size W w'))
    (hM8 : M.length ≤ 8) (hd : Hid (Dist M)) (hP : Hid (∀ X, P X → X.length ≤ 1000 ∧ ∀ s ∈ X, s.length ≤ 1000 ∧ ∀ i ∈ s, i < L.length)) {r : Bool} (hr : Hid (∀ X, P X → (r = true ↔ X ≠ [] ∧ ∀ s ∈ X, G (rn L s M) = true))) :
    Calls Tryz.prog 48 #[xe k s m u A n c, xe k' s' m' u' A' n' c'] w fun x w' => x = .returned (.bool r) ∧ Below w.heap.size w w' := by
  have HTA := Lib.hid hT
  have HTB := Lib.hid hT'
  have HK0 := Lib.hid ((Blk.new w [.int .i64 k, .string s, .int .i64 m, .int .i64 u, .slice A n c] 28 rfl).grow (.cells #[.int .i64 k', .string s', .int .i64 m', .int .i64 u', .slice A' n' c'] 28))
  have HJ0 := Lib.hid (Blk.new (w.alloc (.cells #[.int .i64 k, .string s, .int .i64 m, .int .i64 u, .slice A n c] 28)) [.int .i64 k', .string s', .int .i64 m', .int .i64 u', .slice A' n' c'] 28 (g := w.heap.size + 1) (by simp))
  have HB0 := Lib.hid (new2 w (.cells #[.int .i64 k, .string s, .int .i64 m, .int .i64 u, .slice A n c] 28) (.cells #[.int .i64 k', .string s', .int .i64 m', .int .i64 u', .slice A' n' c'] 28))
  clear hT hT'
  go_enter Tryz.func48, Tryz.ntmps48
  go_upto_region 1 with fail
  generalize ((w.alloc (.cells #[.int .i64 k, .string s, .int .i64 m, .int .i64 u, .slice A n c] 28)).alloc (.cells #[.int .i64 k', .string s', .int .i64 m', .int .i64 u', .slice A' n' c'] 28)) = W0 at HK0 HJ0 HB0 ⊢
  have HALL : Hid (∀ W, Below W0.heap.size W0 W → X5 W w.heap.size k s m u A n c) := Lib.hid (fun W h => (HK0.out.up h HK0.out.lt).x5)
  have HTL : Hid (∀ W, Below W0.heap.size W0 W → TIn (Lo W.heap.size) W ⟨k, s, m, u, A, n, c⟩ a) := Lib.hid (fun W h => HTA.out.up (nx HB0.out h))
  have MK := Lib.hid trivial
  go_region_held3 (fun W => X5 W w.heap.size k s m u A n c)
    (first
      | with_reducible exact HALL.out _ (Below.refl _ _)
      | with_reducible exact HALL.out _ HB2.out
      | with_reducible exact HALL.out _ HB1.out
      | with_reducible exact HALL.out _ (bdD (Below.refl _ _)))
    (first
      | (clear MK; go_at_call 50; refine (HAa.out _ (HTL.out _ (bdD (Below.refl _ _)))).mono ?_; rintro z W1 ⟨⟨A1, c1, rfl, hq1⟩, hb1⟩; have HB1 : Hid (Below W0.heap.size W0 W1) := Lib.hid (nx (bdD (Below.refl _ _)) hb1); have HQ1 := Lib.hid hq1; clear hb1 hq1)
      | (go_at_call 17; refine (HMa.out _ (HTL.out _ HB1.out)).mono ?_; rintro z W2 ⟨⟨X, A2, c2, rfl, hPX, hX2, hc2⟩, hb2⟩; have HB2 : Hid (Below W0.heap.size W0 W2) := Lib.hid (nx HB1.out hb2); have HQ2 := Lib.hid (HQ1.out.below hb2); have HX2 := Lib.hid hX2; have HPX := Lib.hid hPX; clear hb2 hX2 hPX hc2))
  have hP2 := hP.out X HPX.out
  have hXl : X.length ≤ 1000 := hP2.1
  have HXS := Lib.hid hP2.2
  have HR2 := Lib.hid (hr.out X HPX.out)
  have HJ2 := Lib.hid (HJ0.out.up HB2.out HJ0.out.lt)
  have HBW := Lib.hid (nx HB0.out HB2.out)
  have HTB2 : Hid (∀ W, Below W2.heap.size W2 W → TIn (Lo W.heap.size) W ⟨k', s', m', u', A', n', c'⟩ b) := Lib.hid (fun W h => HTB.out.up (nx HBW.out h))
  have HALJ : Hid (∀ W, Below W2.heap.size W2 W → X5 W (w.heap.size + 1) k' s' m' u' A' n' c') := Lib.hid (fun W h => (HJ2.out.up h HJ2.out.lt).x5)
  obtain ⟨N, hN⟩ : ∃ N, Hid (X.length = N) := ⟨_, Lib.hid rfl⟩
  rw [hN.out] at hXl ⊢
  obtain ⟨NL, hNL⟩ : ∃ N, Hid (L.length = N) := ⟨_, Lib.hid rfl⟩
  obtain ⟨NM, hNM⟩ : ∃ N, Hid (M.length = N) := ⟨_, Lib.hid rfl⟩
  rw [hNM.out] at hM8 HAb
  rw [hNL.out] at HXS ⊢
  clear hP2 HALL HTL hP hr HK0 HAa HMa
  go_wp2_with fail
  go_loopw [15] (fun i wr => ∃ (j : Nat), j ≤ N ∧ i = .int .i64 j ∧ Hid (∀ i, i < j → G (rn L (X.getD i []) M) = true) ∧ Hid (Below W2.heap.size W2 wr)) (fun i _ => N - (intOf i).toNat)
  case atStart => exact ⟨0, by omega, rfl, Lib.hid (fun i hi => absurd hi (Nat.not_lt_zero i)), Below.refl _ _⟩
  case round =>
    obtain ⟨j, hj, rfl, hE, hB⟩ := hrel
    obtain ⟨WR, hWR⟩ : ∃ W, W = wr := ⟨_, rfl⟩
    subst hWR
    by_cases hjl : (j : Int) < (N : Int)
    · have hjX : j < X.length := by have := hN.out; omega
      have e5 : IntKind.i64.wrap ((j : Int) + 1) = (j : Int) + 1 := by rw [IntKind.wrap_i64]; omega
      obtain ⟨g, o, A7, n7, c7, rfl, hg, z1, hn7, hc7, hr7⟩ := (HX2.out.below hB.out).at_ (i := j) (by rw [List.length_map]; exact hjX)
      rw [getD_ofN hjX] at hn7 hr7
      obtain ⟨t, ht⟩ : ∃ t, Hid (X.getD j [] = t) := ⟨_, Lib.hid rfl⟩
      rw [ht.out] at hn7 hr7
      have hn7' : Hid (t.length = n7) := Lib.hid (by rw [← hn7.out, List.length_map])
      have htX : t ∈ X := by rw [← ht.out, List.getD_eq_getElem?_getD, List.getElem?_eq_getElem hjX]; exact List.getElem_mem _
      have hts := HXS.out t htX
      have hn71 : n7 ≤ 1000 := by have := hn7'.out; omega
      have HIN : Hid (∀ i ∈ t, i < NL) := Lib.hid hts.2
      have HR7 := Lib.hid hr7
      obtain ⟨β, hβ⟩ : ∃ β, Hid (G (rn L t M) = β) := ⟨_, Lib.hid rfl⟩
      have HTX := Lib.hid htX
      have HALW : Hid (∀ W, Below WR.heap.size WR W → X5 W (w.heap.size + 1) k' s' m' u' A' n' c') := Lib.hid (fun W h => HALJ.out W (nx hB.out h))
      have HAL2 : Hid (∀ W, Below WR.heap.size WR W → TIn (Lo W.heap.size) W ⟨k', s', m', u', A', n', c'⟩ b ∧ QRd W A1 L ∧ IRd W A7 (t.map Int.ofNat)) := Lib.hid (fun W h => ⟨HTB2.out W (nx hB.out h), HQ2.out.below (nx hB.out h), HR7.out.below h⟩)
      have HNLL := Lib.hid (hNL.out)
      clear hr7 hn7 hts htX hc7
      go_wp2_with fail
      go_region_held3 (fun W => X5 W (w.heap.size + 1) k' s' m' u' A' n' c')
        (first
          | with_reducible exact HALW.out _ (Below.refl _ _)
          | with_reducible exact HALW.out _ HB5.out
          | with_reducible exact HALW.out _ HB4.out
          | with_reducible exact HALW.out _ HB3.out
          | with_reducible exact HALW.out _ (bdD (Below.refl _ _)))
        (first
          | (go_at_call 50; (with_reducible refine (HAb.out _ (HAL2.out _ (bdD (Below.refl _ _))).1).mono ?_); rintro z W3 ⟨⟨A3, c3, rfl, hq3⟩, hb3⟩; have HB3 : Hid (Below WR.heap.size WR W3) := Lib.hid (nx (bdD (Below.refl _ _)) hb3); have HQ3 := Lib.hid hq3; clear hb3 hq3)
          | (go_at_call 77; (with_reducible refine (renum_is t L M A7 n7 c7 A1 NL c1 A3 NM c3 _ (HAL2.out _ HB3.out).2.2 (HAL2.out _ HB3.out).2.1 HQ3.out hn7' hNL hNM hn71 hM8 HIN hd).mono ?_); rintro z W4 ⟨⟨g4, rfl, hg4⟩, hb4⟩; have HB4 : Hid (Below WR.heap.size WR W4) := Lib.hid (nx HB3.out hb4); have HS4 : Hid (SI W4 (rn L t M) (some ⟨g4, 0, none⟩) NM) := Lib.hid ⟨by rw [rn_len, hNM.out], hg4.br, by omega⟩; clear hb4 hg4)
          | (go_at_call 38; (with_reducible refine (HHb.out (some ⟨g4, 0, none⟩) NM _ (rn L t M) β (HAL2.out _ HB4.out).1 HS4.out hβ).mono ?_); rintro z W5 ⟨rfl, hb5⟩; have HB5 : Hid (Below WR.heap.size WR W5) := Lib.hid (nx HB4.out hb5); clear hb5))
      cases β with
      | true =>
        have hE2 : Hid (∀ i, i < j + 1 → G (rn L (X.getD i []) M) = true) := Lib.hid (fun i hi => by
          by_cases e : i = j
          · subst e; rw [ht.out]; exact hβ.out
          · exact hE.out i (by omega))
        go_wp2
        go_roundw
        case rel => exact ⟨j + 1, by omega, by go_num, hE2, nx hB.out HB5.out⟩
        case measure => simp [intOf]; omega
      | false =>
        have hend : Hid (r = false) := Lib.hid (by
          rw [← Bool.not_eq_true, HR2.out]
          rintro ⟨_, h⟩
          have h2 := h t HTX.out
          rw [hβ.out] at h2
          cases h2)
        go_wp2
        go_ret
        exact ⟨ret_bool hend.out.symm, nx HBW.out (nx hB.out HB5.out)⟩
    · have hjn : j = N := by omega
      have hall : ∀ s ∈ X, G (rn L s M) = true := fun s hs => by
        obtain ⟨i, hi, rfl⟩ := List.mem_iff_getElem.1 hs
        have h := hE.out i (by have := hN.out; omega)
        rw [List.getD_eq_getElem?_getD, List.getElem?_eq_getElem hi] at h
        exact h
      have hend : Hid (decide (0 < N) = r) := Lib.hid (by
        rw [Bool.eq_iff_iff, decide_eq_true_iff, HR2.out]
        constructor
        · intro h; exact ⟨by rintro rfl; have := hN.out; simp at this; omega, hall⟩
        · rintro ⟨h, _⟩
          have h2 : 0 < X.length := List.length_pos_iff.2 h
          have := hN.out
          omega)
      clear hall
      go_wp2
      go_ret
      exact ⟨ret_bool hend.out, nx HBW.out hB.out⟩
theorem mn_of9 {F : Ex → List A3 → List Bool → Bool} {e : Ex} {L : List A3} {X : List (List Nat)} (hL : VL e L) (h : MnR F e X) : MinOf (F e L) L.length X := by
  rcases h with ⟨M, hM, hX⟩ | ⟨hv, _⟩
  · obtain rfl : L = M := by
      have h1 := hL.2
      have h2 := hM.2
      rw [h1] at h2
      exact Option.some.inj h2
    exact hX
  · exact absurd hL.1 hv
theorem atoms_rd {e : Ex} {L : List A3} (hL : VL e L) (k : Int) (s : ByteArray) (m u : Int) (A : Option Addr) (n c : Nat) (W : World) (h : TIn (Lo W.heap.size) W ⟨k, s, m, u, A, n, c⟩ e) :
    Calls Tryz.prog 50 #[xe k s m u A n c] W fun x w' => (∃ A c, x = .returned (.slice A L.length c) ∧ QRd w' A L) ∧ Below W.heap.size W w' :=
  (atoms8_yes k s m u A n c W h (Lib.hid hL)).mono fun x w' hh => by
    obtain ⟨⟨A1, n1, c1, h1, h2, h3⟩, h4⟩ := hh
    exact ⟨⟨A1, c1, by rw [h1, h2], h3⟩, h4⟩
theorem atoms_rd0 {e : Ex} (hv : ¬ Vex e) (k : Int) (s : ByteArray) (m u : Int) (A : Option Addr) (n c : Nat) (W : World) (h : TIn (Lo W.heap.size) W ⟨k, s, m, u, A, n, c⟩ e) :
    Calls Tryz.prog 50 #[xe k s m u A n c] W fun x w' => (∃ A c, x = .returned (.slice A ([] : List A3).length c) ∧ QRd w' A []) ∧ Below W.heap.size W w' :=
  (atoms8_nil k s m u A n c W h (Lib.hid hv)).mono fun x w' hh => ⟨⟨none, 0, hh.1, QRd.nil _ _⟩, hh.2⟩
theorem pimp_is {a b : Ex} (k : Int) (s : ByteArray) (m u : Int) (A : Option Addr) (n c : Nat) (k' : Int) (s' : ByteArray) (m' u' : Int) (A' : Option Addr) (n' c' : Nat) (w : World) (hT : TIn (Lo w.heap.size) w ⟨k, s, m, u, A, n, c⟩ a) (hT' : TIn (Lo w.heap.size) w ⟨k', s', m', u', A', n', c'⟩ b) {r : Bool} (hr : Hid (impB a b = r)) :
    Calls Tryz.prog 48 #[xe k s m u A n c, xe k' s' m' u' A' n' c'] w fun x w' => x = .returned (.bool r) ∧ Below w.heap.size w w' := by
  have hmin : Hid (∀ W : World, TIn (Lo W.heap.size) W ⟨k, s, m, u, A, n, c⟩ a → Calls Tryz.prog 17 #[xe k s m u A n c] W (SetsQ (MnR holdF a) W)) := Lib.hid (fun W h => pmin_is k s m u A n c W h)
  by_cases hva : Vex a
  · obtain ⟨L, hL⟩ := VL.ex9 hva
    have hPL : ∀ X, MnR holdF a X → X.length ≤ 1000 ∧ ∀ s ∈ X, s.length ≤ 1000 ∧ ∀ i ∈ s, i < L.length := fun X hX => by
      refine ⟨hX.few.1, fun s hs => ⟨hX.few.2 s hs, fun i hi => ?_⟩⟩
      obtain ⟨c, _, _, rfl⟩ := ((mn_of9 hL hX).2 s).1 hs
      exact (bitL_mem.1 hi).1
    by_cases hvb : Vex b
    · obtain ⟨M, hM⟩ := VL.ex9 hvb
      refine implies_is L M (MnR holdF a) (b.hld M) k s m u A n c k' s' m' u' A' n' c' w hT hT' (Lib.hid (fun W h => atoms_rd hL k s m u A n c W h)) hmin (Lib.hid (fun W h => atoms_rd hM k' s' m' u' A' n' c' W h)) (Lib.hid (fun B q W S r h1 h2 h3 => holds8_yes k' s' m' u' A' n' c' B q q W h1 h2 (Lib.hid hM) h3)) hM.n8 (Lib.hid hM.dist) (Lib.hid hPL) (Lib.hid (fun X hX => ?_))
      have h1 := mn_of9 hL hX
      rw [← hr.out, impB_iff, imp_min hL hM h1]
      exact ⟨fun h => ⟨min_some hL h1, h.2.2⟩, fun h => ⟨hva, hvb, h.2⟩⟩
    · refine implies_is L [] (MnR holdF a) (fun _ => false) k s m u A n c k' s' m' u' A' n' c' w hT hT' (Lib.hid (fun W h => atoms_rd hL k s m u A n c W h)) hmin (Lib.hid (fun W h => atoms_rd0 hvb k' s' m' u' A' n' c' W h)) (Lib.hid (fun B q W S r h1 h2 h3 => by
        have h4 := h3.out
        subst h4
        exact holds8_no (S := S) k' s' m' u' A' n' c' B q q W h1 h2 (Lib.hid hvb))) (by simp) (Lib.hid List.Pairwise.nil) (Lib.hid hPL) (Lib.hid (fun X hX => ?_))
      have hf : r = false := by rw [← hr.out, impB_no]; exact fun h => hvb h.2.1
      rw [hf]
      constructor
      · intro h; cases h
      · rintro ⟨h1, h2⟩
        obtain ⟨s, hs⟩ := List.exists_mem_of_ne_nil X h1
        exact absurd (h2 s hs) (by decide)
  · have hf : r = false := by rw [← hr.out, impB_no]; exact fun h => hva h.1
    have hX0 : ∀ X, MnR holdF a X → X = [] := fun X hX => by
      rcases hX with ⟨L, hL, _⟩ | ⟨_, h⟩
      · exact absurd hL.1 hva
      · exact h
    have hfin : ∀ G : List Bool → Bool, ∀ M : List A3, ∀ X, MnR holdF a X → (r = true ↔ X ≠ [] ∧ ∀ s ∈ X, G (rn [] s M) = true) := fun G M X hX => by
      rw [hf, hX0 X hX]
      constructor
      · intro h; cases h
      · rintro ⟨h1, _⟩; exact absurd rfl h1
    have hPX : ∀ X, MnR holdF a X → X.length ≤ 1000 ∧ ∀ s ∈ X, s.length ≤ 1000 ∧ ∀ i ∈ s, i < ([] : List A3).length := fun X hX => by
      rw [hX0 X hX]
      exact ⟨by simp, fun s hs => by cases hs⟩
    by_cases hvb : Vex b
    · obtain ⟨M, hM⟩ := VL.ex9 hvb
      exact implies_is [] M (MnR holdF a) (b.hld M) k s m u A n c k' s' m' u' A' n' c' w hT hT' (Lib.hid (fun W h => atoms_rd0 hva k s m u A n c W h)) hmin (Lib.hid (fun W h => atoms_rd hM k' s' m' u' A' n' c' W h)) (Lib.hid (fun B q W S r h1 h2 h3 => holds8_yes k' s' m' u' A' n' c' B q q W h1 h2 (Lib.hid hM) h3)) hM.n8 (Lib.hid hM.dist) (Lib.hid hPX) (Lib.hid (hfin (b.hld M) M))
    · exact implies_is [] [] (MnR holdF a) (fun _ => false) k s m u A n c k' s' m' u' A' n' c' w hT hT' (Lib.hid (fun W h => atoms_rd0 hva k s m u A n c W h)) hmin (Lib.hid (fun W h => atoms_rd0 hvb k' s' m' u' A' n' c' W h)) (Lib.hid (fun B q W S r h1 h2 h3 => by
        have h4 := h3.out
        subst h4
        exact holds8_no (S := S) k' s' m' u' A' n' c' B q q W h1 h2 (Lib.hid hvb))) (by simp) (Lib.hid List.Pairwise.nil) (Lib.hid hPX) (Lib.hid (hfin (fun _ => false) []))
set_option maxHeartbeats 2000000 in
set_option maxRecDepth 8000 in
theorem peqv_is {a b : Ex} (k : Int) (s : ByteArray) (m u : Int) (A : Option Addr) (n c : Nat) (k' : Int) (s' : ByteArray) (m' u' : Int) (A' : Option Addr) (n' c' : Nat) (w : World) (hT : TIn (Lo w.heap.size) w ⟨k, s, m, u, A, n, c⟩ a) (hT' : TIn (Lo w.heap.size) w ⟨k', s', m', u', A', n', c'⟩ b) {r : Bool} (hr : Hid ((impB a b && impB b a) = r)) :
    Calls Tryz.prog 30 #[xe k s m u A n c, xe k' s' m' u' A' n' c'] w fun x w' => x = .returned (.bool r) ∧ Below w.heap.size w w' := by
  have HK0 := Lib.hid ((Blk.new w [.int .i64 k, .string s, .int .i64 m, .int .i64 u, .slice A n c] 28 rfl).grow (.cells #[.int .i64 k', .string s', .int .i64 m', .int .i64 u', .slice A' n' c'] 28))
  have HJ0 := Lib.hid (Blk.new (w.alloc (.cells #[.int .i64 k, .string s, .int .i64 m, .int .i64 u, .slice A n c] 28)) [.int .i64 k', .string s', .int .i64 m', .int .i64 u', .slice A' n' c'] 28 (g := w.heap.size + 1) (by simp))
  have HB0 := Lib.hid (new2 w (.cells #[.int .i64 k, .string s, .int .i64 m, .int .i64 u, .slice A n c] 28) (.cells #[.int .i64 k', .string s', .int .i64 m', .int .i64 u', .slice A' n' c'] 28))
  have HTA := Lib.hid (hT.up HB0.out)
  have HTB := Lib.hid (hT'.up HB0.out)
  obtain ⟨r1, h1⟩ : ∃ r1, Hid (impB a b = r1) := ⟨_, Lib.hid rfl⟩
  obtain ⟨r2, h2⟩ : ∃ r2, Hid (impB b a = r2) := ⟨_, Lib.hid rfl⟩
  rw [h1.out, h2.out] at hr
  have MK := Lib.hid trivial
  clear hT hT'
  cases r1 with
  | false =>
    have hend : Hid (r = false) := Lib.hid hr.out.symm
    go_enter Tryz.func30, Tryz.ntmps30
    go_wp2_with (clear MK; go_at_call 48; refine (pimp_is k s m u A n c k' s' m' u' A' n' c' _ HTA.out HTB.out h1).mono ?_; rintro z W1 ⟨rfl, hb1⟩; have HB1 := Lib.hid (nx HB0.out hb1); have hk1 := HK0.out.up hb1 (by simp; omega); have hj1 := HJ0.out.up hb1 (by simp); have x0 := hk1.cell 0 rfl; have x1 := hk1.cell 1 rfl; have x2 := hk1.cell 2 rfl; have x3 := hk1.cell 3 rfl; have x4 := hk1.cell 4 rfl; have y0 := hj1.cell 0 rfl; have y1 := hj1.cell 1 rfl; have y2 := hj1.cell 2 rfl; have y3 := hj1.cell 3 rfl; have y4 := hj1.cell 4 rfl; clear hb1 hk1 hj1)
    go_ret
    exact ⟨ret_bool hend.out.symm, HB1.out⟩
  | true =>
    have hend : Hid (r2 = r) := Lib.hid hr.out
    go_enter Tryz.func30, Tryz.ntmps30
    go_wp2_with (first
      | (clear MK; go_at_call 48; refine (pimp_is k s m u A n c k' s' m' u' A' n' c' _ HTA.out HTB.out h1).mono ?_; rintro z W1 ⟨rfl, hb1⟩; have HTA1 := Lib.hid (HTA.out.up hb1); have HTB1 := Lib.hid (HTB.out.up hb1); have HB1 := Lib.hid (nx HB0.out hb1); have hk1 := HK0.out.up hb1 (by simp; omega); have hj1 := HJ0.out.up hb1 (by simp); have x0 := hk1.cell 0 rfl; have x1 := hk1.cell 1 rfl; have x2 := hk1.cell 2 rfl; have x3 := hk1.cell 3 rfl; have x4 := hk1.cell 4 rfl; have y0 := hj1.cell 0 rfl; have y1 := hj1.cell 1 rfl; have y2 := hj1.cell 2 rfl; have y3 := hj1.cell 3 rfl; have y4 := hj1.cell 4 rfl; clear hb1 hk1 hj1)
      | (go_at_call 48; refine (pimp_is k' s' m' u' A' n' c' k s m u A n c _ HTB1.out HTA1.out h2).mono ?_; rintro z W2 ⟨rfl, hb2⟩; have HB2 := Lib.hid (nx HB1.out hb2); clear hb2))
    go_ret
    exact ⟨ret_bool hend.out, HB2.out⟩
end Go.Proofs.YtohjllnfnkajjaaGreat

namespace Go.Proofs.YtohjllnfnkajjaaGreat
open Go.RowKit
set_option linter.unusedVariables false
set_option linter.unusedSimpArgs false

theorem begS_is (A : Option Addr) (n c : Nat) (w : World) (hc : n ≤ c) {q : Nat} (hq : Hid (min n 24 = q)) :
    Calls Tryz.prog 44 #[.slice A n c] w fun x w' => x = .returned (.slice A q c) ∧ w' = w := by
  by_cases h : (n : Int) ≤ 24
  · have hqn : Hid (q = n) := Lib.hid (by have := hq.out; omega)
    have hmn : min (n : Int) 24 = (n : Int) := by omega
    go_enter Tryz.func44, Tryz.ntmps44
    go_wp2
    go_ret
    exact ⟨by rw [hqn.out]; first | rfl | (simp; done), rfl⟩
  · have hqn : Hid (q = 24) := Lib.hid (by have := hq.out; omega)
    have hmn : min (n : Int) 24 = 24 := by omega
    have h2 : ¬ c < 24 := by omega
    go_enter Tryz.func44, Tryz.ntmps44
    go_wp2
    go_ret
    exact ⟨by rw [hqn.out]; first | rfl | (simp; done), rfl⟩
theorem begI_is (A : Option Addr) (n c : Nat) (w : World) (hc : n ≤ c) {q : Nat} (hq : Hid (min n 24 = q)) :
    Calls Tryz.prog 76 #[.slice A n c] w fun x w' => x = .returned (.slice A q c) ∧ w' = w := by
  by_cases h : (n : Int) ≤ 24
  · have hqn : Hid (q = n) := Lib.hid (by have := hq.out; omega)
    have hmn : min (n : Int) 24 = (n : Int) := by omega
    go_enter Tryz.func76, Tryz.ntmps76
    go_wp2
    go_ret
    exact ⟨by rw [hqn.out]; first | rfl | (simp; done), rfl⟩
  · have hqn : Hid (q = 24) := Lib.hid (by have := hq.out; omega)
    have hmn : min (n : Int) 24 = 24 := by omega
    have h2 : ¬ c < 24 := by omega
    go_enter Tryz.func76, Tryz.ntmps76
    go_wp2
    go_ret
    exact ⟨by rw [hqn.out]; first | rfl | (simp; done), rfl⟩
/-! ### The expression as the program builds it -/
def leafA (L : List A3) (i : Int) : A3 := if 0 ≤ i ∧ i < (L.length : Int) then L.getD i.toNat default else z3
def leafP (L : List A3) (i : Int) : Ex := .nd 0 (leafA L i) []
def grpP (L : List A3) (s : List Int) : Ex := .nd ((s.take 24).length : Int) z3 ((s.take 24).map (leafP L))
def frmP (L : List A3) (X : List (List Int)) : Ex := .nd 1 z3 ((X.take 24).map (grpP L))
theorem leafP_in {L : List A3} {i : Int} (h : 0 ≤ i ∧ i < (L.length : Int)) : leafP L i = leafE L i := by unfold leafP leafA leafE; rw [if_pos h]
theorem grpP_in {L : List A3} {s : List Int} (hs : s.length ≤ 24) (h : ∀ i ∈ s, 0 ≤ i ∧ i < (L.length : Int)) : grpP L s = frmG L s := by
  unfold grpP frmG
  rw [List.take_of_length_le hs, List.map_congr_left (fun i hi => leafP_in (h i hi))]
theorem frmP_in {L : List A3} {X : List (List Int)} (hX : X.length ≤ 24) (hs : ∀ s ∈ X, s.length ≤ 24) (h : InX L.length X) : frmP L X = frm L X := by
  unfold frmP frm
  rw [List.take_of_length_le hX, List.map_congr_left (fun s hm => grpP_in (hs s hm) (h s hm))]
theorem cntL_each {f : List Int → Ex} {X : List (List Int)} : X.length ≤ cntL (X.map f) := by
  have := cntL_len (X.map f)
  rw [List.length_map] at this
  exact this
/-- A valid one is the one of the statement, and the other way round. -/
theorem frmP_vex {L : List A3} {X : List (List Int)} : Vex (frmP L X) ↔ FrmOk L X := by
  constructor
  · intro hv
    have hc := hv.2.1
    have hX : X.length < 24 := by
      unfold frmP at hc
      rw [Ex.cnt] at hc
      have h1 := cntL_each (f := grpP L) (X := X.take 24)
      rw [List.length_take] at h1
      omega
    have hT : X.take 24 = X := List.take_of_length_le (by omega)
    have hs : ∀ s ∈ X, s.length < 24 := fun s hm => by
      unfold frmP at hc
      rw [Ex.cnt, hT] at hc
      have h1 := cntL_ge (f := grpP L) hm
      have h2 : (s.take 24).length + 1 ≤ (grpP L s).cnt := by
        unfold grpP
        rw [Ex.cnt]
        have := cntL_len ((s.take 24).map (leafP L))
        rw [List.length_map] at this
        omega
      rw [List.length_take] at h2
      omega
    obtain ⟨K, hK⟩ := VL.ex9 hv
    have hg := hK.good
    have hin : InX L.length X := fun s hm i hi => by
      refine Classical.byContradiction fun hno => ?_
      have hmem : leafP L i ∈ (frmP L X).pre := by
        unfold frmP
        rw [Ex.pre, hT]
        refine List.mem_cons_of_mem _ (mem_preL (List.mem_map.2 ⟨s, hm, rfl⟩) ?_)
        unfold grpP
        rw [Ex.pre, List.take_of_length_le (Nat.le_of_lt (hs s hm))]
        refine List.mem_cons_of_mem _ (mem_preL (List.mem_map.2 ⟨i, hi, rfl⟩) ?_)
        unfold leafP
        rw [Ex.pre]
        simp
      have hz : leafP L i = Ex.zero := by unfold leafP leafA; rw [if_neg hno]
      rw [hz] at hmem
      rcases hg _ hmem with h1 | ⟨h1, _⟩
      · have := (grp_is h1).2.1
        exact absurd this (by decide)
      · have := (atm_is h1).2.2.1.1
        exact absurd this (by decide)
    refine ⟨hin, ?_⟩
    rw [← frmP_in (Nat.le_of_lt hX) (fun s hm => Nat.le_of_lt (hs s hm)) hin]
    exact hv
  · rintro ⟨hin, hv⟩
    have h := frm_few hv
    rw [frmP_in h.1 h.2 hin]
    exact hv
theorem frmP_eq {L : List A3} {X : List (List Int)} (h : FrmOk L X) : frmP L X = frm L X := by
  have hf := frm_few h.2
  exact frmP_in hf.1 hf.2 h.1
set_option maxHeartbeats 4000000 in
set_option maxRecDepth 20000 in
theorem allOf_is (L : List A3) (s : List Int) (A : Option Addr) (n c : Nat) (As : Option Addr) (ns cs : Nat) (w : World) (hL : QRd w A L) (hs : IRd w As s) (hn : Hid (L.length = n)) (hns : Hid (s.length = ns)) (hc : ns ≤ cs) :
    Calls Tryz.prog 45 #[.slice A n c, .slice As ns cs] w (DuQ (grpP L s) w) := by
  have HL := Lib.hid hL
  have HS := Lib.hid hs
  obtain ⟨q, hq⟩ : ∃ q, Hid (min ns 24 = q) := ⟨_, Lib.hid rfl⟩
  have hq24 : q ≤ 24 := by have := hq.out; omega
  have hqn : q ≤ ns := by have := hq.out; omega
  have HR0 := Lib.hid (Blk.new w [.int .i64 0, .string ⟨#[]⟩, .int .i64 0, .int .i64 0, .slice none 0 0] 28 rfl)
  have HB0 := Lib.hid (newB w (.cells #[.int .i64 0, .string ⟨#[]⟩, .int .i64 0, .int .i64 0, .slice none 0 0] 28))
  clear hL hs
  go_enter Tryz.func45, Tryz.ntmps45
  go_wp2_with (go_at_call 76; refine (begI_is As ns cs _ hc hq).mono ?_; rintro z W1 ⟨rfl, rfl⟩)
  go_loopw [5, 12] (fun v i wr => ∃ (j : Nat) (es : List Ex) (vs : List XV) (A2 : Option Addr) (nn2 c2 : Nat), j ≤ q ∧ i = .int .i64 j ∧ v = .slice A2 nn2 c2 ∧ Hid (es = (s.take j).map (leafP L)) ∧ Hid (KD (fun _ => False) (w.heap.size + 1) (.slice A2 nn2 c2) es vs wr) ∧ Hid (Blk wr w.heap.size [.int .i64 0, .string ⟨#[]⟩, .int .i64 0, .int .i64 0, .slice none 0 0]) ∧ Hid (Below w.heap.size w wr)) (fun _ i _ => q - (intOf i).toNat)
  case atStart => exact ⟨0, [], [], none, 0, 0, by omega, rfl, rfl, Lib.hid (by simp), KD.nil _ _ _, HR0.out, HB0.out⟩
  case round =>
    obtain ⟨j, es, vs, A2, nn2, c2, hj, rfl, rfl, hes, hK, hR, hB⟩ := hrel
    obtain ⟨WR, hWR⟩ : ∃ W, W = wr := ⟨_, rfl⟩
    subst hWR
    by_cases hjl : (j : Int) < (q : Int)
    · have hjs : j < s.length := by have := hns.out; omega
      have e5 : IntKind.i64.wrap ((j : Int) + 1) = (j : Int) + 1 := by rw [IntKind.wrap_i64]; omega
      obtain ⟨b1, o1, rfl, hb1, y1⟩ := (HS.out.below hB.out).at_ (i := j) hjs
      obtain ⟨v, hv⟩ : ∃ v, Hid (s.getD j 0 = v) := ⟨_, Lib.hid rfl⟩
      rw [hv.out] at y1
      have hvs : Hid (vs.length + 1 ≤ 1000000) := Lib.hid (by rw [hK.out.len, hes.out, List.length_map, List.length_take]; omega)
      have hest0 : Hid ((s.take (j + 1)).map (leafP L) = es ++ [leafP L v]) := Lib.hid (by rw [take_snocD (d := 0) hjs, List.map_append, ← hes.out, hv.out]; rfl)
      by_cases hin : 0 ≤ v ∧ v < (n : Int)
      · obtain ⟨i, rfl⟩ : ∃ i : Nat, v = (i : Int) := ⟨v.toNat, by omega⟩
        obtain ⟨ga, oa, sa, ma, ua, rfl, hga, hxa, d1, d2, d3⟩ := (HL.out.below hB.out).at_ (i := i) (by have := hn.out; omega)
        have hest : Hid (es ++ [Ex.nd 0 (sa, ma, ua) []] = (s.take (j + 1)).map (leafP L)) := Lib.hid (by
          rw [hest0.out]
          unfold leafP leafA
          rw [if_pos ⟨hin.1, by rw [hn.out]; exact hin.2⟩, show ((i : Int)).toNat = i from rfl, hxa.out])
        have hin0 : (0 : Int) ≤ (i : Int) := hin.1
        have hin1 : (i : Int) < (n : Int) := hin.2
        clear hin
        have HNB := Lib.hid (newB WR (.cells #[.int .i64 0, .string sa, .int .i64 ma, .int .i64 ua, .slice none 0 0] 28))
        have HKN := Lib.hid (hK.out.up HNB.out)
        have HBK := Lib.hid (nx hB.out HNB.out)
        have HRK := Lib.hid (hR.out.up HNB.out hR.out.lt)
        have HWL : Hid (w.heap.size + 1 ≤ (WR.alloc (.cells #[.int .i64 0, .string sa, .int .i64 ma, .int .i64 ua, .slice none 0 0] 28)).heap.size) := Lib.hid HRK.out.lt
        go_wp2_with (at_builtin; (refine app_ex9 rfl (.tmp 29) (.tmp 31) rfl (w.heap.size + 1) (.slice A2 nn2 c2) vs (some ⟨WR.heap.size + 1, 0, none⟩) [⟨0, sa, ma, ua, none, 0, 0⟩] 1 1 (Lib.hid rfl) (by simp [Act.eval, Act.put]) (by simp [Act.eval, Act.put]) (own_kept HKN.out.own (fun g hg => (newB (WR.alloc (.cells #[.int .i64 0, .string sa, .int .i64 ma, .int .i64 ua, .slice none 0 0] 28)) _).block g (own_lt HKN.out.own hg).2)) (XRd.one_at _ _ ⟨0, sa, ma, ua, none, 0, 0⟩ (by simp)) hvs (Nat.le_trans HWL.out (newB (WR.alloc (.cells #[.int .i64 0, .string sa, .int .i64 ma, .int .i64 ua, .slice none 0 0] 28)) _).size) ?_); intro V5 w5 ho5 hg5 hn5; obtain ⟨A5, c5, hV5, -, -, -, -⟩ := ho5.form; obtain ⟨k5, hk5⟩ : ∃ k5, Hid ((vs ++ [(⟨0, sa, ma, ua, none, 0, 0⟩ : XV)]).length = k5) := ⟨_, Lib.hid rfl⟩; rw [hk5.out] at hV5; subst hV5; have hnw := newB (WR.alloc (.cells #[.int .i64 0, .string sa, .int .i64 ma, .int .i64 ua, .slice none 0 0] 28)) (.cells #[.int .i64 0, .string sa, .int .i64 ma, .int .i64 ua, .slice none 0 0] 28); have hkz := HKN.out.up hnw; have HK5 := Lib.hid (KD.app1 hkz (fun _ h => h.elim) ho5 hg5 (atom_tin _ sa ma ua)); have HB5 := Lib.hid (HBK.out.trans (gB_own (gB_trans (gB_below hnw (Nat.le_refl _)) hg5) (fun g hg => Nat.le_of_succ_le (own_lt HKN.out.own hg).1) HBK.out.size)); have hr0 := HRK.out.up hnw HRK.out.lt; have HR5 := Lib.hid (hr0.of (hg5.block _ hr0.lt (fun e => by have := (own_lt HKN.out.own e.symm).1; omega))); clear ho5 hg5 hn5 hnw hkz hr0)
        go_roundw
        case rel => exact ⟨j + 1, es ++ [Ex.nd 0 (sa, ma, ua) []], vs ++ [(⟨0, sa, ma, ua, none, 0, 0⟩ : XV)], A5, k5, c5, by omega, by go_num, rfl, hest, HK5, HR5, HB5⟩
        case measure => simp [intOf]; omega
      · have hest : Hid (es ++ [Ex.nd 0 (⟨#[]⟩, 0, 0) []] = (s.take (j + 1)).map (leafP L)) := Lib.hid (by
          rw [hest0.out]
          unfold leafP leafA
          rw [if_neg (by rw [hn.out]; exact hin)])
        have HIN := Lib.hid hin
        clear hin
        by_cases hin0 : v < 0
        · have hin1 : ¬ 0 ≤ v := by omega
          clear hin0
          have HNB := Lib.hid (newB WR (.cells #[.int .i64 0, .string ⟨#[]⟩, .int .i64 0, .int .i64 0, .slice none 0 0] 28))
          have HKN := Lib.hid (hK.out.up HNB.out)
          have HBK := Lib.hid (nx hB.out HNB.out)
          have HRK := Lib.hid (hR.out.up HNB.out hR.out.lt)
          have HWL : Hid (w.heap.size + 1 ≤ (WR.alloc (.cells #[.int .i64 0, .string ⟨#[]⟩, .int .i64 0, .int .i64 0, .slice none 0 0] 28)).heap.size) := Lib.hid HRK.out.lt
          go_wp2_with (at_builtin; (refine app_ex9 rfl (.tmp 29) (.tmp 31) rfl (w.heap.size + 1) (.slice A2 nn2 c2) vs (some ⟨WR.heap.size + 1, 0, none⟩) [⟨0, ⟨#[]⟩, 0, 0, none, 0, 0⟩] 1 1 (Lib.hid rfl) (by simp [Act.eval, Act.put]) (by simp [Act.eval, Act.put]) (own_kept HKN.out.own (fun g hg => (newB (WR.alloc (.cells #[.int .i64 0, .string ⟨#[]⟩, .int .i64 0, .int .i64 0, .slice none 0 0] 28)) _).block g (own_lt HKN.out.own hg).2)) (XRd.one_at _ _ ⟨0, ⟨#[]⟩, 0, 0, none, 0, 0⟩ (by simp)) hvs (Nat.le_trans HWL.out (newB (WR.alloc (.cells #[.int .i64 0, .string ⟨#[]⟩, .int .i64 0, .int .i64 0, .slice none 0 0] 28)) _).size) ?_); intro V5 w5 ho5 hg5 hn5; obtain ⟨A5, c5, hV5, -, -, -, -⟩ := ho5.form; obtain ⟨k5, hk5⟩ : ∃ k5, Hid ((vs ++ [(⟨0, ⟨#[]⟩, 0, 0, none, 0, 0⟩ : XV)]).length = k5) := ⟨_, Lib.hid rfl⟩; rw [hk5.out] at hV5; subst hV5; have hnw := newB (WR.alloc (.cells #[.int .i64 0, .string ⟨#[]⟩, .int .i64 0, .int .i64 0, .slice none 0 0] 28)) (.cells #[.int .i64 0, .string ⟨#[]⟩, .int .i64 0, .int .i64 0, .slice none 0 0] 28); have hkz := HKN.out.up hnw; have HK5 := Lib.hid (KD.app1 hkz (fun _ h => h.elim) ho5 hg5 (atom_tin _ ⟨#[]⟩ 0 0)); have HB5 := Lib.hid (HBK.out.trans (gB_own (gB_trans (gB_below hnw (Nat.le_refl _)) hg5) (fun g hg => Nat.le_of_succ_le (own_lt HKN.out.own hg).1) HBK.out.size)); have hr0 := HRK.out.up hnw HRK.out.lt; have HR5 := Lib.hid (hr0.of (hg5.block _ hr0.lt (fun e => by have := (own_lt HKN.out.own e.symm).1; omega))); clear ho5 hg5 hn5 hnw hkz hr0)
          go_roundw
          case rel => exact ⟨j + 1, es ++ [Ex.nd 0 (⟨#[]⟩, 0, 0) []], vs ++ [(⟨0, ⟨#[]⟩, 0, 0, none, 0, 0⟩ : XV)], A5, k5, c5, by omega, by go_num, rfl, hest, HK5, HR5, HB5⟩
          case measure => simp [intOf]; omega
        · have hin0' : 0 ≤ v := by omega
          have hin1 : ¬ v < (n : Int) := by have := HIN.out; omega
          clear hin0
          have HNB := Lib.hid (newB WR (.cells #[.int .i64 0, .string ⟨#[]⟩, .int .i64 0, .int .i64 0, .slice none 0 0] 28))
          have HKN := Lib.hid (hK.out.up HNB.out)
          have HBK := Lib.hid (nx hB.out HNB.out)
          have HRK := Lib.hid (hR.out.up HNB.out hR.out.lt)
          have HWL : Hid (w.heap.size + 1 ≤ (WR.alloc (.cells #[.int .i64 0, .string ⟨#[]⟩, .int .i64 0, .int .i64 0, .slice none 0 0] 28)).heap.size) := Lib.hid HRK.out.lt
          go_wp2_with (at_builtin; (refine app_ex9 rfl (.tmp 29) (.tmp 31) rfl (w.heap.size + 1) (.slice A2 nn2 c2) vs (some ⟨WR.heap.size + 1, 0, none⟩) [⟨0, ⟨#[]⟩, 0, 0, none, 0, 0⟩] 1 1 (Lib.hid rfl) (by simp [Act.eval, Act.put]) (by simp [Act.eval, Act.put]) (own_kept HKN.out.own (fun g hg => (newB (WR.alloc (.cells #[.int .i64 0, .string ⟨#[]⟩, .int .i64 0, .int .i64 0, .slice none 0 0] 28)) _).block g (own_lt HKN.out.own hg).2)) (XRd.one_at _ _ ⟨0, ⟨#[]⟩, 0, 0, none, 0, 0⟩ (by simp)) hvs (Nat.le_trans HWL.out (newB (WR.alloc (.cells #[.int .i64 0, .string ⟨#[]⟩, .int .i64 0, .int .i64 0, .slice none 0 0] 28)) _).size) ?_); intro V5 w5 ho5 hg5 hn5; obtain ⟨A5, c5, hV5, -, -, -, -⟩ := ho5.form; obtain ⟨k5, hk5⟩ : ∃ k5, Hid ((vs ++ [(⟨0, ⟨#[]⟩, 0, 0, none, 0, 0⟩ : XV)]).length = k5) := ⟨_, Lib.hid rfl⟩; rw [hk5.out] at hV5; subst hV5; have hnw := newB (WR.alloc (.cells #[.int .i64 0, .string ⟨#[]⟩, .int .i64 0, .int .i64 0, .slice none 0 0] 28)) (.cells #[.int .i64 0, .string ⟨#[]⟩, .int .i64 0, .int .i64 0, .slice none 0 0] 28); have hkz := HKN.out.up hnw; have HK5 := Lib.hid (KD.app1 hkz (fun _ h => h.elim) ho5 hg5 (atom_tin _ ⟨#[]⟩ 0 0)); have HB5 := Lib.hid (HBK.out.trans (gB_own (gB_trans (gB_below hnw (Nat.le_refl _)) hg5) (fun g hg => Nat.le_of_succ_le (own_lt HKN.out.own hg).1) HBK.out.size)); have hr0 := HRK.out.up hnw HRK.out.lt; have HR5 := Lib.hid (hr0.of (hg5.block _ hr0.lt (fun e => by have := (own_lt HKN.out.own e.symm).1; omega))); clear ho5 hg5 hn5 hnw hkz hr0)
          go_roundw
          case rel => exact ⟨j + 1, es ++ [Ex.nd 0 (⟨#[]⟩, 0, 0) []], vs ++ [(⟨0, ⟨#[]⟩, 0, 0, none, 0, 0⟩ : XV)], A5, k5, c5, by omega, by go_num, rfl, hest, HK5, HR5, HB5⟩
          case measure => simp [intOf]; omega
    · have hjq : j = q := by omega
      have he2 : Hid (es = (s.take 24).map (leafP L)) := Lib.hid (by
        rw [hes.out]
        congr 1
        rw [hjq, ← hq.out, List.take_eq_take_iff, hns.out]
        omega)
      obtain ⟨f1, f2, f3, f4⟩ := hK.out.fin
      have HF := Lib.hid (And.intro f1 (And.intro f2 (And.intro f3 f4)))
      have r0 := hR.out.cell 0 rfl
      have r1 := hR.out.cell 1 rfl
      have r2 := hR.out.cell 2 rfl
      have r3 := hR.out.cell 3 rfl
      have r4 := hR.out.cell 4 rfl
      have rf := hR.out.fz
      have rl := hR.out.lt
      clear f1 f2 f3 f4
      go_wp2
      refine bodyPost_ret (v := xe (nn2 : Int) ⟨#[]⟩ 0 0 A2 nn2 c2) (by simp [results, Tryz.results45, go_sem, r0, r1, r2, r3, r4, rf]) rfl ⟨⟨_, _, _, _, _, _, _, rfl, ?_⟩, hB.out.trans (five_below _ w.heap.size _ _ _ _ _)⟩
      refine TIn.fiveT (D := fun q => False ∨ Snc (w.heap.size + 1) WR q) ⟨⟨?_, HF.out.2.1, HF.out.2.2.1⟩, ?_⟩ (fun q hq => ⟨hq.elim (fun h => h.elim) (fun h => Nat.le_of_succ_le h.1), hq.elim (fun h => h.elim) (fun h => h.2), hq.elim (fun h => h.elim) (fun h => by have := h.1; omega)⟩) _ _ _ _ _
      · unfold XV.ks Ex.ks grpP
        show ((nn2 : Int), _, nn2) = (((s.take 24).length : Int), _, ((s.take 24).map (leafP L)).length)
        rw [HF.out.1, he2.out, List.length_map]
        rfl
      · have h := HF.out.2.2.2
        rw [he2.out] at h
        exact h
/-- An expression in new blocks, and whether it is one. -/
def FrN (y : Ex) (r : Bool) (w : World) (x : Ending) (w' : World) : Prop := (∃ k s m u A n c, x = .returned (.tuple #[xe k s m u A n c, .bool r]) ∧ TIn (Snc w.heap.size w') w' ⟨k, s, m, u, A, n, c⟩ y) ∧ Below w.heap.size w w'
set_option maxHeartbeats 8000000 in
set_option maxRecDepth 100000 in
theorem pfrom_new (L : List A3) (X : List (List Int)) (A : Option Addr) (n c : Nat) (A' : Option Addr) (n' c' : Nat) (w : World) (r : Bool) (hL : QRd w A L) (hX : SRd w A' X) (hn : Hid (L.length = n)) (hn' : Hid (X.length = n')) (hc : n' ≤ c') (hr : Hid (frmB L X = r)) (y : Ex) (hy : Hid (y = if r = true then frm L X else Ex.zero)) :
    Calls Tryz.prog 26 #[.slice A n c, .slice A' n' c'] w (FrN y r w) := by
  have HL := Lib.hid hL
  have HX := Lib.hid hX
  obtain ⟨q, hq⟩ : ∃ q, Hid (min n' 24 = q) := ⟨_, Lib.hid rfl⟩
  have hq24 : q ≤ 24 := by have := hq.out; omega
  have hqn : q ≤ n' := by have := hq.out; omega
  have HR0 := Lib.hid ((Blk.new w [.int .i64 0, .string ⟨#[]⟩, .int .i64 0, .int .i64 0, .slice none 0 0] 28 rfl).grow (.cells #[.int .i64 1, .string ⟨#[]⟩, .int .i64 0, .int .i64 0, .slice none 0 0] 28))
  have HE0 := Lib.hid (Blk.new (w.alloc (.cells #[.int .i64 0, .string ⟨#[]⟩, .int .i64 0, .int .i64 0, .slice none 0 0] 28)) [.int .i64 1, .string ⟨#[]⟩, .int .i64 0, .int .i64 0, .slice none 0 0] 28 (g := w.heap.size + 1) (by simp))
  have HB0 := Lib.hid (new2 w (.cells #[.int .i64 0, .string ⟨#[]⟩, .int .i64 0, .int .i64 0, .slice none 0 0] 28) (.cells #[.int .i64 1, .string ⟨#[]⟩, .int .i64 0, .int .i64 0, .slice none 0 0] 28))
  clear hL hX
  go_enter Tryz.func26, Tryz.ntmps26
  go_upto_region 2 with fail
  generalize hWG : (w.alloc (.cells #[.int .i64 0, .string ⟨#[]⟩, .int .i64 0, .int .i64 0, .slice none 0 0] 28)).alloc (.cells #[.int .i64 1, .string ⟨#[]⟩, .int .i64 0, .int .i64 0, .slice none 0 0] 28) = W2 at HE0 HR0 HB0 ⊢
  go_wp2_with (go_at_call 44; refine (begS_is A' n' c' _ hc hq).mono ?_; rintro z W1 ⟨rfl, rfl⟩)
  go_loopw [13] (fun i wr => ∃ (j : Nat) (es : List Ex) (vs : List XV) (A2 : Option Addr) (nn2 c2 : Nat), j ≤ q ∧ i = .int .i64 j ∧ Hid (es = (X.take j).map (grpP L)) ∧ Hid (KT (w.heap.size + 2) (w.heap.size + 1) (.slice A2 nn2 c2) es vs wr) ∧ Hid (Blk wr w.heap.size [.int .i64 0, .string ⟨#[]⟩, .int .i64 0, .int .i64 0, .slice none 0 0]) ∧ Hid (Blk wr (w.heap.size + 1) [.int .i64 1, .string ⟨#[]⟩, .int .i64 0, .int .i64 0, .slice A2 nn2 c2]) ∧ Hid (Below w.heap.size w wr)) (fun i _ => q - (intOf i).toNat)
  case atStart => exact ⟨0, [], [], none, 0, 0, by omega, rfl, Lib.hid rfl, KT.nil _ _ _, HR0.out, HE0.out, HB0.out⟩
  case round =>
    obtain ⟨j, es, vs, A2, nn2, c2, hj, rfl, hes, hK, hR, hE, hB⟩ := hrel
    obtain ⟨WR, hWR⟩ : ∃ W, W = wr := ⟨_, rfl⟩
    subst hWR
    clear HR0 HE0 HB0
    by_cases hjl : (j : Int) < (q : Int)
    · have hjX : j < X.length := by have := hn'.out; omega
      have e5 : IntKind.i64.wrap ((j : Int) + 1) = (j : Int) + 1 := by rw [IntKind.wrap_i64]; omega
      obtain ⟨g, o, A1, n1, c1, rfl, hg, z1, hn1, hc1, hr1⟩ := (HX.out.below hB.out).at_ hjX
      obtain ⟨s, hs1⟩ : ∃ s, Hid (X.getD j [] = s) := ⟨_, Lib.hid rfl⟩
      rw [hs1.out] at hn1 hr1
      have HR1 := Lib.hid hr1
      have hn1' : Hid (s.length = n1) := hn1
      have hc1' : n1 ≤ c1 := hc1
      have hest : Hid (es ++ [grpP L s] = (X.take (j + 1)).map (grpP L)) := Lib.hid (by rw [take_snocD (d := []) hjX, List.map_append, ← hes.out, List.map_singleton, hs1.out])
      have hvs : Hid (vs.length + 1 ≤ 1000000) := Lib.hid (by rw [hK.out.len, hes.out, List.length_map, List.length_take]; omega)
      have HQW : Hid (∀ W, Below WR.heap.size WR W → QRd W A L ∧ IRd W A1 s) := Lib.hid (fun W h => ⟨HL.out.below (nx hB.out h), HR1.out.below h⟩)
      have HLW : Hid (w.heap.size + 2 ≤ WR.heap.size) := Lib.hid hE.out.lt
      have xc := hE.out.cell 4 rfl
      have xf := hE.out.fz
      have xl := hE.out.lt
      clear hr1 hc1
      go_upto_region 5 with fail
      go_region_law (first
        | (refine step_app_expr rfl (.tmp 18) (.tmp 22) rfl (w.heap.size + 2) (.slice A2 nn2 c2) vs _ [⟨k', s', m', u', Ak, nk, ck⟩] 1 1 rfl (by simp [Act.eval, Act.put]) (by simp [Act.eval, Act.put]) (own_kept HK8.out.own (fun g hg => (newB W8 _).block g (own_lt HK8.out.own hg).2)) (XRd.one_at _ _ ⟨k', s', m', u', Ak, nk, ck⟩ rfl) hvs (Nat.le_trans HLO8.out (newB W8 _).size) ?_; intro V5 w5 ho5 hg5 hn5; obtain ⟨A5, c5, hV5, -, -, -, -⟩ := ho5.form; obtain ⟨k5, hk5⟩ : ∃ k5, Hid ((vs ++ [(⟨k', s', m', u', Ak, nk, ck⟩ : XV)]).length = k5) := ⟨_, rfl⟩; rw [hk5.out] at hV5; subst hV5; have hrow : ∀ g, (Value.slice A2 nn2 c2).ownBlock = some g → (w.heap.size + 2) ≤ g := (fun g hg => (own_lt HK8.out.own hg).1); have HN8 := Lib.hid (newB W8 (.cells #[.int .i64 k', .string s', .int .i64 m', .int .i64 u', .slice Ak nk ck] 28)); have HK9 := Lib.hid (HK8.out.up HN8.out (Nat.succ_pos _)); have HT9 : Hid (TIn (fun k => Snc (w.heap.size + 2) (W8.alloc (.cells #[.int .i64 k', .string s', .int .i64 m', .int .i64 u', .slice Ak nk ck] 28)) k ∧ (Value.slice A2 nn2 c2).ownBlock ≠ some k ∧ k ≠ w.heap.size + 1) (W8.alloc (.cells #[.int .i64 k', .string s', .int .i64 m', .int .i64 u', .slice Ak nk ck] 28)) ⟨k', s', m', u', Ak, nk, ck⟩ (grpP L s)) := Lib.hid (HY8.out.of (fun k hk => ⟨⟨hk.1.1, Nat.lt_of_lt_of_le hk.1.2 HN8.out.size⟩, hk.2⟩) (fun k hk _ => HN8.out.block k hk.1.2) HN8.out.size); have HK5 := Lib.hid (KT.app HK9.out (Nat.lt_of_lt_of_le HE8.out.lt HN8.out.size) ho5 hg5 hn5 HT9.out); have HE5 := Lib.hid ((HE8.out.up HN8.out HE8.out.lt).of (hg5.block _ (Nat.lt_of_lt_of_le HE8.out.lt HN8.out.size) (fun e => HK9.out.apart _ e.symm rfl))); have HR5 := Lib.hid ((HR8.out.up HN8.out HR8.out.lt).of (hg5.block _ (Nat.lt_of_lt_of_le HR8.out.lt HN8.out.size) (fun e => by have := hrow _ e.symm; omega))); have HB5 := Lib.hid ((nx hB.out HB8.out).trans (gB_own (gB_trans (gB_below HN8.out (Nat.le_refl _)) hg5) (fun g hg => by have h1 := hrow g hg; omega) (nx hB.out HB8.out).size)); clear xc xf xl; have xc := HE5.out.cell 4 rfl; have xf := HE5.out.fz; have xl := HE5.out.lt; clear ho5 hg5 hn5)
        | (go_simp; go_at_call 45; refine (allOf_is L s A n c A1 n1 c1 _ (HQW.out _ (bdD (Below.refl _ _))).1 (HQW.out _ (bdD (Below.refl _ _))).2 hn hn1' hc1').mono ?_; rintro z W8 ⟨⟨k', s', m', u', Ak, nk, ck, rfl, ht⟩, hb8⟩; have hb9 : Below WR.heap.size WR W8 := nx (bdD (Below.refl _ _)) hb8; have HB8 := Lib.hid hb9; have HE8 := Lib.hid (hE.out.up hb9 hE.out.lt); have HR8 := Lib.hid (hR.out.up hb9 hR.out.lt); have HK8 := Lib.hid (hK.out.up hb9 (Nat.succ_pos _)); have HLO8 : Hid ((w.heap.size + 2) ≤ W8.heap.size) := Lib.hid HE8.out.lt; have HY8 := Lib.hid (TIn.apart (lo := w.heap.size + 2) (x := w.heap.size + 1) (V := .slice A2 nn2 c2) ht HLW.out hE.out.lt (fun g hg => (own_lt hK.out.own hg).2)); clear xc xf xl; have xc := HE8.out.cell 4 rfl; have xf := HE8.out.fz; have xl := HE8.out.lt; clear hb8 hb9 ht))
      all_goals (
        go_wp2
        exact ⟨⟨j + 1, es ++ [grpP L s], vs ++ [(⟨k', s', m', u', Ak, nk, ck⟩ : XV)], A5, k5, c5, by omega, by go_num, hest, HK5.out.set 4 _, HR5.out.of (block_set _ _ _ (by omega)), HE5.out.set 4 _, HB5.out.setCell (p := ⟨w.heap.size + 1, 4, none⟩) (show w.heap.size ≤ w.heap.size + 1 by omega) _⟩, by simp [intOf]; omega⟩)
    · have hjq : j = q := by omega
      have hes2 : Hid (es = (X.take 24).map (grpP L)) := Lib.hid (by
        rw [hes.out]
        congr 1
        rw [hjq, ← hq.out, List.take_eq_take_iff, hn'.out]
        omega)
      have hrv : Hid (vexB (frmP L X) = r) := Lib.hid (by
        rw [← hr.out, Bool.eq_iff_iff, vexB_iff, frmB_iff]
        exact frmP_vex)
      obtain ⟨f1, f2, f3, f4⟩ := hK.out.fin
      have HTE : Hid (TIn (fun k => Snc (w.heap.size + 2) WR k) WR ⟨1, ⟨#[]⟩, 0, 0, A2, nn2, c2⟩ (frmP L X)) := Lib.hid (by
        refine ⟨⟨?_, f2, f3⟩, ?_⟩
        · unfold XV.ks Ex.ks frmP
          show ((1 : Int), _, nn2) = ((1 : Int), _, ((X.take 24).map (grpP L)).length)
          rw [f1, hes2.out]
          rfl
        · have h := f4
          rw [hes2.out] at h
          exact h.of (fun k hk => hk.1) (fun _ _ _ => rfl) (Nat.le_refl _))
      have x0 := hE.out.cell 0 rfl
      have x1 := hE.out.cell 1 rfl
      have x2 := hE.out.cell 2 rfl
      have x3 := hE.out.cell 3 rfl
      have x4 := hE.out.cell 4 rfl
      clear f1 f2 f3 f4
      cases r with
      | false =>
        have hyz := hy.out
        rw [if_neg (by decide)] at hyz
        subst hyz
        go_wp2_with (go_at_call 40; refine (validExpr_is (e := frmP L X) 1 ⟨#[]⟩ 0 0 A2 nn2 c2 _ (HTE.out.mono (fun k hk => hk.2)) hrv).mono ?_; rintro x W3 ⟨rfl, hb3⟩; have HR3 := Lib.hid (hR.out.up hb3 hR.out.lt); have r0 := HR3.out.cell 0 rfl; have r1 := HR3.out.cell 1 rfl; have r2 := HR3.out.cell 2 rfl; have r3 := HR3.out.cell 3 rfl; have r4 := HR3.out.cell 4 rfl; have rf := HR3.out.fz; have rl := HR3.out.lt; have HB3 := Lib.hid (nx hB.out hb3); clear hb3)
        refine bodyPost_ret (v := .tuple #[xe 0 ⟨#[]⟩ 0 0 none 0 0, .bool false]) (by simp [results, Tryz.results26, go_sem, r0, r1, r2, r3, r4, rf]) rfl ⟨⟨_, _, _, _, _, _, _, rfl, tin0 _ _⟩, HB3.out.trans (five_below _ w.heap.size _ _ _ _ _)⟩
      | true =>
        have hyz := hy.out
        rw [if_pos rfl, ← frmP_eq (frmB_iff.1 hr.out)] at hyz
        subst hyz
        go_wp2_with (go_at_call 40; refine (validExpr_is (e := frmP L X) 1 ⟨#[]⟩ 0 0 A2 nn2 c2 _ (HTE.out.mono (fun k hk => hk.2)) hrv).mono ?_; rintro x W3 ⟨rfl, hb3⟩; have HR3 := Lib.hid (hR.out.up hb3 hR.out.lt); have HE3 := Lib.hid (hE.out.up hb3 hE.out.lt); clear x0 x1 x2 x3 x4; have x0 := HE3.out.cell 0 rfl; have x1 := HE3.out.cell 1 rfl; have x2 := HE3.out.cell 2 rfl; have x3 := HE3.out.cell 3 rfl; have x4 := HE3.out.cell 4 rfl; have r0 := HR3.out.cell 0 rfl; have r1 := HR3.out.cell 1 rfl; have r2 := HR3.out.cell 2 rfl; have r3 := HR3.out.cell 3 rfl; have r4 := HR3.out.cell 4 rfl; have rf := HR3.out.fz; have rl := HR3.out.lt; have HB3 := Lib.hid (nx hB.out hb3); have HT3 := Lib.hid (HTE.out.of (D' := fun k => Snc (w.heap.size + 2) W3 k) (fun k hk => ⟨hk.1, Nat.lt_of_lt_of_le hk.2 hb3.size⟩) (fun k hk _ => hb3.block k hk.2) hb3.size); clear hb3)
        refine bodyPost_ret (v := .tuple #[xe 1 ⟨#[]⟩ 0 0 A2 nn2 c2, .bool true]) (by simp [results, Tryz.results26, go_sem, r0, r1, r2, r3, r4, rf]) rfl ⟨⟨_, _, _, _, _, _, _, rfl, ?_⟩, HB3.out.trans (five_below _ w.heap.size _ _ _ _ _)⟩
        exact TIn.fiveT (lo := w.heap.size) HT3.out (fun q hq => ⟨by have h1 := hq.1; omega, hq.2, fun e => by have h1 := hq.1; omega⟩) _ _ _ _ _
theorem pfrom_is (L : List A3) (X : List (List Int)) (A : Option Addr) (n c : Nat) (A' : Option Addr) (n' c' : Nat) (w : World) (r : Bool) (hL : QRd w A L) (hX : SRd w A' X) (hn : Hid (L.length = n)) (hn' : Hid (X.length = n')) (hc : n' ≤ c') (hr : Hid (frmB L X = r)) (y : Ex) (hy : Hid (y = if r = true then frm L X else Ex.zero)) :
    Calls Tryz.prog 26 #[.slice A n c, .slice A' n' c'] w (FrQ y r w) :=
  (pfrom_new L X A n c A' n' c' w r hL hX hn hn' hc hr y hy).mono fun x w' h => by
    obtain ⟨⟨k, s, m, u, A, n, c, h1, h2⟩, h3⟩ := h
    exact ⟨⟨k, s, m, u, A, n, c, h1, h2.mono (fun q hq => hq.2)⟩, h3⟩
end Go.Proofs.YtohjllnfnkajjaaGreat

namespace Go.Proofs.YtohjllnfnkajjaaGreat
end Go.Proofs.YtohjllnfnkajjaaGreat

namespace Go.Proofs.YtohjllnfnkajjaaGreat
open Go.RowKit
set_option linter.unusedVariables false
set_option linter.unusedSimpArgs false

set_option maxHeartbeats 8000000 in
set_option maxRecDepth 100000 in
theorem awake9_any (w : World) : Calls Tryz.prog 7 #[] w fun x w' => x = .returned (.bool true) ∧ Below w.heap.size w w' := by
  have MA := Lib.hid trivial
  have MB := Lib.hid trivial
  have MC := Lib.hid trivial
  go_enter Tryz.func7, Tryz.ntmps7
  go_upto_region 2 with (first
    | (go_at_call 29; clear MA; refine (atom9_is _ _).mono ?_; rintro x W1 ⟨rfl, hb1⟩; have HB1 := Lib.hid hb1; clear hb1)
    | (go_at_call 29; clear MB; refine (atom9_is _ _).mono ?_; rintro x W2 ⟨rfl, hb1⟩; have HB2 := Lib.hid (nx HB1.out hb1); clear hb1)
    | (go_at_call 29; clear MC; refine (atom9_is _ _).mono ?_; rintro x W3 ⟨rfl, hb1⟩; have HB3 := Lib.hid (nx HB2.out hb1); clear hb1))
  have hW : Hid (TIn (Lo ((W3.alloc (.cells (xvs [a8 sA, a8 sB, a8 sC]).toArray 28)).alloc (.cells #[.int .i64 2, .string ⟨#[]⟩, .int .i64 0, .int .i64 0, .slice (some ⟨W3.heap.size, 0, none⟩) 3 3] 28)).heap.size) ((W3.alloc (.cells (xvs [a8 sA, a8 sB, a8 sC]).toArray 28)).alloc (.cells #[.int .i64 2, .string ⟨#[]⟩, .int .i64 0, .int .i64 0, .slice (some ⟨W3.heap.size, 0, none⟩) 3 3] 28)) ⟨2, ⟨#[]⟩, 0, 0, some ⟨W3.heap.size, 0, none⟩, 3, 3⟩ ex9 ∧ Blk ((W3.alloc (.cells (xvs [a8 sA, a8 sB, a8 sC]).toArray 28)).alloc (.cells #[.int .i64 2, .string ⟨#[]⟩, .int .i64 0, .int .i64 0, .slice (some ⟨W3.heap.size, 0, none⟩) 3 3] 28)) (W3.heap.size + 1) [.int .i64 2, .string ⟨#[]⟩, .int .i64 0, .int .i64 0, .slice (some ⟨W3.heap.size, 0, none⟩) 3 3] ∧ Below w.heap.size w ((W3.alloc (.cells (xvs [a8 sA, a8 sB, a8 sC]).toArray 28)).alloc (.cells #[.int .i64 2, .string ⟨#[]⟩, .int .i64 0, .int .i64 0, .slice (some ⟨W3.heap.size, 0, none⟩) 3 3] 28))) := by
    refine Lib.hid ⟨⟨⟨rfl, by show 3 ≤ 3; omega, by show 3 ≤ maxLen; simp [maxLen]⟩, ?_⟩, Blk.new (W3.alloc (.cells (xvs [a8 sA, a8 sB, a8 sC]).toArray 28)) _ _ (by simp), nx HB3.out (nxA (newB W3 _) _)⟩
    refine krd_flat [a8 sA, a8 sB, a8 sC] [atE sA, atE sB, atE sC] rfl (by show _ < _; simp; omega) ((Blk.new W3 (xvs [a8 sA, a8 sB, a8 sC]) 28 rfl).grow _) (fun i hi => ?_)
    have hc : i = 0 ∨ i = 1 ∨ i = 2 := by simp at hi; omega
    rcases hc with rfl | rfl | rfl <;> exact ⟨⟨rfl, by show 0 ≤ 0; omega, by show 0 ≤ maxLen; simp [maxLen]⟩, rfl⟩
  obtain ⟨gk, hgk⟩ : ∃ gk, W3.heap.size = gk := ⟨_, rfl⟩
  obtain ⟨ge, hge⟩ : ∃ ge, gk + 1 = ge := ⟨_, rfl⟩
  obtain ⟨W5, hW5⟩ : ∃ W5, ((W3.alloc (.cells (xvs [a8 sA, a8 sB, a8 sC]).toArray 28)).alloc (.cells #[.int .i64 2, .string ⟨#[]⟩, .int .i64 0, .int .i64 0, .slice (some ⟨W3.heap.size, 0, none⟩) 3 3] 28)) = W5 := ⟨_, rfl⟩
  rw [hW5] at hW
  have hW5' : ((W3.alloc (.cells #[.int .i64 0, .string ⟨#[97]⟩, .int .i64 3, .int .i64 0, .slice none 0 0, .int .i64 0, .string ⟨#[98]⟩, .int .i64 3, .int .i64 0, .slice none 0 0, .int .i64 0, .string ⟨#[99]⟩, .int .i64 3, .int .i64 0, .slice none 0 0] 28)).alloc (.cells #[.int .i64 2, .string ⟨#[]⟩, .int .i64 0, .int .i64 0, .slice (some ⟨W3.heap.size, 0, none⟩) 3 3] 28)) = W5 := hW5
  rw [hW5']
  rw [hgk] at hW ⊢
  rw [hge] at hW ⊢
  obtain ⟨hT5, hK5, hB5⟩ := hW.out
  have x0 := hK5.cell 0 rfl
  have x1 := hK5.cell 1 rfl
  have x2 := hK5.cell 2 rfl
  have x3 := hK5.cell 3 rfl
  have x4 := hK5.cell 4 rfl
  have HT5 := Lib.hid hT5
  have HK5 := Lib.hid hK5
  have HB5 := Lib.hid hB5
  clear hT5 hK5 hB5 hW hW5 hW5' hgk HB1 HB2 HB3
  go_upto_region 3 with (go_at_call 17; refine (pmin_is (e := ex9) 2 ⟨#[]⟩ 0 0 (some ⟨gk, 0, none⟩) 3 3 _ HT5.out).mono ?_; rintro x W6 ⟨⟨X, A6, c6, rfl, hP, hR, hc⟩, hb⟩; have hX := ex9_sets hP; have hl3 : X.length = 3 := (by rw [hX]; rfl); rw [hl3]; subst hX; have HT6 := Lib.hid (HT5.out.up hb); have HK6 := Lib.hid (HK5.out.up hb HK5.out.lt); have HB6 := Lib.hid (nx HB5.out hb); have HR6 := Lib.hid hR; clear hP hR hc hb)
  obtain ⟨g9, o9, A7, n7, c7, rfl, hg9, z9, hn7, -, -⟩ := HR6.out.at_ (i := 0) (by decide)
  have hn7' : n7 = 2 := hn7.out.symm
  subst hn7'
  rw [Nat.add_zero] at z9
  have HALL : Hid (∀ W, Below W6.heap.size W6 W → Below W6.heap.size W6 W ∧ Y5 W ge 2 ⟨#[]⟩ 0 0 (some ⟨gk, 0, none⟩) 3 3 ∧ W.cell? ⟨g9, o9, none⟩ = some (.slice A7 2 c7)) := Lib.hid (fun W h => ⟨h, (HK6.out.up h HK6.out.lt).y5, (h.cell (p := ⟨g9, o9, none⟩) hg9).trans z9⟩)
  have HALT : Hid (∀ W, Below W6.heap.size W6 W → TIn (Lo W.heap.size) W ⟨2, ⟨#[]⟩, 0, 0, some ⟨gk, 0, none⟩, 3, 3⟩ ex9) := Lib.hid (fun W h => HT6.out.up h)
  have HS1 : Hid (sameB ex9 ex9 = true) := Lib.hid (sameB_iff.2 rfl)
  have HE1 := Lib.hid ex9_eqv
  clear x0 x1 x2 x3 x4 z9 HR6 hn7 hg9
  go_region_held3 (fun W => Below W6.heap.size W6 W ∧ Y5 W ge 2 ⟨#[]⟩ 0 0 (some ⟨gk, 0, none⟩) 3 3 ∧ W.cell? ⟨g9, o9, none⟩ = some (.slice A7 2 c7))
  (first
    | exact HALL.out _ (Below.refl _ _)
    | exact HALL.out _ (bdD (Below.refl _ _))
    | (go_split_ands; exact HALL.out _ (nx (by assumption) hb2))
    | (go_split_ands; exact HALL.out _ (nxA (by assumption) _)))
  (first
    | (go_at_call 31; go_split_ands; (with_reducible refine (pdual_is (e := ex9) 2 ⟨#[]⟩ 0 0 (some ⟨gk, 0, none⟩) 3 3 _ (HALT.out _ (by assumption))).mono ?_); rintro x W7 ⟨⟨k7, s7, m7, u7, B7, q7, d7, rfl, ht7⟩, hb2⟩; rw [ex9_dual9] at ht7; have HT7 := Lib.hid ht7; have HE7 := Lib.hid (HALT.out _ (nx (by assumption) hb2)); clear ht7)
    | (go_at_call 30; go_split_ands; (with_reducible refine (peqv_is (a := ex9) (b := ex9) 2 ⟨#[]⟩ 0 0 (some ⟨gk, 0, none⟩) 3 3 k7 s7 m7 u7 B7 q7 d7 _ HE7.out HT7.out HE1).mono ?_); rintro x W8 ⟨rfl, hb2⟩; have HT8 := Lib.hid (HALT.out _ (nx (by assumption) hb2)); have HM8 : Hid (TIn (Lo (W8.alloc (.cells #[.int .i64 2, .string ⟨#[]⟩, .int .i64 0, .int .i64 0, .slice (some ⟨gk, 0, none⟩) 3 3] 28)).heap.size) (W8.alloc (.cells #[.int .i64 2, .string ⟨#[]⟩, .int .i64 0, .int .i64 0, .slice (some ⟨gk, 0, none⟩) 3 3] 28)) ⟨1, ⟨#[]⟩, 0, 0, some ⟨W8.heap.size, 0, none⟩, 1, 1⟩ ex91) := Lib.hid ⟨⟨rfl, by show 1 ≤ 1; omega, by show 1 ≤ maxLen; simp [maxLen]⟩, krd_one (v := ⟨2, ⟨#[]⟩, 0, 0, some ⟨gk, 0, none⟩, 3, 3⟩) (by show _ < _; simp) (Blk.new W8 (xvs [⟨2, ⟨#[]⟩, 0, 0, some ⟨gk, 0, none⟩, 3, 3⟩]) 28 rfl) (HT8.out.grow _)⟩)
    | (go_at_call 20; go_split_ands; (with_reducible refine (psimp_is (e := ex91) 1 ⟨#[]⟩ 0 0 (some ⟨W8.heap.size, 0, none⟩) 1 1 _ HM8.out).mono ?_); rintro x W9 ⟨⟨k9, s9, m9, u9, B9, q9, d9, rfl, ht9⟩, hb2⟩; rw [ex91_smp] at ht9; have HT9 := Lib.hid ht9; have HE9 := Lib.hid (HALT.out _ (nx (by assumption) hb2)); clear ht9)
    | (go_at_call 25; go_split_ands; (refine (sx_all ex9 ex9 k9 s9 m9 u9 B9 q9 d9 2 ⟨#[]⟩ 0 0 (some ⟨gk, 0, none⟩) 3 3 _ true HT9 HE9 HS1).mono ?_); rintro x W10 ⟨rfl, hb2⟩))
  all_goals (
    go_split_ands
    go_wp2
    go_ret
    exact ⟨by first | rfl | simp, nx HB6.out (by assumption)⟩)
end Go.Proofs.YtohjllnfnkajjaaGreat

namespace Go.Proofs.YtohjllnfnkajjaaGreat
open Go.RowKit
set_option linter.unusedVariables false

theorem InB.si {w : World} {A : Option Addr} {n c : Nat} {l : List Bool} (h : InB w A n c l) : SI w l A n := ⟨h.len, h.rd, h.big⟩
/-- The world behind the box of an expression. -/
abbrev BE (w : World) (k : Int) (s : ByteArray) (m u : Int) (A : Option Addr) (n c : Nat) : World := w.alloc (.cells #[.int .i64 k, .string s, .int .i64 m, .int .i64 u, .slice A n c] 28)
abbrev S5 (W : World) (g : Nat) (k : Int) (s : ByteArray) (m u : Int) (A : Option Addr) (n c : Nat) : Prop := W.cell? ⟨g, 0, none⟩ = some (.int .i64 k) ∧ W.cell? ⟨g, 1, none⟩ = some (.string s) ∧ W.cell? ⟨g, 2, none⟩ = some (.int .i64 m) ∧ W.cell? ⟨g, 3, none⟩ = some (.int .i64 u) ∧ W.cell? ⟨g, 4, none⟩ = some (.slice A n c)
theorem Blk.s5 {W : World} {g : Nat} {k : Int} {s : ByteArray} {m u : Int} {A : Option Addr} {n c : Nat} (h : Blk W g [.int .i64 k, .string s, .int .i64 m, .int .i64 u, .slice A n c]) : S5 W g k s m u A n c := ⟨h.cell 0 rfl, h.cell 1 rfl, h.cell 2 rfl, h.cell 3 rfl, h.cell 4 rfl⟩
theorem be_blk {w W : World} {k : Int} {s : ByteArray} {m u : Int} {A : Option Addr} {n c : Nat} (h : Below (BE w k s m u A n c).heap.size (BE w k s m u A n c) W) : Blk W w.heap.size [.int .i64 k, .string s, .int .i64 m, .int .i64 u, .slice A n c] :=
  (Blk.new w [.int .i64 k, .string s, .int .i64 m, .int .i64 u, .slice A n c] 28 rfl).up h (by simp [BE])
/-- All that stays true behind the box: its cells, the tree. -/
theorem be_all {w : World} {k : Int} {s : ByteArray} {m u : Int} {A : Option Addr} {n c : Nat} {e : Ex} (hT : TIn (Lo w.heap.size) w ⟨k, s, m, u, A, n, c⟩ e) {W : World} (h : Below (BE w k s m u A n c).heap.size (BE w k s m u A n c) W) : S5 W w.heap.size k s m u A n c ∧ TIn (Lo W.heap.size) W ⟨k, s, m, u, A, n, c⟩ e :=
  ⟨(be_blk h).s5, TIn.up hT (dn1 h)⟩
theorem MnR.of {F : Ex → List A3 → List Bool → Bool} {e : Ex} {X : List (List Nat)} {L : List A3} (h : MnR F e X) (hL : VL e L) : MinOf (F e L) L.length X := by
  rcases h with ⟨M, hM, hX⟩ | ⟨hv, _⟩
  · obtain rfl : L = M := by
      have h1 := hL.2
      have h2 := hM.2
      rw [h1] at h2
      exact Option.some.inj h2
    exact hX
  · exact absurd hL.1 hv
theorem blk_some {e : Ex} {L : List A3} (h : VL e L) {Y : List (List Nat)} (hY : MinOf (blkF e L) L.length Y) : Y ≠ [] := min_some h.dual ((blk_dual h).2 hY)
theorem MinOf.few9 {f : List Bool → Bool} {n : Nat} {X : List (List Nat)} (h : MinOf f n X) (hn : n ≤ 8) : X.length ≤ 256 ∧ ∀ s ∈ X, s.length ≤ 8 := by
  have h1 := h.few
  have h2 := Nat.pow_le_pow_right (n := 2) (by omega) hn
  exact ⟨by omega, fun s hs => by have := h.each hs; omega⟩
end Go.Proofs.YtohjllnfnkajjaaGreat
