/- Contracts of the program: firstAbove, Set of grants. -/
import Derived.Test.YthclgccgkdijbaaDoorHdlt
namespace Go.Proofs.YthclgccgkdijbaaDoor
open Go.RowKit
set_option linter.unusedVariables false
set_option linter.unusedSimpArgs false

/-- How many grants stand ahead of the first whose process is greater. -/
def fabH (p : Pr3) : List Hd → Nat
  | [] => 0
  | h :: r => if ltP p h.1 then 0 else fabH p r + 1
theorem fab_le (p : Pr3) : ∀ l : List Hd, fabH p l ≤ l.length
  | [] => Nat.le_refl _
  | h :: r => by
    rw [fabH]
    split
    · omega
    · have := fab_le p r
      simp
      omega
theorem ins_fab (p : Pr3) (a : P2) : ∀ l : List Hd, insH p a l = l.take (fabH p l) ++ (p, a) :: l.drop (fabH p l)
  | [] => rfl
  | h :: r => by
    rw [insH, fabH]
    by_cases hx : ltP p h.1
    · rw [if_pos hx, if_pos hx]; rfl
    · rw [if_neg hx, if_neg hx, ins_fab p a r]; simp
theorem fab_at {p : Pr3} : ∀ {l : List Hd} {k : Nat}, k < l.length → (∀ j, j < k → ¬ ltP p (l.getD j default).1) → ltP p (l.getD k default).1 → fabH p l = k
  | [], _, h, _, _ => by simp at h
  | h :: r, 0, _, _, e => by rw [fabH, if_pos (by simpa using e)]
  | h :: r, k + 1, hk, hn, e => by
    rw [fabH, if_neg (by have := hn 0 (by omega); simpa using this), fab_at (k := k) (by simpa using hk) (fun j hj => by have := hn (j + 1) (by omega); simpa using this) (by simpa using e)]
theorem fab_end {p : Pr3} : ∀ {l : List Hd}, (∀ j, j < l.length → ¬ ltP p (l.getD j default).1) → fabH p l = l.length
  | [], _ => rfl
  | h :: r, hn => by
    rw [fabH, if_neg (by have := hn 0 (by simp); simpa using this), fab_end (fun j hj => by have := hn (j + 1) (by simpa using hj); simpa using this)]
    rfl
set_option maxHeartbeats 4000000 in
set_option maxRecDepth 8000 in
theorem above_is (A : Option Addr) (n c : Nat) (l : List Hd) (a b d : Int) (w : World) (hl : HRd w A l) (hn : Hid (l.length = n)) (hm : Hid (n ≤ 1000)) {r : Nat} (hr : Hid (fabH (a, b, d) l = r)) :
    Calls Tryd.prog 47 #[.slice A n c, .agg #[.int .i64 a, .int .i64 b, .int .i64 d]] w fun e w' => e = .returned (.int .i64 r) ∧ Below w.heap.size w w' := by
  have HR := Lib.hid hl
  have HK0 := Lib.hid (Blk.new w [.int .i64 a, .int .i64 b, .int .i64 d] 26 rfl)
  clear hl
  go_enter Tryd.func47, Tryd.ntmps47
  go_wp2
  go_loopw [9] (fun i wr => ∃ (k : Nat), k ≤ n ∧ i = .int .i64 k ∧ Hid (Blk wr w.heap.size [.int .i64 a, .int .i64 b, .int .i64 d]) ∧ Hid (Below w.heap.size w wr) ∧ Hid (∀ j, j < k → ¬ ltP (a, b, d) (l.getD j default).1)) (fun i _ => n - (intOf i).toNat)
  case atStart => exact ⟨0, by omega, rfl, HK0, newB _ _, fun j hj => by omega⟩
  case round =>
    obtain ⟨k, hk, rfl, hb0, hB, hno⟩ := hrel
    obtain ⟨WR, hWR⟩ : ∃ W, W = wr := ⟨_, rfl⟩
    subst hWR
    have i0 := hb0.out.cell 0 rfl
    have i1 := hb0.out.cell 1 rfl
    have i2 := hb0.out.cell 2 rfl
    have hl0 := hb0.out.lt
    by_cases hlt : (k : Int) < (n : Int)
    · obtain ⟨g, o, x, y, z, m, v, rfl, hg, hx, c1, c2, c3, c4, c5⟩ := (HR.out.below hB.out).at_ (i := k) (by have := hn.out; omega)
      have e5 : IntKind.i64.wrap ((k : Int) + 1) = (k : Int) + 1 := by have := hm.out; rw [IntKind.wrap_i64]; omega
      obtain ⟨q, hq⟩ : ∃ q, Hid (cmp3 x y z a b d = q) := ⟨_, rfl⟩
      have hlt2 : Hid (ltP (a, b, d) (l.getD k default).1 ↔ 0 < q) := Lib.hid (by rw [hx.out, ← hq.out]; exact (ltP_cmp' (x, y, z) (a, b, d)).symm)
      have HKN := Lib.hid (hb0.out.grow (.cells #[.int .i64 x, .int .i64 y, .int .i64 z, .int .i64 m, .int .i64 v] 53))
      have HBN := Lib.hid (nxA hB.out (.cells #[.int .i64 x, .int .i64 y, .int .i64 z, .int .i64 m, .int .i64 v] 53))
      by_cases hq0 : 0 < q
      · have hst : Hid (k = r) := Lib.hid (by rw [← hr.out]; exact (fab_at (by have := hn.out; omega) hno.out (hlt2.out.2 hq0)).symm)
        go_wp2_with (go_at_call 34; refine (compareProc_is x y z a b d _ hq).mono ?_; rintro e W1 ⟨rfl, hb1⟩; have HB1 := Lib.hid (nx HBN.out hb1); clear hb1)
        go_ret
        exact ⟨by rw [← hst.out]; rfl, HB1.out⟩
      · have hno2 : Hid (∀ j, j < k + 1 → ¬ ltP (a, b, d) (l.getD j default).1) := fun j hj e => by
          by_cases hjk : j = k
          · subst hjk
            exact hq0 (hlt2.out.1 e)
          · exact hno.out j (by omega) e
        go_wp2_with (go_at_call 34; refine (compareProc_is x y z a b d _ hq).mono ?_; rintro e W1 ⟨rfl, hb1⟩; have HB1 := Lib.hid (nx HBN.out hb1); have HK1 := Lib.hid (HKN.out.up hb1 HKN.out.lt); clear hb1)
        go_roundw
        case rel => exact ⟨k + 1, by omega, by go_num, HK1, HB1, hno2⟩
        case measure => simp [intOf]; omega
    · have hst : Hid (n = r) := Lib.hid (by rw [← hr.out, ← hn.out]; exact (fab_end (fun j hj => hno.out j (by have := hn.out; omega))).symm)
      go_wp2
      go_ret
      exact ⟨by rw [← hst.out]; rfl, hB.out⟩
set_option maxHeartbeats 1000000 in
theorem setPred_is (g : Nat) (a b d x y z m v : Int) (w : World) (h : Blk w g [.int .i64 a, .int .i64 b, .int .i64 d]) :
    Calls Tryd.prog 45 #[hag x y z m v, .pointer (some ⟨g, 0, none⟩)] w fun e w' => e = .returned (.bool (decide ((x, y, z) = (a, b, d)))) ∧ Below w.heap.size w w' := by
  have i0 := h.cell 0 rfl
  have i1 := h.cell 1 rfl
  have i2 := h.cell 2 rfl
  have hl0 := h.lt
  have HK0 := Blk.new w [.int .i64 x, .int .i64 y, .int .i64 z, .int .i64 m, .int .i64 v] 53 rfl
  obtain ⟨β, hβ⟩ : ∃ β, Hid (decide (x = a ∧ y = b ∧ z = d) = β) := ⟨_, rfl⟩
  have he : ∀ W : World, (binOp .eql 26 (.agg #[.int .i64 x, .int .i64 y, .int .i64 z]) (.agg #[.int .i64 a, .int .i64 b, .int .i64 d])).run Tryd.prog W = .ok (.bool β) W := fun W => by rw [← hβ.out]; exact eqPr x y z a b d W
  clear HK0
  go_enter Tryd.func45, Tryd.ntmps45
  go_wp2
  go_ret
  refine ⟨ret_bool ?_, newB _ _⟩
  rw [← hβ.out]
  simp
/-- What the copy and the store make of an own row with one grant behind it. -/
theorem put_row {l : List Hd} {p : Nat} (hp : p ≤ l.length) (z x : Hd) : (((l ++ [z]).take (p + 1) ++ ((l ++ [z]).drop p).take (l.length - p)).set p x) = l.take p ++ x :: l.drop p := by
  have e1 : min (p + 1) (l.length + 1) = p + 1 := by omega
  have e2 : min p l.length = p := by omega
  apply List.ext_getElem?
  intro i
  simp only [List.getElem?_set, List.getElem?_append, List.getElem?_take, List.getElem?_drop, List.length_append, List.length_take, List.length_drop, List.length_singleton, List.getElem?_cons, e1, e2]
  by_cases h1 : p = i
  · subst h1
    rw [if_pos rfl, if_pos (by omega), if_neg (by omega), if_pos (by omega)]
  · rw [if_neg h1]
    by_cases h2 : i < p
    · rw [if_pos (by omega), if_pos (by omega), if_pos (by omega), if_pos h2, if_pos (by omega)]
    · rw [if_neg (show ¬ i < p + 1 by omega), if_neg h2, if_neg (show ¬ i - p = 0 by omega)]
      by_cases h3 : i - (p + 1) < l.length - p
      · rw [if_pos h3, if_pos (by omega), show p + (i - (p + 1)) = p + (i - p - 1) by omega]
      · rw [if_neg h3, List.getElem?_eq_none (by omega)]
theorem OwnH.low {w : World} {base base' : Nat} {v : Value} {l : List Hd} (h : OwnH w base v l) (hb : base' ≤ base) : OwnH w base' v l := own_low h hb rfl
abbrev zH : Hd := ((0, 0, 0), (0, 0))
set_option maxHeartbeats 8000000 in
set_option maxRecDepth 20000 in
theorem hset_is (A : Option Addr) (n c : Nat) (l : List Hd) (a b d s t : Int) (w : World) (hl : HRd w A l) (hn : Hid (l.length = n)) (hm : Hid (n ≤ 900)) :
    Calls Tryd.prog 20 #[.slice A n c, .agg #[.int .i64 a, .int .i64 b, .int .i64 d], .agg #[.int .i64 s, .int .i64 t]] w fun e w' => (∃ V, e = .returned V ∧ OwnH w' w.heap.size V (setH l (a, b, d) (s, t))) ∧ Below w.heap.size w w' := by
  have HR := Lib.hid hl
  have HK0 := Lib.hid (Blk.new w [.int .i64 a, .int .i64 b, .int .i64 d] 26 rfl)
  have HK1 := Lib.hid (Blk.new (w.alloc (.cells #[.int .i64 a, .int .i64 b, .int .i64 d] 26)) [.int .i64 s, .int .i64 t] 30 (g := w.heap.size + 1) (by simp))
  have HK2 := Lib.hid (HK0.out.grow (.cells #[.int .i64 s, .int .i64 t] 30))
  have hm2 : Hid (n ≤ 1000) := Lib.hid (by have := hm.out; omega)
  obtain ⟨W0, hW0⟩ : ∃ W0, Hid ((w.alloc (.cells #[.int .i64 a, .int .i64 b, .int .i64 d] 26)).alloc (.cells #[.int .i64 s, .int .i64 t] 30) = W0) := ⟨_, rfl⟩
  have HB0 : Hid (Below w.heap.size w W0) := Lib.hid (by rw [← hW0.out]; exact nxA (newB _ _) _)
  rw [hW0.out] at HK1 HK2
  clear HK0 hl
  have HX : Hid (∀ W, Below W0.heap.size W0 W → Blk W w.heap.size [.int .i64 a, .int .i64 b, .int .i64 d] ∧ Blk W (w.heap.size + 1) [.int .i64 s, .int .i64 t]) := Lib.hid (fun W hW => ⟨HK2.out.up hW HK2.out.lt, HK1.out.up hW HK1.out.lt⟩)
  have eK : ∀ args w, (callFunc 45 args).run Tryd.prog w = .ok (.enter 45 args) w := enters_of Tryd.func45 (by kernel_rfl) rfl
  have HPR : Hid (∀ W1, Below W0.heap.size W0 W1 → PredH Tryd.prog 45 #[.pointer (some ⟨w.heap.size, 0, none⟩)] (fun h => decide (h.1 = (a, b, d))) W0.heap.size W1) := Lib.hid (fun W1 h1 x y z m v W hW => setPred_is w.heap.size a b d x y z m v W (HX.out W (h1.trans hW)).1)
  have hdl : Hid (delH l (a, b, d) = l.filter (fun x => !decide (x.1 = (a, b, d)))) := Lib.hid rfl
  obtain ⟨l2, hl2⟩ : ∃ l2, Hid (delH l (a, b, d) = l2) := ⟨_, Lib.hid rfl⟩
  have hlen2 : Hid (l2.length ≤ n) := Lib.hid (by rw [← hl2.out, ← hn.out]; exact List.length_filter_le _ _)
  have hml : Hid (l.length ≤ 1000) := Lib.hid (by rw [hn.out]; exact hm2.out)
  obtain ⟨n2, hn2⟩ : ∃ n2, Hid (l2.length = n2) := ⟨_, Lib.hid rfl⟩
  have hlen2' : n2 ≤ n := by rw [← hn2.out]; exact hlen2.out
  have hm22 : Hid (n2 ≤ 1000) := Lib.hid (by have := hm2.out; omega)
  obtain ⟨β, hβ⟩ : ∃ β, Hid (zer s t = β) := ⟨_, Lib.hid rfl⟩
  obtain ⟨k, hk⟩ : ∃ k, Hid (fabH (a, b, d) l2 = k) := ⟨_, Lib.hid rfl⟩
  have hkn : k ≤ n2 := by rw [← hk.out, ← hn2.out]; exact fab_le _ _
  have HZ : Hid (∀ W, Calls Tryd.prog 46 #[.agg #[.int .i64 s, .int .i64 t]] W fun e w' => e = .returned (.bool β) ∧ Below W.heap.size W w') := Lib.hid (fun W => by rw [← hβ.out]; exact zero_any s t W)
  cases β with
  | true =>
    have HE : Hid (setH l (a, b, d) (s, t) = l2) := Lib.hid (by unfold setH; rw [if_pos hβ.out, hl2.out])
    go_enter Tryd.func20, Tryd.ntmps20
    go_upto_region 1 with fail
    rw [hW0.out]
    go_wp2_with (first
      | (go_at_call 44; refine (clone_hold A n c l _ (HR.out.below HB0.out) hn hm2).mono ?_; rintro e W1 ⟨⟨V1, rfl, ho1⟩, hb1⟩; have HO1 := Lib.hid ho1; have HB1 := Lib.hid hb1; clear ho1 hb1)
      | (go_at_call 43; refine (delete_hold 45 #[.pointer (some ⟨w.heap.size, 0, none⟩)] (fun h => decide (h.1 = (a, b, d))) eK W0.heap.size V1 l _ HB1.out.size (HPR.out _ HB1.out) HO1.out hml).mono ?_; rintro e W2 ⟨⟨V2, rfl, ho2⟩, hb2⟩; rw [← hdl.out, hl2.out] at ho2; have HO2 := Lib.hid ho2; have HB2 := Lib.hid (HB1.out.trans hb2); have hkx := (HX.out _ HB2.out).2; have k0 := hkx.cell 0 rfl; have k1 := hkx.cell 1 rfl; clear ho2 hb2 hkx)
      | (go_at_call 46; refine (HZ.out _).mono ?_; rintro e W3 ⟨rfl, hb3⟩; have HO3 := Lib.hid (HO2.out.below hb3); have HB3 := Lib.hid (nx HB2.out hb3); clear hb3))
    go_ret
    exact ⟨⟨_, rfl, by rw [HE.out]; exact HO3.out.low HB0.out.size⟩, nx HB0.out HB3.out⟩
  | false =>
    have HE : Hid (setH l (a, b, d) (s, t) = l2.take k ++ ((a, b, d), (s, t)) :: l2.drop k) := Lib.hid (by unfold setH; rw [if_neg (by rw [hβ.out]; decide), hl2.out, ins_fab, hk.out])
    have hmix : Tryd.prog.follows .mixedOrders = true := by kernel_rfl
    have hz1 : Hid (([zH] : List Hd).length = 1) := Lib.hid rfl
    have hz2 : Hid (l2.length + 1 ≤ 1000000) := Lib.hid (by have := hm22.out; have := hn2.out; omega)
    have hz3 : Hid ((l2 ++ [zH]).length = n2 + 1) := Lib.hid (by rw [List.length_append, hn2.out]; rfl)
    obtain ⟨q, hq⟩ : ∃ q, Hid (n2 - k = q) := ⟨_, Lib.hid rfl⟩
    have hkq : k + 1 + q = n2 + 1 := by have := hq.out; omega
    have HPUT : Hid (((l2 ++ [zH]).take (k + 1) ++ ((l2 ++ [zH]).drop k).take q).set k ((a, b, d), (s, t)) = l2.take k ++ ((a, b, d), (s, t)) :: l2.drop k) := Lib.hid (by
      have h1 := put_row (l := l2) (p := k) (by rw [hn2.out]; omega) zH ((a, b, d), (s, t))
      rw [hn2.out, hq.out] at h1
      exact h1)
    have hz4 : Hid (((l2 ++ [zH]).take (k + 1) ++ ((l2 ++ [zH]).drop k).take q).length = n2 + 1) := Lib.hid (by have h := hn2.out; simp; omega)
    have e5 : IntKind.i64.wrap ((k : Int) + 1) = (k : Int) + 1 := by have := hm22.out; rw [IntKind.wrap_i64]; omega
    go_enter Tryd.func20, Tryd.ntmps20
    go_upto_region 1 with fail
    rw [hW0.out]
    go_upto_region 6 with (first
      | (go_at_call 44; refine (clone_hold A n c l _ (HR.out.below HB0.out) hn hm2).mono ?_; rintro e W1 ⟨⟨V1, rfl, ho1⟩, hb1⟩; have HO1 := Lib.hid ho1; have HB1 := Lib.hid hb1; clear ho1 hb1)
      | (go_at_call 43; refine (delete_hold 45 #[.pointer (some ⟨w.heap.size, 0, none⟩)] (fun h => decide (h.1 = (a, b, d))) eK W0.heap.size V1 l _ HB1.out.size (HPR.out _ HB1.out) HO1.out hml).mono ?_; rintro e W2 ⟨⟨V2, rfl, ho2⟩, hb2⟩; rw [← hdl.out, hl2.out] at ho2; obtain ⟨A2, c2, hv2, hnc2, hrd2, -⟩ := ho2.form; rw [hn2.out] at hv2; subst hv2; have HRD2 := Lib.hid hrd2; have HO2 := Lib.hid ho2; have HB2 := Lib.hid (HB1.out.trans hb2); have hkx := (HX.out _ HB2.out); have k0 := hkx.2.cell 0 rfl; have k1 := hkx.2.cell 1 rfl; clear ho2 hb2 hkx hrd2 hnc2)
      | (go_at_call 46; refine (HZ.out _).mono ?_; rintro e W3 ⟨rfl, hb3⟩; have HO3 := Lib.hid (HO2.out.below hb3); have HRD3 := Lib.hid (HRD2.out.below hb3); have HB3 := Lib.hid (nx HB2.out hb3); have hkx := (HX.out _ HB3.out); have j0 := hkx.1.cell 0 rfl; have j1 := hkx.1.cell 1 rfl; have j2 := hkx.1.cell 2 rfl; clear hb3 hkx)
      | (go_at_call 47; refine (above_is A2 n2 c2 l2 a b d _ HRD3.out hn2 hm22 hk).mono ?_; rintro e W4 ⟨rfl, hb4⟩; have HO4 := Lib.hid (HO3.out.below hb4); have HB4 := Lib.hid (nx HB3.out hb4); clear hb4)
      | (at_builtin; (refine app_hold rfl (.tmp 19) (.tmp 21) rfl W0.heap.size (.slice A2 n2 c2) l2 (some ⟨W4.heap.size, 0, none⟩) [zH] 1 1 hz1 rfl rfl (HO4.out.below (newB _ _)) (hrd_one (by unfold Z5; simp)) hz2 (nxA HB4.out _).size ?_); intro V5 W5 ho5 hb5; obtain ⟨A5, c5, hv5, hnc5, -, hA5⟩ := ho5.form; obtain ⟨g5, rfl, hg5, -⟩ := hA5 (by rw [hz3.out]; omega); rw [hz3.out] at hv5 hnc5; subst hv5; have HO5 := Lib.hid ho5; have HG5 := Lib.hid hg5; have HB5 := Lib.hid ((nxA HB4.out _).trans hb5); clear ho5 hb5 hA5 hg5))
    have hs1 := cutH_back (A := some ⟨g5, 0, none⟩) (n := n2 + 1) (c := c5) (p := k + 1) (by omega) hnc5
    have hs2 := cutH_back (A := some ⟨g5, 0, none⟩) (n := n2 + 1) (c := c5) (p := k) (by omega) hnc5
    rw [if_neg (by omega)] at hs2
    obtain ⟨AD, hAD, hAD2⟩ : ∃ AD, (if c5 = k + 1 then some ⟨g5, 0, none⟩ else (some (⟨g5, 0, none⟩ : Addr)).map (·.add ((k + 1) * 5))) = some AD ∧ (0 < q → AD = ⟨g5, (k + 1) * 5, none⟩) := by
      by_cases h : c5 = k + 1
      · rw [if_pos h]
        exact ⟨_, rfl, fun h0 => by omega⟩
      · rw [if_neg h]
        exact ⟨_, rfl, fun _ => by simp [add_at]⟩
    rw [hAD, show n2 + 1 - (k + 1) = q by omega] at hs1
    simp only [Int.natCast_add, Int.cast_ofNat_Int] at hs1
    rw [show n2 + 1 - k = q + 1 by omega] at hs2
    simp only [Option.map_some, add_at, Nat.zero_add] at hs2
    have HAD := Lib.hid hAD2
    clear hAD hAD2
    go_region_held3 (fun _ => True) (trivial) (first
      | ((with_reducible refine step_copyH rfl (.tmp 26) (.tmp 29) rfl W0.heap.size g5 (n2 + 1) c5 (l2 ++ [zH]) k q AD (c5 - (k + 1)) (c5 - k) rfl rfl HAD.out (HO5.out.below (bdD (Below.refl _ _))) hz3.out hkq ?_); intro W6 m6 ho6 hg6; have HO6 := Lib.hid ho6; have HB6 := Lib.hid ((HB5.out.trans ((bdD (Below.refl _ _)).mono HB5.out.size)).grown hg6 (show W0.heap.size ≤ W5.drew.heap.size from HB5.out.size) (fun k hk => by injection hk with hk; have := HG5.out; omega)); clear ho6 hg6))
    all_goals (
      have hkx := (HX.out _ HB6.out)
      have j0 := hkx.1.cell 0 rfl
      have j1 := hkx.1.cell 1 rfl
      have j2 := hkx.1.cell 2 rfl
      have k0 := hkx.2.cell 0 rfl
      have k1 := hkx.2.cell 1 rfl
      obtain ⟨⟨v1, d1⟩, ⟨v2, d2⟩, ⟨v3, d3⟩, ⟨v4, d4⟩, ⟨v5, d5⟩, f0⟩ := own_five HO6.out hz4.out (show k < n2 + 1 by omega)
      have f1 := f0 (k * 5)
      have f2 := f0 (k * 5 + 1)
      have f3 := f0 (k * 5 + 2)
      have f4 := f0 (k * 5 + 3)
      have f5 := f0 (k * 5 + 4)
      have hkn2 : (k : Int) < ((n2 + 1 : Nat) : Int) := by omega
      have HO7 := Lib.hid (HO6.out.store hz4.out k ((a, b, d), (s, t)))
      rw [HPUT.out] at HO7
      have HB7 := Lib.hid (below_five HB6.out HG5.out (k * 5) (.int .i64 a) (.int .i64 b) (.int .i64 d) (.int .i64 s) (.int .i64 t))
      clear hkx f0
      go_wp2
      go_ret
      exact ⟨⟨_, rfl, by rw [HE.out]; exact HO7.out.low HB0.out.size⟩, nx HB0.out HB7.out⟩)
end Go.Proofs.YthclgccgkdijbaaDoor
