/- Contracts of codec.Unframe and of the reference's Unframe. -/
import Derived.Test.YtodoiobhphahcaaFrame
namespace Go.Proofs.Ytodoiobhphahcaa
open Go.RowKit

def unframeS (xs : List Int) : List Int × Int × Int :=
  if (uintS xs).2.2 ≠ 0 then ([], 0, (uintS xs).2.2)
  else if 4096 < (uintS xs).1 then ([], 0, 3)
  else if (xs.length : Int) < (uintS xs).2.1 + (uintS xs).1 + 4 then ([], 0, 5)
  else if rd4 (xs.drop ((uintS xs).2.1 + (uintS xs).1).toNat) = (crc ((xs.drop (uintS xs).2.1.toNat).take (uintS xs).1.toNat) : Int) then
    ((xs.drop (uintS xs).2.1.toNat).take (uintS xs).1.toNat, (uintS xs).2.1 + (uintS xs).1 + 4, 0)
  else ([], 0, 7)

/-- What Unframe gives. -/
def Unframes (w : World) (r : List Int × Int × Int) (e : Ending) (w' : World) : Prop :=
  ∃ V, e = .returned (.tuple #[V, .int .i64 r.2.1, .int .i64 r.2.2]) ∧ OwnB w' w.heap.size V r.1 ∧ Below w.heap.size w w'
theorem Unframes.none_ (w : World) (n e : Int) : Unframes w ([], n, e) (.returned (.tuple #[.slice none 0 0, .int .i64 n, .int .i64 e])) w := ⟨_, rfl, Own.nil _ _ _, Below.refl _ _⟩

theorem app_bytes' {w : World} {ops : Array Oper} {rest : List Oper} {o : Oper} {a : Act} {Q : Exit → Act → World → Prop} (hgd : Region.wanted o (yielded ops a.tmps) = true) (s y : Operand)
    (ho : o.op = .call { callee := .builtin .append, args := #[s, y], argTypes := #[23, 23] })
    (base : Nat) (V : Value) (xs : List Int) (A : Option Addr) (ys : List Int) (m c : Nat) (hm : Hid (ys.length = m)) (hv : a.eval s = V) (hx : a.eval y = .slice A m c)
    (hd : DstB w base V xs) (hne : OwnB w base V xs ∨ 0 < m) (hs : Rd w A ys) (hlen : xs.length + m ≤ 225179981368000) (hbase : base ≤ w.heap.size)
    (h : ∀ V' w', OwnB w' base V' (xs ++ ys) → Below base w w' → (OwnB w base V xs → w.grownBy w' V.ownBlock) → (V'.ownBlock = V.ownBlock ∨ V'.ownBlock = some w.heap.size) → wpList Try.prog ops Q rest (a.put o.dst V') w') :
    wpList Try.prog ops Q (o :: rest) a w := by
  have hm' := hm.out
  subst hm'
  exact app_bytes hgd s y ho base V xs A ys c hv hx hd hne hs hlen hbase h

theorem sum_own (base : Nat) (V : Value) (xs : List Int) (w : World) (ho : OwnB w base V xs) (hb : Byt xs) (hm : xs.length ≤ maxLen) {s : Nat} (hs : Hid (crc xs = s)) :
    Calls Try.prog 25 #[V] w fun e w' => e = .returned (.int .u32 (s : Int)) ∧ w = w' := by
  obtain ⟨A, c, rfl, _, _, hr, _⟩ := Own.form ho
  exact sum_is A c xs w hr hb hm hs
theorem refSum_own (base : Nat) (V : Value) (xs : List Int) (w : World) (ho : OwnB w base V xs) (hb : Byt xs) (hm : xs.length ≤ maxLen) {s : Nat} (hs : Hid (crc xs = s)) :
    Calls Try.prog 26 #[V] w fun e w' => e = .returned (.int .u32 (s : Int)) ∧ w = w' := by
  obtain ⟨A, c, rfl, _, _, hr, _⟩ := Own.form ho
  exact refSum_is A c xs w hr hb hm hs
theorem readSum_is (b o c n : Nat) (xs : List Int) (w : World) (hc : ∀ i, i < 4 → w.cell? ⟨b, o + i, none⟩ = some (.int .u8 (xs.getD i 0))) (hb : Byt xs) (h4 : 4 ≤ xs.length) (hn : Hid (xs.length = n)) {r : Int} (hr : Hid (rd4 xs = r)) :
    Calls Try.prog 33 #[.slice (some ⟨b, o, none⟩) n c] w fun e w' => e = .returned (.int .u32 r) ∧ Below w.heap.size w w' := by
  have hn' := hn.out
  subst hn'
  exact (readSum_any b o c xs w hc hb h4).mono fun _ _ ⟨h1, h2⟩ => ⟨by rw [h1, hr.out], h2⟩

set_option maxHeartbeats 400000 in
theorem unframe_mid (A : Option Addr) (c : Nat) (xs : List Int) (s t : Nat) (w : World) (h : Rd w A xs) (hb : Byt xs) (hm : xs.length ≤ maxLen) (hc : xs.length ≤ c) (hu : Hid (spanS xs 4096 = ((s : Int), (t : Int), 0))) (hst : s ≤ t) (ht4 : t ≤ s + 4096) (ht : t + 4 ≤ xs.length)
    {k : Nat} {r : Int} (hk : Hid (crc ((xs.drop s).take (t - s)) = k)) (hr : Hid (rd4 (xs.drop t) = r)) :
    Calls Try.prog 29 #[.slice A xs.length c] w (Unframes w (if r = (k : Int) then ((xs.drop s).take (t - s), (t : Int) + 4, 0) else ([], 0, 7))) := by
  have hx : xs ≠ [] := by rintro rfl; simp at ht
  have H := Lib.hid (span_is A c xs 4096 w h hb hm (by omega) (by omega) hu)
  obtain ⟨b, o, rfl, hlt, hcell⟩ := h hx
  have hrd : Rd w (some ⟨b, o + s, none⟩) ((xs.drop s).take (t - s)) := by
    have := (h.drop s).take (t - s)
    simpa [add_at] using this
  have hcell4 : ∀ W, Below w.heap.size w W → ∀ i, i < 4 → W.cell? ⟨b, o + t + i, none⟩ = some (.int .u8 ((xs.drop t).getD i 0)) := fun W hW i hi => by
    rw [hW.cell (p := ⟨b, o + t + i, none⟩) hlt, Nat.add_assoc, hcell (t + i) (by omega)]
    simp [List.getD_eq_getElem?_getD, List.getElem?_drop]
  have hy : Hid (((xs.drop s).take (t - s)).length = t - s) := by show _ = _; simp; omega
  have hyb : Byt ((xs.drop s).take (t - s)) := (hb.drop s).take _
  have hz : Hid ((xs.drop t).length = xs.length - t) := by show _ = _; simp
  have hz4 : 4 ≤ (xs.drop t).length := by rw [hz.out]; omega
  have hzb : Byt (xs.drop t) := hb.drop t
  have hcs : ¬ c = s := by omega
  have hct : ¬ c = t := by omega
  have hHC := Lib.hid hcell4
  clear hcell hu h hcell4
  generalize (xs.drop s).take (t - s) = ys at *
  generalize xs.drop t = zs at *
  unfold maxLen at hm
  by_cases hrk : r = (k : Int)
  · rw [if_pos hrk]
    subst hrk
    go_enter Try.func29, Try.ntmps29
    go_wp2_with (first
      | (go_at_call 31; refine H.out.mono ?_; rintro e w' ⟨rfl, rfl⟩)
      | (at_builtin; (refine app_bytes' rfl (.const (.slice none 0 0)) (.tmp 26) rfl w.heap.size _ [] (some ⟨b, o + s, none⟩) ys (t - s) (c - s) hy rfl rfl (.inl (Own.nil _ _ _)) (.inl (Own.nil _ _ _)) hrd (by simp; omega) (Nat.le_refl _) ?_); intro V1 w1 ho1 hb1 _ _)
      | (go_at_call 33; refine (readSum_is b (o + t) (c - t) _ zs w1 (hHC.out w1 hb1) hzb hz4 hz hr).mono ?_; rintro e w2 ⟨rfl, hb2⟩)
      | (go_at_call 25; refine (sum_own w.heap.size V1 ys w2 (ho1.below hb2) hyb (by rw [hy.out]; simp only [maxLen]; omega) hk).mono ?_; rintro e w3 ⟨rfl, rfl⟩))
    go_ret3
    exact ⟨V1, rfl, ho1.below hb2, hb1.trans (hb2.mono hb1.size)⟩
  · rw [if_neg hrk]
    go_enter Try.func29, Try.ntmps29
    go_wp2_with (first
      | (go_at_call 31; refine H.out.mono ?_; rintro e w' ⟨rfl, rfl⟩)
      | (at_builtin; (refine app_bytes' rfl (.const (.slice none 0 0)) (.tmp 26) rfl w.heap.size _ [] (some ⟨b, o + s, none⟩) ys (t - s) (c - s) hy rfl rfl (.inl (Own.nil _ _ _)) (.inl (Own.nil _ _ _)) hrd (by simp; omega) (Nat.le_refl _) ?_); intro V1 w1 ho1 hb1 _ _)
      | (go_at_call 33; refine (readSum_is b (o + t) (c - t) _ zs w1 (hHC.out w1 hb1) hzb hz4 hz hr).mono ?_; rintro e w2 ⟨rfl, hb2⟩)
      | (go_at_call 25; refine (sum_own w.heap.size V1 ys w2 (ho1.below hb2) hyb (by rw [hy.out]; simp only [maxLen]; omega) hk).mono ?_; rintro e w3 ⟨rfl, rfl⟩))
    go_ret3
    exact ⟨_, rfl, Own.nil _ _ _, hb1.trans (hb2.mono hb1.size)⟩

set_option maxHeartbeats 400000 in
theorem unframe_any (A : Option Addr) (c : Nat) (xs : List Int) (w : World) (h : Rd w A xs) (hb : Byt xs) (hm : xs.length ≤ maxLen) (hc : xs.length ≤ c) :
    Calls Try.prog 29 #[.slice A xs.length c] w (Unframes w (unframeS xs)) := by
  rcases uintS_cases hb with ⟨v, n, hu, hv0, hv1, hn0, hn1, hn2⟩ | hu | hu
  · by_cases hgt : 4096 < v
    · have HS : Hid (spanS xs 4096 = (0, 0, 3)) := by show spanS xs 4096 = _; unfold spanS; rw [hu]; simp [hgt]
      have HT : Hid (unframeS xs = ([], 0, 3)) := by show unframeS xs = _; unfold unframeS; rw [hu]; simp [hgt]
      have H := Lib.hid (span_is A c xs 4096 w h hb hm (by omega) (by omega) HS)
      clear hu hv1 HS
      go_enter Try.func29, Try.ntmps29
      go_wp2_with (go_at_call 31; refine H.out.mono ?_; rintro e w' ⟨rfl, rfl⟩)
      go_ret3
      rw [HT.out]
      exact Unframes.none_ _ _ _
    · have HS : Hid (spanS xs 4096 = (n, n + v, 0)) := by show spanS xs 4096 = _; unfold spanS; rw [hu]; simp [hgt]
      obtain ⟨s, rfl⟩ := Int.eq_ofNat_of_zero_le (show 0 ≤ n by omega)
      obtain ⟨q, rfl⟩ := Int.eq_ofNat_of_zero_le hv0
      by_cases hlt : xs.length < s + q + 4
      · have HT : Hid (unframeS xs = ([], 0, 5)) := by show unframeS xs = _; unfold unframeS; rw [hu]; simp only; rw [if_neg (by simp), if_neg hgt, if_pos (by omega)]
        have H := Lib.hid (span_is A c xs 4096 w h hb hm (by omega) (by omega) HS)
        have hlt' : (xs.length : Int) < (s : Int) + (q : Int) + 4 := by omega
        have hq : q ≤ 4096 := by omega
        have hs10 : s ≤ 10 := by omega
        clear hu hv1 HS
        go_enter Try.func29, Try.ntmps29
        go_wp2_with (go_at_call 31; refine H.out.mono ?_; rintro e w' ⟨rfl, rfl⟩)
        go_ret3
        rw [HT.out]
        exact Unframes.none_ _ _ _
      · obtain ⟨k, hk⟩ : ∃ k, Hid (crc ((xs.drop s).take (s + q - s)) = k) := ⟨_, rfl⟩
        obtain ⟨r, hr⟩ : ∃ r, Hid (rd4 (xs.drop (s + q)) = r) := ⟨_, rfl⟩
        have HT : unframeS xs = if r = (k : Int) then ((xs.drop s).take (s + q - s), ((s + q : Nat) : Int) + 4, 0) else ([], 0, 7) := by
          unfold unframeS; rw [hu]; simp only; rw [if_neg (by simp), if_neg hgt, if_neg (by omega)]
          rw [show ((s : Int) + (q : Int)).toNat = s + q by omega, hr.out]
          have e : s + q - s = q := by omega
          have hk' := hk.out
          rw [e] at hk' ⊢
          simp only [Int.toNat_natCast]
          rw [hk']
          push_cast
          rfl
        rw [HT]
        exact unframe_mid A c xs s (s + q) w h hb hm hc (by show _ = _; rw [HS.out]; simp) (by omega) (by omega) (by omega) hk hr
  all_goals
    have HS : Hid (spanS xs 4096 = uintS xs) := by show spanS xs 4096 = _; unfold spanS; rw [hu]; rfl
    have HT : Hid (unframeS xs = ([], 0, (uintS xs).2.2)) := by show unframeS xs = _; unfold unframeS; rw [hu]; rfl
    have H := Lib.hid (span_is A c xs 4096 w h hb hm (by omega) (by omega) (by rw [hu] at HS; exact HS))
    rw [hu] at HT
    clear hu HS
    go_enter Try.func29, Try.ntmps29
    go_wp2_with (go_at_call 31; refine H.out.mono ?_; rintro e w' ⟨rfl, rfl⟩)
    go_ret3
    rw [HT.out]
    exact Unframes.none_ _ _ _

set_option maxHeartbeats 800000 in
theorem refUnframe_mid (A : Option Addr) (c : Nat) (xs : List Int) (s q : Nat) (w : World) (h : Rd w A xs) (hb : Byt xs) (hm : xs.length ≤ maxLen) (hc : xs.length ≤ c) (hu : Hid (uintS xs = ((q : Int), (s : Int), 0))) (hq : q ≤ 4096) (hs : s ≤ 10) (ht : s + q + 4 ≤ xs.length)
    {k : Nat} {r : Int} (hk : Hid (crc ((xs.drop s).take q) = k)) (hr : Hid (rd4 (xs.drop (s + q)) = r)) :
    Calls Try.prog 30 #[.slice A xs.length c] w (Unframes w (if r = (k : Int) then ((xs.drop s).take q, (s : Int) + (q : Int) + 4, 0) else ([], 0, 7))) := by
  have hx : xs ≠ [] := by rintro rfl; simp at ht
  have H := Lib.hid (refUint_is A c xs w h hb hm hu)
  obtain ⟨b, o, rfl, hlt, hcell⟩ := h hx
  have hrd : Rd w (some ⟨b, o + s, none⟩) ((xs.drop s).take q) := by
    have := (h.drop s).take q
    simpa [add_at] using this
  have hcell4 : ∀ W, Below w.heap.size w W → ∀ i, i < 4 → W.cell? ⟨b, o + (s + q) + i, none⟩ = some (.int .u8 ((xs.drop (s + q)).getD i 0)) := fun W hW i hi => by
    rw [hW.cell (p := ⟨b, o + (s + q) + i, none⟩) hlt, Nat.add_assoc, hcell (s + q + i) (by omega)]
    simp [List.getD_eq_getElem?_getD, List.getElem?_drop]
  have hy : Hid (((xs.drop s).take q).length = s + q - s) := by show _ = _; simp; omega
  have hyb : Byt ((xs.drop s).take q) := (hb.drop s).take _
  have hzb : Byt (xs.drop (s + q)) := hb.drop (s + q)
  have hcs : ¬ c = s := by omega
  have hct : ¬ c = s + q := by omega
  have hge : ¬ (xs.length : Int) - (s : Int) < (q : Int) + 4 := by omega
  have hHC := Lib.hid hcell4
  clear hcell hu h hcell4
  generalize (xs.drop s).take q = ys at *
  generalize xs.drop (s + q) = zs at *
  unfold maxLen at hm
  generalize HP : Unframes w (if r = (k : Int) then (ys, (s : Int) + (q : Int) + 4, 0) else ([], 0, 7)) = PP
  have HPP := Lib.hid HP
  clear HP
  go_enter Try.func30, Try.ntmps30
  go_wp2_with (first
    | (go_at_call 20; refine H.out.mono ?_; rintro e w' ⟨rfl, rfl⟩)
    | (at_builtin; (refine app_bytes' rfl (.tmp 29) (.tmp 36) rfl w.heap.size _ [] (some ⟨b, o + s, none⟩) ys (s + q - s) (c - s) hy rfl rfl (.inl (Own.empty _ _ _ (Nat.le_refl _))) (.inl (Own.empty _ _ _ (Nat.le_refl _))) (hrd.below (below_new _ _)) (by simp; omega) (by simp) ?_); intro V1 w1 ho1 hb1 _ _))
  have hB1 : Below w.heap.size w w1 := (below_new w _).trans hb1
  have HR := Lib.hid (fun n => refSum_own w.heap.size V1 ys (w1.drewN n) ho1 hyb (by rw [hy.out]; simp only [maxLen]; omega) hk)
  have g0 := hHC.out w1 hB1 0 (by omega)
  have g1 := hHC.out w1 hB1 1 (by omega)
  have g2 := hHC.out w1 hB1 2 (by omega)
  have g3 := hHC.out w1 hB1 3 (by omega)
  rw [Nat.add_zero] at g0
  obtain ⟨a0, a1⟩ := hzb.getD 0
  obtain ⟨b0, b1⟩ := hzb.getD 1
  obtain ⟨d0, d1⟩ := hzb.getD 2
  obtain ⟨e0, e1⟩ := hzb.getD 3
  have hr' := hr.out
  unfold rd4 at hr'
  generalize zs.getD 0 0 = x0 at *
  generalize zs.getD 1 0 = x1 at *
  generalize zs.getD 2 0 = x2 at *
  generalize zs.getD 3 0 = x3 at *
  have HRR : Hid ((bits .or .u32 (bits .or .u32 (bits .or .u32 (x0 * 16777216) (x1 * 65536)) (x2 * 256)) x3) = r) := by rw [← or_four a0 a1 b0 b1 d0 d1 e0 e1] at hr'; exact hr'
  clear hr' hr
  have l0 : (0 : Int) < (xs.length : Int) - ((s : Int) + (q : Int)) := by omega
  have l1 : (1 : Int) < (xs.length : Int) - ((s : Int) + (q : Int)) := by omega
  have l2 : (2 : Int) < (xs.length : Int) - ((s : Int) + (q : Int)) := by omega
  have l3 : (3 : Int) < (xs.length : Int) - ((s : Int) + (q : Int)) := by omega
  go_quiet ((go_at_call 26; exact Calls.quiet_of_same ((HR.out _).mono fun _ _ ⟨p1, p2⟩ => ⟨p1, p2.symm⟩)))
  rw [HRR.out]
  have hb2 : Below w.heap.size w (w1.drewN nq) := below_drewN hB1 nq
  have ho2 : OwnB (w1.drewN nq) w.heap.size V1 ys := ho1
  clear g0 g1 g2 g3 HRR
  by_cases hrk : r = (k : Int)
  · have hk1 : ((k : Int) != r) = false := by rw [hrk]; simp
    have HK := Lib.hid hrk
    clear hrk
    go_wp2
    go_ret3
    rw [← HPP.out, if_pos HK.out]
    exact ⟨V1, rfl, ho2, hb2⟩
  · have hk1 : ((k : Int) != r) = true := by rw [bne_iff_ne]; exact fun e => hrk e.symm
    have HK := Lib.hid hrk
    clear hrk
    go_wp2
    go_ret3
    rw [← HPP.out, if_neg HK.out]
    exact ⟨_, rfl, Own.nil _ _ _, hb2⟩

set_option maxHeartbeats 400000 in
theorem refUnframe_any (A : Option Addr) (c : Nat) (xs : List Int) (w : World) (h : Rd w A xs) (hb : Byt xs) (hm : xs.length ≤ maxLen) (hc : xs.length ≤ c) :
    Calls Try.prog 30 #[.slice A xs.length c] w (Unframes w (unframeS xs)) := by
  rcases uintS_cases hb with ⟨v, n, hu, hv0, hv1, hn0, hn1, hn2⟩ | hu | hu
  · by_cases hgt : 4096 < v
    · have H := Lib.hid (refUint_is A c xs w h hb hm hu)
      have HT : Hid (unframeS xs = ([], 0, 3)) := by show unframeS xs = _; unfold unframeS; rw [hu]; simp [hgt]
      clear hu hv1
      go_enter Try.func30, Try.ntmps30
      go_wp2_with (go_at_call 20; refine H.out.mono ?_; rintro e w' ⟨rfl, rfl⟩)
      go_ret3
      rw [HT.out]
      exact Unframes.none_ _ _ _
    · obtain ⟨s, rfl⟩ := Int.eq_ofNat_of_zero_le (show 0 ≤ n by omega)
      obtain ⟨q, rfl⟩ := Int.eq_ofNat_of_zero_le hv0
      have hq : q ≤ 4096 := by omega
      have hs10 : s ≤ 10 := by omega
      by_cases hlt : xs.length < s + q + 4
      · have H := Lib.hid (refUint_is A c xs w h hb hm hu)
        have HT : Hid (unframeS xs = ([], 0, 5)) := by show unframeS xs = _; unfold unframeS; rw [hu]; simp only; rw [if_neg (by simp), if_neg hgt, if_pos (by omega)]
        have hlt' : (xs.length : Int) - (s : Int) < (q : Int) + 4 := by omega
        unfold maxLen at hm
        clear hu hv1
        go_enter Try.func30, Try.ntmps30
        go_wp2_with (go_at_call 20; refine H.out.mono ?_; rintro e w' ⟨rfl, rfl⟩)
        go_ret3
        rw [HT.out]
        exact Unframes.none_ _ _ _
      · obtain ⟨k, hk⟩ : ∃ k, Hid (crc ((xs.drop s).take q) = k) := ⟨_, rfl⟩
        obtain ⟨r, hr⟩ : ∃ r, Hid (rd4 (xs.drop (s + q)) = r) := ⟨_, rfl⟩
        have HT : unframeS xs = if r = (k : Int) then ((xs.drop s).take q, (s : Int) + (q : Int) + 4, 0) else ([], 0, 7) := by
          unfold unframeS; rw [hu]; simp only; rw [if_neg (by simp), if_neg hgt, if_neg (by omega)]
          rw [show ((s : Int) + (q : Int)).toNat = s + q by omega, hr.out]
          simp only [Int.toNat_natCast]
          rw [hk.out]
        rw [HT]
        exact refUnframe_mid A c xs s q w h hb hm hc (Lib.hid hu) hq hs10 (by omega) hk hr
  all_goals
    have H := Lib.hid (refUint_is A c xs w h hb hm hu)
    have HT : Hid (unframeS xs = ([], 0, (uintS xs).2.2)) := by show unframeS xs = _; unfold unframeS; rw [hu]; rfl
    rw [hu] at HT
    clear hu
    go_enter Try.func30, Try.ntmps30
    go_wp2_with (go_at_call 20; refine H.out.mono ?_; rintro e w' ⟨rfl, rfl⟩)
    go_ret3
    rw [HT.out]
    exact Unframes.none_ _ _ _
end Go.Proofs.Ytodoiobhphahcaa
