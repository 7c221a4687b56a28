/- The walk of CodecBursts. -/
import Derived.Test.YtodoiobhphahcaaCodecFlipsW
namespace Go.Proofs.Ytodoiobhphahcaa
open Go.RowKit

theorem xor_same {x d : Int} (x0 : 0 ≤ x) (x1 : x < 256) (d0 : 0 ≤ d) (d1 : d < 256) : 0 ≤ bits .xor .u8 x d ∧ bits .xor .u8 x d < 256 ∧ (bits .xor .u8 x d = x ↔ d = 0) := by
  rw [u8_xor x d x0 x1 d0 d1]
  have hlt : x.toNat ^^^ d.toNat < 256 := Nat.xor_lt_two_pow (n := 8) (by omega) (by omega)
  refine ⟨by omega, by omega, fun h => ?_, fun h => ?_⟩
  · have e : x.toNat ^^^ d.toNat = x.toNat := by omega
    have := congrArg (fun z => x.toNat ^^^ z) e
    simp only [← Nat.xor_assoc, Nat.xor_self, Nat.zero_xor] at this
    omega
  · subst h
    simp
    omega

/-- A list whose k bytes from place a on are ys. -/
def mixed (xs : List Int) (a : Nat) (ys : List Int) : List Int := xs.take a ++ ys ++ xs.drop (a + ys.length)
theorem mixed_length {xs ys : List Int} {a : Nat} (h : a + ys.length ≤ xs.length) : (mixed xs a ys).length = xs.length := by
  simp only [mixed, List.length_append, List.length_take, List.length_drop]
  omega
theorem mixed_nil (xs : List Int) (a : Nat) : mixed xs a [] = xs := by simp [mixed]
theorem mixed_byt {xs ys : List Int} (a : Nat) (hx : Byt xs) (hy : Byt ys) : Byt (mixed xs a ys) := ((hx.take a).append hy).append (hx.drop _)
theorem mixed_get {xs ys : List Int} {a : Nat} (h : a + ys.length < xs.length) : (mixed xs a ys).getD (a + ys.length) 0 = xs.getD (a + ys.length) 0 := by
  have hl : (xs.take a ++ ys).length = a + ys.length := by simp; omega
  rw [mixed, List.getD_eq_getElem?_getD, List.getElem?_append_right (by omega), hl, Nat.sub_self, List.getElem?_drop, Nat.add_zero, List.getD_eq_getElem?_getD]
theorem mixed_set {xs ys : List Int} {a : Nat} (h : a + ys.length < xs.length) (y : Int) : (mixed xs a ys).set (a + ys.length) y = mixed xs a (ys ++ [y]) := by
  have hl : (xs.take a ++ ys).length = a + ys.length := by simp; omega
  rw [mixed, List.set_append_right _ _ (by omega), hl, Nat.sub_self, mixed, List.drop_eq_getElem_cons h, List.set_cons_zero]
  simp [Nat.add_assoc]
theorem mixed_self {xs : List Int} {a k : Nat} (h : a + k ≤ xs.length) : mixed xs a ((xs.drop a).take k) = xs := by
  have hl : ((xs.drop a).take k).length = k := by simp; omega
  rw [mixed, hl, List.append_assoc, ← List.drop_drop, List.take_append_drop, List.take_append_drop]
theorem mixed_crc {xs ys : List Int} {a : Nat} (h : a + ys.length ≤ xs.length) (h4 : ys.length ≤ 4) (hx : Byt xs) (hy : Byt ys) : crc (mixed xs a ys) = crc xs ↔ ys = (xs.drop a).take ys.length := by
  refine ⟨fun e => ?_, fun e => ?_⟩
  · have hl : ((xs.drop a).take ys.length).length = ys.length := by simp; omega
    have e2 : crc (xs.take a ++ ys ++ xs.drop (a + ys.length)) = crc (xs.take a ++ (xs.drop a).take ys.length ++ xs.drop (a + ys.length)) := by
      have hs := mixed_self (xs := xs) (a := a) (k := ys.length) h
      rw [mixed, hl] at hs
      rw [hs]
      exact e
    exact crc_burst hl.symm h4 (hx.take a) hy ((hx.drop a).take _) (hx.drop _) e2
  · have hs := mixed_self (xs := xs) (a := a) (k := ys.length) h
    rw [← e] at hs
    rw [hs]
theorem take_snoc {xs : List Int} {a k : Nat} (h : a + k < xs.length) : (xs.drop a).take (k + 1) = (xs.drop a).take k ++ [xs.getD (a + k) 0] := by
  rw [List.take_succ_eq_append_getElem (by simp; omega), List.getElem_drop, List.getD_eq_getElem?_getD, List.getElem?_eq_getElem h]
  rfl

set_option maxRecDepth 100000 in
set_option maxHeartbeats 1600000 in
theorem CodecBursts_walk (A0 : Option Addr) (n0 c0 : Nat) (x0 : List Int) (a1 : Int) (A2 : Option Addr) (n2 c2 : Nat) (x2 : List Int) (w : World) (w0 : In w A0 n0 c0 x0) (w1 : (Lit.int .i64 a1).wf = true) (w2 : In w A2 n2 c2 x2) :
    Calls Try.prog 13 #[.slice A0 n0 c0, .int .i64 a1, .slice A2 n2 c2] w fun e w' => e = .returned (.bool true) ∧ Below w.heap.size w w' := by
  obtain ⟨rfl, hr, hb, hf, hc⟩ := w0
  obtain ⟨rfl, hr2, hb2, hf2, hc2⟩ := w2
  obtain ⟨v0, v1⟩ := wf_i64 w1
  clear w1
  by_cases hin : 0 ≤ a1 ∧ a1 < (x0.length : Int)
  · obtain ⟨i1, i2⟩ := hin
    obtain ⟨a, rfl⟩ := Int.eq_ofNat_of_zero_le i1
    have ha : a < x0.length := by omega
    have j1 : ¬ (a : Int) < 0 := by omega
    have j2 : ¬ x0.length ≤ a := by omega
    clear i1 i2
    go_enter Try.func13, Try.ntmps13
    go_wp2_with (at_builtin; (refine app_bytes rfl (.tmp 19) (.tmp 20) rfl w.heap.size _ [] A0 x0 c0 rfl rfl (.inl (Own.empty _ _ _ (Nat.le_refl _))) (.inl (Own.empty _ _ _ (Nat.le_refl _))) (hr.below (below_new w (.cells #[] 5))) (by simp; omega) (by simp) ?_); intro V1 W1 ho1 hb1 _ _; have hB1 := (below_new w (.cells #[] 5)).trans hb1; obtain ⟨Ap, cp, rfl, _, _, _, _⟩ := Own.form ho1; rw [List.nil_append] at ho1; rw [List.nil_append]; obtain ⟨g, rfl, hgb⟩ := Own.some_ ho1 (by omega))
    go_loopw [8, 9] (fun s i wr => ∃ (k : Nat) (b : Bool) (ys : List Int), k ≤ 4 ∧ a + k ≤ x0.length ∧ k ≤ x2.length ∧ Hid (ys.length = k) ∧ Byt ys ∧ Hid (b = true ↔ ys = (x0.drop a).take k) ∧ s = .bool b ∧ i = .int .i64 k ∧
        OwnB wr w.heap.size (.slice (some ⟨g, 0, none⟩) x0.length cp) (mixed x0 a ys) ∧ Below w.heap.size w wr)
      (fun _ i _ => 4 - (intOf i).toNat)
    case atStart => exact ⟨0, true, [], by omega, by omega, by omega, rfl, Byt.nil, by show _ ↔ _; simp, rfl, rfl, by rw [mixed_nil]; exact ho1, hB1⟩
    case round =>
      obtain ⟨k, b, ys, hk4, hka, hk2, hlen, hyb, hbs, rfl, rfl, hown, hbw⟩ := hrel
      by_cases hgo : k < 4 ∧ k < x2.length ∧ a + k < x0.length
      · obtain ⟨g1, g2, g3⟩ := hgo
        have hca := Own.cellAt hown (p := a + k) (by rw [mixed_length (by rw [hlen.out]; omega)]; exact g3)
        have hmg := mixed_get (xs := x0) (ys := ys) (a := a) (by rw [hlen.out]; exact g3)
        have hms := fun y => mixed_set (xs := x0) (ys := ys) (a := a) (by rw [hlen.out]; exact g3) y
        rw [hlen.out] at hmg hms
        rw [hmg] at hca
        obtain ⟨hca1, hca2⟩ := hca
        obtain ⟨bb, oo, rfl, hbb, hcb⟩ := (hr2.below hbw).at_ g2
        obtain ⟨p0, p1⟩ := hb.getD (a + k)
        obtain ⟨q0, q1⟩ := hb2.getD k
        have hts := take_snoc (xs := x0) (a := a) (k := k) g3
        generalize x0.getD (a + k) 0 = x at *
        generalize x2.getD k 0 = d at *
        obtain ⟨y0, y1, y2⟩ := xor_same p0 p1 q0 q1
        have HTS := Lib.hid hts
        have HMS := Lib.hid hms
        have HY := Lib.hid y2
        clear hts hms y2 hmg
        have hbg : bb ≠ g := by
          have := hbw.size
          obtain ⟨b', o', hA, hlt, _⟩ := hr2 (by rintro rfl; simp at g2)
          injection hA with hA
          injection hA with hA
          omega
        go_wp2
        have s2 : (0 : Int) ≤ (a : Int) + (k : Int) := by omega
        have s3 : ((a : Int) + (k : Int)).toNat = a + k := by omega
        have s4 : (a : Int) + (k : Int) < (x0.length : Int) := by omega
        have s1 : IntKind.i64.wrap ((a : Int) + (k : Int)) = (a : Int) + (k : Int) := IntWalk.i64_in _ (by omega)
        go_region
        have hco : ∀ u : Value, (wr.setCell ⟨g, a + k, none⟩ u).drew.cell? ⟨bb, oo + k, none⟩ = some (.int .u8 d) := fun u => by
          have h := World.cell?_setCell_other wr ⟨g, a + k, none⟩ ⟨bb, oo + k, none⟩ u (by intro e; injection e with e; exact hbg e.symm)
          exact h.trans hcb
        have hoS := Own.store hown (a + k) (bits .xor .u8 x d)
        rw [HMS.out] at hoS
        have hbS := (hbw.setCell hgb (p := ⟨g, a + k, none⟩) (.int .u8 (bits .xor .u8 x d))).drew
        have hlS : Hid ((ys ++ [bits .xor .u8 x d]).length = k + 1) := by show _ = _; rw [List.length_append, hlen.out]; rfl
        have hyS : Byt (ys ++ [bits .xor .u8 x d]) := hyb.append (Byt.cons y0 y1 Byt.nil)
        have key : ∀ b' : Bool, (b' = true ↔ (b = true ∧ d = 0)) → Hid (b' = true ↔ ys ++ [bits .xor .u8 x d] = (x0.drop a).take (k + 1)) := fun b' hb' => by
          show _ ↔ _
          rw [hb', HTS.out]
          refine ⟨fun h => ?_, fun h => ?_⟩
          · rw [HY.out.2 h.2, ← hbs.out.1 h.1]
          · obtain ⟨e1, e2⟩ := List.append_inj' h rfl
            exact ⟨hbs.out.2 e1, HY.out.1 (by simpa using e2)⟩
        clear s1 s2 s3 s4 hca1 hca2
        cases b with
        | false =>
          go_wp2
          exact ⟨⟨k + 1, false, _, by omega, by omega, by omega, hlS, hyS, key false (by simp), rfl, by go_num, hoS, hbS⟩, by simp [intOf]; omega⟩
        | true =>
          by_cases hd : d = 0
          · have hd1 : (d == 0) = true := by rw [hd]; rfl
            have HD := Lib.hid hd
            clear hd
            go_wp2
            exact ⟨⟨k + 1, true, _, by omega, by omega, by omega, hlS, hyS, key true (by simp [HD.out]), rfl, by go_num, hoS, hbS⟩, by simp [intOf]; omega⟩
          · have hd1 : (d == 0) = false := by simpa using hd
            have HD := Lib.hid hd
            clear hd
            go_wp2
            exact ⟨⟨k + 1, false, _, by omega, by omega, by omega, hlS, hyS, key false (by simp [HD.out]), rfl, by go_num, hoS, hbS⟩, by simp [intOf]; omega⟩
      · have hm4 : ys.length ≤ 4 := by rw [hlen.out]; exact hk4
        have hma : a + ys.length ≤ x0.length := by rw [hlen.out]; exact hka
        have hcrc := mixed_crc hma hm4 hb hyb
        have hmb := mixed_byt a hb hyb
        have hml := Lib.hid (mixed_length hma)
        rw [hlen.out] at hcrc
        rw [← hbs.out] at hcrc
        generalize mixed x0 a ys = zs at *
        obtain ⟨s1, hs1⟩ : ∃ s1, Hid (crc zs = s1) := ⟨_, rfl⟩
        obtain ⟨s2, hs2⟩ : ∃ s2, Hid (crc x0 = s2) := ⟨_, rfl⟩
        rw [hs1.out, hs2.out] at hcrc
        have hres : Hid ((((s1 : Int) == (s2 : Int)) == b) = true) := by
          show _ = _
          cases b with
          | true => rw [hcrc.2 rfl]; simp
          | false =>
            have hne : ¬ s1 = s2 := fun e => by have := hcrc.1 e; cases this
            simp
            omega
        clear hcrc hbs
        have tok : True := trivial
        by_cases g1 : k < 4
        · by_cases g2 : k < x2.length
          · have g3 : ¬ (a : Int) + (k : Int) < (x0.length : Int) := by omega
            go_wp2_with (first
              | (go_at_call 17; refine (awake_any _).mono ?_; rintro e1 W3 ⟨rfl, hb3⟩)
              | (go_at_call 25; have _t := tok; refine (sum_own w.heap.size _ zs _ (hown.below hb3) hmb (by rw [hml.out]; simp only [maxLen]; omega) hs1).mono ?_; rintro e1 W4 ⟨rfl, rfl⟩; clear tok)
              | (go_at_call 25; refine (sum_is A0 c0 x0 _ ((hr.below hbw).below hb3) hb (by simp only [maxLen]; omega) hs2).mono ?_; rintro e1 W4 ⟨rfl, rfl⟩))
            go_ret
            exact ⟨ret_true hres.out, nx hbw hb3⟩
          · go_wp2_with (first
              | (go_at_call 17; refine (awake_any _).mono ?_; rintro e1 W3 ⟨rfl, hb3⟩)
              | (go_at_call 25; have _t := tok; refine (sum_own w.heap.size _ zs _ (hown.below hb3) hmb (by rw [hml.out]; simp only [maxLen]; omega) hs1).mono ?_; rintro e1 W4 ⟨rfl, rfl⟩; clear tok)
              | (go_at_call 25; refine (sum_is A0 c0 x0 _ ((hr.below hbw).below hb3) hb (by simp only [maxLen]; omega) hs2).mono ?_; rintro e1 W4 ⟨rfl, rfl⟩))
            go_ret
            exact ⟨ret_true hres.out, nx hbw hb3⟩
        · go_wp2_with (first
            | (go_at_call 17; refine (awake_any _).mono ?_; rintro e1 W3 ⟨rfl, hb3⟩)
            | (go_at_call 25; have _t := tok; refine (sum_own w.heap.size _ zs _ (hown.below hb3) hmb (by rw [hml.out]; simp only [maxLen]; omega) hs1).mono ?_; rintro e1 W4 ⟨rfl, rfl⟩; clear tok)
            | (go_at_call 25; refine (sum_is A0 c0 x0 _ ((hr.below hbw).below hb3) hb (by simp only [maxLen]; omega) hs2).mono ?_; rintro e1 W4 ⟨rfl, rfl⟩))
          go_ret
          exact ⟨ret_true hres.out, nx hbw hb3⟩
  · by_cases i1 : a1 < 0
    · go_enter Try.func13, Try.ntmps13
      go_wp2_with (go_at_call 17; refine (awake_any _).mono ?_; rintro e1 W3 ⟨rfl, hb3⟩)
      go_ret
      exact ⟨rfl, hb3⟩
    · obtain ⟨a, rfl⟩ := Int.eq_ofNat_of_zero_le (show 0 ≤ a1 by omega)
      have i2 : x0.length ≤ a := by omega
      go_enter Try.func13, Try.ntmps13
      go_wp2_with (go_at_call 17; refine (awake_any _).mono ?_; rintro e1 W3 ⟨rfl, hb3⟩)
      go_ret
      exact ⟨rfl, hb3⟩
end Go.Proofs.Ytodoiobhphahcaa
