/- Contracts of codec.span, codec.Text and the reference's Text. -/
import Derived.Test.YtodoiobhphahcaaEq
namespace Go.Proofs.Ytodoiobhphahcaa
open Go.RowKit

theorem uint_is (A : Option Addr) (c : Nat) (xs : List Int) (w : World) (h : Rd w A xs) (hb : Byt xs) (hm : xs.length ≤ maxLen) {v n e : Int} (hu : Hid (uintS xs = (v, n, e))) :
    Calls Try.prog 19 #[.slice A xs.length c] w fun f w' => f = .returned (.tuple #[.int .u64 v, .int .i64 n, .int .i64 e]) ∧ w = w' :=
  (uint_any A c xs w h hb hm).mono fun _ _ ⟨h1, h2⟩ => ⟨by rw [h1, uintV, hu.out], h2⟩
theorem refUint_is (A : Option Addr) (c : Nat) (xs : List Int) (w : World) (h : Rd w A xs) (hb : Byt xs) (hm : xs.length ≤ maxLen) {v n e : Int} (hu : Hid (uintS xs = (v, n, e))) :
    Calls Try.prog 20 #[.slice A xs.length c] w fun f w' => f = .returned (.tuple #[.int .u64 v, .int .i64 n, .int .i64 e]) ∧ w = w' :=
  (refUint_any A c xs w h hb hm).mono fun _ _ ⟨h1, h2⟩ => ⟨by rw [h1, uintV, hu.out], h2⟩

/-- The three ends of a varint. -/
theorem uintS_cases {xs : List Int} (hb : Byt xs) : (∃ v n : Int, uintS xs = (v, n, 0) ∧ 0 ≤ v ∧ v < 18446744073709551616 ∧ 0 < n ∧ n ≤ xs.length ∧ n ≤ 10) ∨ uintS xs = (0, 0, 5) ∨ uintS xs = (0, 0, 6) := by
  rcases uintS_err xs with h | h
  · obtain ⟨v, n, e, hu⟩ : ∃ v n e, uintS xs = (v, n, e) := ⟨_, _, _, rfl⟩
    rw [hu] at h
    obtain rfl : e = 0 := h
    obtain ⟨h1, h2, h3, h4, h5, _⟩ := uintS_short hb hu
    exact .inl ⟨v, n, hu, h1, h2, h3, h4, h5⟩
  · exact .inr h

/-- What codec.span gives. -/
def Spans (w : World) (r : Int × Int × Int) (e : Ending) (w' : World) : Prop := e = .returned (.tuple #[.int .i64 r.1, .int .i64 r.2.1, .int .i64 r.2.2]) ∧ w = w'

set_option maxHeartbeats 400000 in
theorem span_any (A : Option Addr) (c : Nat) (xs : List Int) (limit : Int) (w : World) (h : Rd w A xs) (hb : Byt xs) (hm : xs.length ≤ maxLen) (hl0 : 0 ≤ limit) (hl1 : limit ≤ 1000000) :
    Calls Try.prog 31 #[.slice A xs.length c, .int .u64 limit] w (Spans w (spanS xs limit)) := by
  rcases uintS_cases hb with ⟨v, n, hu, hv0, hv1, hn0, hn1, hn2⟩ | hu | hu
  · by_cases hgt : limit < v
    · have HU := Lib.hid hu
      have HS : Hid (spanS xs limit = (0, 0, 3)) := by show spanS xs limit = _; unfold spanS; rw [hu]; simp [hgt]
      clear hu hv1
      go_enter Try.func31, Try.ntmps31
      go_wp2_with (go_at_call 19; refine (uint_is A c xs _ h hb hm HU).mono ?_; rintro e w' ⟨rfl, rfl⟩)
      go_ret3
      unfold Spans
      rw [HS.out]
      exact ⟨rfl, rfl⟩
    · have HU := Lib.hid hu
      have HS : Hid (spanS xs limit = (n, n + v, 0)) := by show spanS xs limit = _; unfold spanS; rw [hu]; simp [hgt]
      clear hu hv1
      have hv2 : v ≤ 1000000 := by omega
      go_enter Try.func31, Try.ntmps31
      go_wp2_with (go_at_call 19; refine (uint_is A c xs _ h hb hm HU).mono ?_; rintro e w' ⟨rfl, rfl⟩)
      go_ret3
      unfold Spans
      rw [HS.out]
      exact ⟨rfl, rfl⟩
  all_goals
    have HU := Lib.hid hu
    have HS := Lib.hid (show spanS xs limit = uintS xs by unfold spanS; rw [hu]; rfl)
    clear hu
    go_enter Try.func31, Try.ntmps31
    go_wp2_with (go_at_call 19; refine (uint_is A c xs _ h hb hm HU).mono ?_; rintro e w' ⟨rfl, rfl⟩)
    go_ret3
    unfold Spans
    rw [HS.out, HU.out]
    exact ⟨rfl, rfl⟩

/-- What codec.Text gives. -/
def Texts (w : World) (r : List Int × Int × Int) (e : Ending) (w' : World) : Prop := e = .returned (.tuple #[.string (strOfNums r.1), .int .i64 r.2.1, .int .i64 r.2.2]) ∧ w = w'

theorem span_is (A : Option Addr) (c : Nat) (xs : List Int) (limit : Int) (w : World) (h : Rd w A xs) (hb : Byt xs) (hm : xs.length ≤ maxLen) (hl0 : 0 ≤ limit) (hl1 : limit ≤ 1000000) {s t e : Int} (hu : Hid (spanS xs limit = (s, t, e))) :
    Calls Try.prog 31 #[.slice A xs.length c, .int .u64 limit] w fun f w' => f = .returned (.tuple #[.int .i64 s, .int .i64 t, .int .i64 e]) ∧ w = w' :=
  (span_any A c xs limit w h hb hm hl0 hl1).mono fun _ _ ⟨h1, h2⟩ => ⟨by rw [h1, hu.out], h2⟩

theorem conv_is (A : Option Addr) (n c : Nat) (xs : List Int) (w : World) (h : Rd w A xs) (hn : xs.length = n) :
    (convert 23 9 (.slice A n c)).run Try.prog w = .ok (.string (strOfNums xs)) w := by
  subst hn
  exact conv_bytes 23 5 9 Try.underlying23 Try.underlying5 Try.underlying9 A c xs h

set_option maxHeartbeats 400000 in
theorem text_mid (A : Option Addr) (c : Nat) (xs : List Int) (s t : Nat) (w : World) (h : Rd w A xs) (hb : Byt xs) (hm : xs.length ≤ maxLen) (hc : xs.length ≤ c) (hu : Hid (spanS xs 1024 = ((s : Int), (t : Int), 0))) (hst : s ≤ t) (ht : t ≤ xs.length) :
    Calls Try.prog 23 #[.slice A xs.length c] w (Texts w ((xs.drop s).take (t - s), (t : Int), 0)) := by
  by_cases hcs : c = s
  · have hts : t = s := by omega
    have hl : xs.length = s := by omega
    have k1 := conv_is A 0 0 [] w (Rd.nil _ _) rfl
    have E : Hid ((xs.drop s).take (t - s) = []) := by show _ = _; rw [hts]; simp
    have H := fun hm => Lib.hid (span_is A c xs 1024 w h hb hm (by omega) (by omega) hu)
    have H := H hm
    clear hu h hb hm hst ht hc
    generalize (xs.drop s).take (t - s) = ys at *
    subst hcs
    subst hts
    rw [hl] at H ⊢
    clear hl
    go_enter Try.func23, Try.ntmps23
    go_wp2_with (go_at_call 31; refine H.out.mono ?_; rintro e w' ⟨rfl, rfl⟩)
    go_ret3
    rw [E.out]
    exact ⟨rfl, rfl⟩
  · have k1 := conv_is (A.map fun a => a.add s) (t - s) (c - s) ((xs.drop s).take (t - s)) w ((h.drop s).take _) (by simp; omega)
    have H := Lib.hid (span_is A c xs 1024 w h hb hm (by omega) (by omega) hu)
    unfold maxLen at hm
    clear hu
    generalize (xs.drop s).take (t - s) = ys at *
    go_enter Try.func23, Try.ntmps23
    go_wp2_with (go_at_call 31; refine H.out.mono ?_; rintro e w' ⟨rfl, rfl⟩)
    go_ret3
    exact ⟨rfl, rfl⟩

set_option maxHeartbeats 400000 in
theorem text_any (A : Option Addr) (c : Nat) (xs : List Int) (w : World) (h : Rd w A xs) (hb : Byt xs) (hm : xs.length ≤ maxLen) (hc : xs.length ≤ c) :
    Calls Try.prog 23 #[.slice A xs.length c] w (Texts w (textS xs)) := by
  rcases uintS_cases hb with ⟨v, n, hu, hv0, hv1, hn0, hn1, hn2⟩ | hu | hu
  · by_cases hgt : 1024 < v
    · have HS : Hid (spanS xs 1024 = (0, 0, 3)) := by show spanS xs 1024 = _; unfold spanS; rw [hu]; simp [hgt]
      have HT : Hid (textS xs = ([], 0, 3)) := by show textS xs = _; unfold textS; rw [hu]; simp [hgt]
      have H := Lib.hid (span_is A c xs 1024 w h hb hm (by omega) (by omega) HS)
      clear hu hv1 HS
      go_enter Try.func23, Try.ntmps23
      go_wp2_with (go_at_call 31; refine H.out.mono ?_; rintro e w' ⟨rfl, rfl⟩)
      go_ret3
      unfold Texts
      rw [HT.out]
      exact ⟨rfl, rfl⟩
    · have HS : Hid (spanS xs 1024 = (n, n + v, 0)) := by show spanS xs 1024 = _; unfold spanS; rw [hu]; simp [hgt]
      obtain ⟨s, rfl⟩ := Int.eq_ofNat_of_zero_le (show 0 ≤ n by omega)
      obtain ⟨q, rfl⟩ := Int.eq_ofNat_of_zero_le hv0
      by_cases hlt : xs.length < s + q
      · have HT : Hid (textS xs = ([], 0, 5)) := by show textS xs = _; unfold textS; rw [hu]; simp only; rw [if_neg (by simp), if_neg hgt, if_pos (by omega)]
        have H := Lib.hid (span_is A c xs 1024 w h hb hm (by omega) (by omega) HS)
        have hlt' : (xs.length : Int) < (s : Int) + (q : Int) := by omega
        clear hu hv1 HS
        go_enter Try.func23, Try.ntmps23
        go_wp2_with (go_at_call 31; refine H.out.mono ?_; rintro e w' ⟨rfl, rfl⟩)
        go_ret3
        unfold Texts
        rw [HT.out]
        exact ⟨rfl, rfl⟩
      · have HT : textS xs = ((xs.drop s).take (s + q - s), ((s + q : Nat) : Int), 0) := by
          unfold textS; rw [hu]; simp only; rw [if_neg (by simp), if_neg hgt, if_neg (by omega)]
          rw [show s + q - s = q by omega]
          simp
        rw [HT]
        exact text_mid A c xs s (s + q) w h hb hm hc (by show _ = _; rw [HS.out]; simp) (by omega) (by omega)
  all_goals
    have HS : Hid (spanS xs 1024 = uintS xs) := by show spanS xs 1024 = _; unfold spanS; rw [hu]; rfl
    have HT : Hid (textS xs = ([], 0, (uintS xs).2.2)) := by show textS xs = _; unfold textS; rw [hu]; rfl
    have H := Lib.hid (span_is A c xs 1024 w h hb hm (by omega) (by omega) (by rw [hu] at HS; exact HS))
    rw [hu] at HT
    clear hu HS
    go_enter Try.func23, Try.ntmps23
    go_wp2_with (go_at_call 31; refine H.out.mono ?_; rintro e w' ⟨rfl, rfl⟩)
    go_ret3
    unfold Texts
    rw [HT.out]
    exact ⟨rfl, rfl⟩

set_option maxHeartbeats 400000 in
theorem refText_any (A : Option Addr) (c : Nat) (xs : List Int) (w : World) (h : Rd w A xs) (hb : Byt xs) (hm : xs.length ≤ maxLen) (hc : xs.length ≤ c) :
    Calls Try.prog 24 #[.slice A xs.length c] w (Texts w (textS xs)) := by
  rcases uintS_cases hb with ⟨v, n, hu, hv0, hv1, hn0, hn1, hn2⟩ | hu | hu
  · have H := Lib.hid (refUint_is A c xs w h hb hm hu)
    by_cases hgt : 1024 < v
    · have HT : Hid (textS xs = ([], 0, 3)) := by show textS xs = _; unfold textS; rw [hu]; simp [hgt]
      clear hu hv1
      go_enter Try.func24, Try.ntmps24
      go_wp2_with (go_at_call 20; refine H.out.mono ?_; rintro e w' ⟨rfl, rfl⟩)
      go_ret3
      unfold Texts
      rw [HT.out]
      exact ⟨rfl, rfl⟩
    · obtain ⟨s, rfl⟩ := Int.eq_ofNat_of_zero_le (show 0 ≤ n by omega)
      obtain ⟨q, rfl⟩ := Int.eq_ofNat_of_zero_le hv0
      have hq : q ≤ 1024 := by omega
      have hs : s ≤ 10 := by omega
      by_cases hlt : xs.length < s + q
      · have HT : Hid (textS xs = ([], 0, 5)) := by show textS xs = _; unfold textS; rw [hu]; simp only; rw [if_neg (by simp), if_neg hgt, if_pos (by omega)]
        have hlt' : (xs.length : Int) - (s : Int) < (q : Int) := by omega
        unfold maxLen at hm
        clear hu hv1
        go_enter Try.func24, Try.ntmps24
        go_wp2_with (go_at_call 20; refine H.out.mono ?_; rintro e w' ⟨rfl, rfl⟩)
        go_ret3
        unfold Texts
        rw [HT.out]
        exact ⟨rfl, rfl⟩
      · have HT : Hid (textS xs = ((xs.drop s).take q, (s : Int) + (q : Int), 0)) := by
          show textS xs = _; unfold textS; rw [hu]; simp only; rw [if_neg (by simp), if_neg hgt, if_neg (by omega)]
          simp
        have hge' : ¬ (xs.length : Int) - (s : Int) < (q : Int) := by omega
        clear hv1 hu
        by_cases hcs : c = s
        · obtain rfl : q = 0 := by omega
          have hl : xs.length = s := by omega
          have k1 := conv_is A 0 0 [] w (Rd.nil _ _) rfl
          subst hcs
          rw [hl] at H ⊢
          clear hl h hb hm hc hge' hlt
          go_enter Try.func24, Try.ntmps24
          go_wp2_with (go_at_call 20; refine H.out.mono ?_; rintro e w' ⟨rfl, rfl⟩)
          go_ret3
          unfold Texts
          rw [HT.out]
          simp
        · have k1 := conv_is (A.map fun a => a.add s) q (c - s) ((xs.drop s).take q) w ((h.drop s).take _) (by simp; omega)
          generalize (xs.drop s).take q = ys at *
          unfold maxLen at hm
          go_enter Try.func24, Try.ntmps24
          go_wp2_with (go_at_call 20; refine H.out.mono ?_; rintro e w' ⟨rfl, rfl⟩)
          go_ret3
          unfold Texts
          rw [HT.out]
          exact ⟨rfl, rfl⟩
  all_goals
    have H := Lib.hid (refUint_is A c xs w h hb hm hu)
    have HT : Hid (textS xs = ([], 0, (uintS xs).2.2)) := by show textS xs = _; unfold textS; rw [hu]; rfl
    rw [hu] at HT
    clear hu
    go_enter Try.func24, Try.ntmps24
    go_wp2_with (go_at_call 20; refine H.out.mono ?_; rintro e w' ⟨rfl, rfl⟩)
    go_ret3
    unfold Texts
    rw [HT.out]
    exact ⟨rfl, rfl⟩
end Go.Proofs.Ytodoiobhphahcaa
