/- The contracts of the codec once more: arguments that are rows of the caller's own, results with their form written out. -/
import Derived.Test.YtodoiobhphahcaaAwake
import Derived.Test.YtodoiobhphahcaaOpen
namespace Go.Proofs.Ytodoiobhphahcaa
open Go.RowKit

theorem nx {w a b : World} (h : Below w.heap.size w a) (k : Below a.heap.size a b) : Below w.heap.size w b := h.trans (k.mono h.size)
theorem ret_true {b : Bool} (h : b = true) : Ending.returned (.bool b) = .returned (.bool true) := by rw [h]

/-- A row that a call gave, its form written out. -/
def GivesF (w : World) (xs : List Int) (n : Nat) (e : Ending) (w' : World) : Prop := ∃ A c, e = .returned (.slice A n c) ∧ n ≤ c ∧ OwnB w' w.heap.size (.slice A n c) xs ∧ Rd w' A xs ∧ Below w.heap.size w w'
theorem Gives.form {w w' : World} {xs : List Int} {e : Ending} {n : Nat} (hn : Hid (xs.length = n)) (h : Gives w xs e w') : GivesF w xs n e w' := by
  obtain ⟨V, h1, h2, h3⟩ := h
  obtain ⟨A, c, rfl, hc, _, hr, _⟩ := Own.form h2
  rw [hn.out] at h1 h2 hc
  exact ⟨A, c, h1, hc, h2, hr, h3⟩

theorem put_form (A : Option Addr) (c : Nat) (xs : List Int) (v : Int) (w : World) (h : Rd w A xs) (hl : xs.length ≤ 140737488351232) (hv0 : 0 ≤ v) (hv1 : v < 18446744073709551616) (hc : xs.length ≤ c) {n : Nat} (hn : Hid ((xs ++ vint v).length = n)) :
    Calls Try.prog 15 #[.slice A xs.length c, .int .u64 v] w (GivesF w (xs ++ vint v) n) := (put_any A c xs v w h hl hv0 hv1 hc).mono fun _ _ => Gives.form hn
theorem refPut_form (A : Option Addr) (c : Nat) (xs : List Int) (v : Int) (w : World) (h : Rd w A xs) (hl : xs.length ≤ 140737488351232) (hv0 : 0 ≤ v) (hv1 : v < 18446744073709551616) {n : Nat} (hn : Hid ((xs ++ vint v).length = n)) :
    Calls Try.prog 16 #[.slice A xs.length c, .int .u64 v] w (GivesF w (xs ++ vint v) n) := (refPut_any A c xs v w h hl hv0 hv1).mono fun _ _ => Gives.form hn

theorem equal_is (A B : Option Addr) (n m c d : Nat) (xs ys : List Int) (w : World) (h1 : Rd w A xs) (h2 : Rd w B ys) (hx : Byt xs) (hy : Byt ys) (hn : Hid (xs.length = n)) (hm : Hid (ys.length = m)) {r : Bool} (hr : Hid (decide (xs = ys) = r)) :
    Calls Try.prog 18 #[.slice A n c, .slice B m d] w fun e w' => e = .returned (.bool r) ∧ w = w' := by
  have hn' := hn.out
  have hm' := hm.out
  subst hn'
  subst hm'
  rw [← hr.out]
  exact equal_any A B c d xs ys w h1 h2 hx hy
theorem eq_self (xs : List Int) : Hid (decide (xs = xs) = true) := decide_eq_true rfl

theorem uint_own (base : Nat) (V : Value) (xs : List Int) (w : World) (ho : OwnB w base V xs) (hb : Byt xs) (hm : xs.length ≤ maxLen) {v n e : Int} (hu : Hid (uintS xs = (v, n, e))) :
    Calls Try.prog 19 #[V] w fun f w' => f = .returned (.tuple #[.int .u64 v, .int .i64 n, .int .i64 e]) ∧ w = w' := by
  obtain ⟨A, c, rfl, _, _, hr, _⟩ := Own.form ho
  exact uint_is A c xs w hr hb hm hu
theorem text_own (base : Nat) (V : Value) (xs : List Int) (w : World) (ho : OwnB w base V xs) (hb : Byt xs) (hm : xs.length ≤ maxLen) {s : ByteArray} {n e : Int} (hu : Hid (∃ t, textS xs = (t, n, e) ∧ strOfNums t = s)) :
    Calls Try.prog 23 #[V] w fun f w' => f = .returned (.tuple #[.string s, .int .i64 n, .int .i64 e]) ∧ w = w' := by
  obtain ⟨A, c, rfl, hc, _, hr, _⟩ := Own.form ho
  obtain ⟨t, ht, hs⟩ := hu.out
  exact (text_any A c xs w hr hb hm hc).mono fun _ _ ⟨h1, h2⟩ => ⟨by rw [h1, ht, hs], h2⟩
/-- What Unframe gives, its form written out. -/
def UnframesF (w : World) (p : List Int) (m : Nat) (n e : Int) (f : Ending) (w' : World) : Prop :=
  ∃ A c, f = .returned (.tuple #[.slice A m c, .int .i64 n, .int .i64 e]) ∧ Rd w' A p ∧ Below w.heap.size w w'
theorem Unframes.form {w w' : World} {p : List Int} {n e : Int} {f : Ending} {m : Nat} (hm : Hid (p.length = m)) (h : Unframes w (p, n, e) f w') : UnframesF w p m n e f w' := by
  obtain ⟨V, h1, h2, h3⟩ := h
  obtain ⟨A, c, rfl, _, _, hr, _⟩ := Own.form h2
  rw [show (p, n, e).1.length = m from hm.out] at h1
  exact ⟨A, c, h1, hr, h3⟩
theorem unframe_is (A : Option Addr) (c : Nat) (xs : List Int) (w : World) (h : Rd w A xs) (hb : Byt xs) (hm : xs.length ≤ maxLen) (hc : xs.length ≤ c) {p : List Int} {n e : Int} {m : Nat} (hu : Hid (unframeS xs = (p, n, e))) (hp : Hid (p.length = m)) :
    Calls Try.prog 29 #[.slice A xs.length c] w (UnframesF w p m n e) := (unframe_any A c xs w h hb hm hc).mono fun _ _ h => Unframes.form hp (by rw [hu.out] at h; exact h)
theorem refUnframe_is (A : Option Addr) (c : Nat) (xs : List Int) (w : World) (h : Rd w A xs) (hb : Byt xs) (hm : xs.length ≤ maxLen) (hc : xs.length ≤ c) {p : List Int} {n e : Int} {m : Nat} (hu : Hid (unframeS xs = (p, n, e))) (hp : Hid (p.length = m)) :
    Calls Try.prog 30 #[.slice A xs.length c] w (UnframesF w p m n e) := (refUnframe_any A c xs w h hb hm hc).mono fun _ _ h => Unframes.form hp (by rw [hu.out] at h; exact h)
theorem unframe_len (A : Option Addr) (l c : Nat) (xs : List Int) (w : World) (h : Rd w A xs) (hb : Byt xs) (hl : Hid (xs.length = l)) (hm : l ≤ maxLen) (hc : l ≤ c) {p : List Int} {n e : Int} {m : Nat} (hu : Hid (unframeS xs = (p, n, e))) (hp : Hid (p.length = m)) :
    Calls Try.prog 29 #[.slice A l c] w (UnframesF w p m n e) := by
  have hl' := hl.out
  subst hl'
  exact unframe_is A c xs w h hb hm hc hu hp
theorem unframe_own (base : Nat) (V : Value) (xs : List Int) (w : World) (ho : OwnB w base V xs) (hb : Byt xs) (hm : xs.length ≤ maxLen) {p : List Int} {n e : Int} {m : Nat} (hu : Hid (unframeS xs = (p, n, e))) (hp : Hid (p.length = m)) :
    Calls Try.prog 29 #[V] w (UnframesF w p m n e) := by
  obtain ⟨A, c, rfl, hc, _, hr, _⟩ := Own.form ho
  exact unframe_is A c xs w hr hb hm hc hu hp
theorem refFrame_form (A : Option Addr) (c : Nat) (xs : List Int) (w : World) (h : Rd w A xs) (hb : Byt xs) (hl : xs.length ≤ 4096) {n : Nat} (hn : Hid ((frameB xs).length = n)) :
    Calls Try.prog 28 #[.slice A xs.length c] w fun e w' => ∃ A' c', e = .returned (.tuple #[.slice A' n c', .int .i64 0]) ∧ OwnB w' w.heap.size (.slice A' n c') (frameB xs) ∧ Below w.heap.size w w' :=
  (refFrame_yes A c xs w h hb hl).mono fun _ _ ⟨V, h1, h2, h3⟩ => by
    obtain ⟨A', c', rfl, _⟩ := Own.form h2
    rw [hn.out] at h1 h2
    exact ⟨A', c', h1, h2, h3⟩
theorem Own.rd {w : World} {base : Nat} {A : Option Addr} {n c : Nat} {xs : List Int} (h : OwnB w base (.slice A n c) xs) : Rd w A xs := by
  obtain ⟨A', c', hv, _, _, hr, _⟩ := Own.form h
  injection hv with h1 h2 h3
  subst h1
  exact hr
theorem Own.fit {w : World} {base : Nat} {A : Option Addr} {n c : Nat} {xs : List Int} (h : OwnB w base (.slice A n c) xs) : xs.length = n ∧ n ≤ c ∧ c ≤ maxLen := by
  obtain ⟨A', c', hv, h1, h2, _⟩ := Own.form h
  injection hv with _ h3 h4
  omega

theorem frameB_byt {xs : List Int} (hb : Byt xs) (hl : xs.length ≤ 4096) : Byt (frameB xs) := ((vint_byt (by omega) (by omega)).append hb).append (be4_byt _)
theorem frameB_length (xs : List Int) : (frameB xs).length = (vint (xs.length : Int)).length + xs.length + 4 := by simp [frameB, be4]; omega
theorem rd4_be4 {s : Nat} (h : s < 4294967296) (r : List Int) : rd4 (be4 s ++ r) = s := by
  simp [rd4, be4]
  omega
/-- A frame is read back, whatever follows it. -/
theorem unframeS_frame {xs : List Int} (hb : Byt xs) (hl : xs.length ≤ 4096) (tail : List Int) : unframeS (frameB xs ++ tail) = (xs, ((frameB xs).length : Int), 0) := by
  have h := uintS_put (xs.length : Int) (xs ++ be4 (crc xs) ++ tail) (by omega) (by omega)
  have e : frameB xs ++ tail = vint (xs.length : Int) ++ (xs ++ be4 (crc xs) ++ tail) := by simp [frameB, List.append_assoc]
  have hd : (vint (xs.length : Int) ++ (xs ++ be4 (crc xs) ++ tail)).drop ((vint (xs.length : Int)).length + xs.length) = be4 (crc xs) ++ tail := by
    rw [List.drop_append, List.drop_eq_nil_of_le (by omega), show (vint (xs.length : Int)).length + xs.length - (vint (xs.length : Int)).length = xs.length by omega, List.append_assoc, List.drop_left]
    rfl
  have hp : ((vint (xs.length : Int) ++ (xs ++ be4 (crc xs) ++ tail)).drop (vint (xs.length : Int)).length).take xs.length = xs := by
    rw [List.drop_left, List.append_assoc, List.take_left]
  have hlen : (vint (xs.length : Int) ++ (xs ++ be4 (crc xs) ++ tail)).length = (vint (xs.length : Int)).length + xs.length + 4 + tail.length := by simp [be4]; omega
  unfold unframeS
  rw [e, h]
  simp only
  rw [if_neg (by simp), if_neg (by omega), if_neg (by rw [hlen]; push_cast; omega), show (((vint (xs.length : Int)).length : Int) + (xs.length : Int)).toNat = (vint (xs.length : Int)).length + xs.length by omega, hd,
    rd4_be4 (crc_lt hb)]
  simp only [Int.toNat_natCast]
  rw [hp, if_pos rfl, frameB_length]
  push_cast
  rfl
/-- A proper beginning of a frame is too short. -/
theorem unframeS_prefix {xs : List Int} (hl : xs.length ≤ 4096) {j : Nat} (hj : j < (frameB xs).length) : unframeS ((frameB xs).take j) = ([], 0, 5) := by
  have e : frameB xs = vint (xs.length : Int) ++ (xs ++ be4 (crc xs)) := by simp [frameB, List.append_assoc]
  rcases Nat.lt_or_ge j (vint (xs.length : Int)).length with h | h
  · have ht : (frameB xs).take j = (vint (xs.length : Int)).take j := by rw [e, List.take_append_of_le_length (by omega)]
    have hu : uintS ((frameB xs).take j) = (0, 0, 5) := by rw [ht]; exact uintN_prefix 9 0 0 (xs.length : Int) j rfl h
    unfold unframeS
    rw [hu]
    rfl
  · have ht : (frameB xs).take j = vint (xs.length : Int) ++ (xs ++ be4 (crc xs)).take (j - (vint (xs.length : Int)).length) := by rw [e, List.take_append, List.take_of_length_le (by omega)]
    have hu := uintS_put (xs.length : Int) ((xs ++ be4 (crc xs)).take (j - (vint (xs.length : Int)).length)) (by omega) (by omega)
    rw [← ht] at hu
    have hlen : ((frameB xs).take j).length = j := by rw [List.length_take]; omega
    rw [frameB_length] at hj
    unfold unframeS
    rw [hu]
    simp only
    rw [if_neg (by simp), if_neg (by omega), if_pos (by rw [hlen]; omega)]
end Go.Proofs.Ytodoiobhphahcaa
