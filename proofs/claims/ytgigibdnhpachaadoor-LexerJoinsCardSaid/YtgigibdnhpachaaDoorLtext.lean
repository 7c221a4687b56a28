/- Contract: text. -/
import Derived.Test.YtgigibdnhpachaaDoorLawake
import Derived.Test.YtgigibdnhpachaaDoorLjn
import Derived.Test.YtgigibdnhpachaaDoorLref
namespace Go.Proofs.YtgigibdnhpachaaDoor
open Go.RowKit
open Go.Sort (grow)
set_option linter.unusedVariables false
set_option linter.unusedSimpArgs false

set_option maxHeartbeats 2000000 in
set_option maxRecDepth 8000 in
theorem text_is (s : ByteArray) (A : Option Addr) (m c : Nat) (l : List T4) (i : Nat) (w : World) (hl : InT w A m c l) (hi : i + 1 < m) (hs : s.size ≤ 1024) {a b : Nat} (ha : Hid ((l.getD i default).2.2.2 = (a : Int))) (hb : Hid ((l.getD (i + 1) default).2.2.2 = (b : Int))) (hab : a < b) (hbs : b ≤ s.size)
    (hE : Hid (a < trimE s a b)) {T : ByteArray} (hT : Hid (mkB (src s a b) = T)) :
    Calls Tryd.prog 15 #[.string s, .slice A m c, .int .i64 i] w fun e w' => e = .returned (.string T) ∧ Below w.heap.size w w' := by
  have hbig := hl.big
  obtain ⟨g, o, k1, s1, u1, h1, rfl, hg, hxx, c1, c2, c3, c4⟩ := hl.rd.at_ (i := i) (by have := hl.len; omega)
  obtain ⟨g', o', k2, s2, u2, h2, hA, hg', hyy, d1, d2, d3, d4⟩ := hl.rd.at_ (i := i + 1) (by have := hl.len; omega)
  obtain ⟨rfl, rfl⟩ : g = g' ∧ o = o' := by simpa using hA
  obtain rfl : h1 = (a : Int) := by have := ha.out; rw [hxx.out] at this; exact this
  obtain rfl : h2 = (b : Int) := by have := hb.out; rw [hyy.out] at this; exact this
  have e5 : IntKind.i64.wrap ((i : Int) + 1) = (i : Int) + 1 := by rw [IntKind.wrap_i64]; omega
  clear hA hl c1 c2 c3 d1 d2 d3
  go_enter Tryd.func15, Tryd.ntmps15
  go_wp2
  clear e5
  go_loopw [7] (fun z wr => ∃ (e : Nat), z = .int .i64 e ∧ a < e ∧ e ≤ b ∧ Hid (trimE s a e = trimE s a b) ∧ Hid (Below w.heap.size w wr)) (fun z _ => (intOf z).toNat)
  case atStart => exact ⟨b, rfl, hab, Nat.le_refl _, rfl, Below.refl _ _⟩
  case round =>
    obtain ⟨e, rfl, hae, heb, htr, hB⟩ := hrel
    obtain ⟨n, hn⟩ : ∃ n, Hid (e = n + 1) := ⟨e - 1, by show _ = _; omega⟩
    have e6 : IntKind.i64.wrap ((e : Int) - 1) = (n : Int) := by have := hn.out; rw [IntKind.wrap_i64]; omega
    have hns : n < s.size := by have := hn.out; omega
    have jn := byt_at s n hns
    have c4' := (hB.out.cell (p := ⟨g, o + i * 4 + 3, none⟩) hg).trans c4
    have f1 : decide ((a : Int) < (e : Int)) = true := decide_eq_true (by omega)
    have f2 : decide (a < e) = true := decide_eq_true hae
    obtain ⟨v, hv⟩ : ∃ v, Hid (spc (byt s n) = v) := ⟨_, rfl⟩
    cases v with
    | true =>
      have htr2 : Hid (trimE s a n = trimE s a b) := by
        have := htr.out
        rw [hn.out, trimE, if_pos ⟨by have := hn.out; omega, hv.out⟩] at this
        exact this
      have hle := trimE_le s a n
      have han : a < n := by have := htr2.out; have := hE.out; omega
      go_wp2_with (first | (go_at_call 14; refine (refSpc_is _ _ hv).mono ?_; rintro e W1 ⟨rfl, rfl⟩))
      go_roundw
      case rel => exact ⟨n, rfl, han, by have := hn.out; omega, htr2, hB⟩
      case measure => have := hn.out; simp only [intOf, Int.toNat_natCast]; clear e6; omega
    | false =>
      have hfin : Hid (trimE s a b = e) := by
        have := htr.out
        rw [hn.out, trimE, if_neg (by rw [hv.out]; simp)] at this
        show _ = _
        rw [← this, hn.out]
      have hsl := hsl_is s (Nat.le_of_lt hae) (by omega) (show Hid (cutB s a e = T) by show _ = _; rw [← hT.out]; unfold src cutB; rw [hfin.out])
      go_wp2_with (first | (go_at_call 14; refine (refSpc_is _ _ hv).mono ?_; rintro e W1 ⟨rfl, rfl⟩))
      go_ret
      exact ⟨rfl, hB.out⟩
end Go.Proofs.YtgigibdnhpachaaDoor
