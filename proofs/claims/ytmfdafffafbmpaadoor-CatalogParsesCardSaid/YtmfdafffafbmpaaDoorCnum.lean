/- The reference's Number. -/
import Derived.Test.YtmfdafffafbmpaaDoorCstr
namespace Go.Proofs.YtmfdafffafbmpaaDoor
set_option linter.unusedVariables false
open Go.RowKit

/-- What Number answers. -/
def NumIs (l : List UInt8) (n : Int) (r : Bool) : Prop := (numO l = none ∧ n = 0 ∧ r = false) ∨ ∃ v : Nat, numO l = some v ∧ n = v ∧ r = true
def NumV (n : Int) (r : Bool) : Value := .tuple #[.int .i64 n, .bool r]
def Nums (l : List UInt8) (w : World) (e : Ending) (w' : World) : Prop := ∃ n r, e = .returned (NumV n r) ∧ NumIs l n r ∧ Below w.heap.size w w'

theorem ba_ex (s : ByteArray) (k : Nat) (h : k < s.size) : ∃ (b : UInt8) (c : Int), Hid (s.data.toList[k]? = some b ∧ c = b.toNat) ∧ ((s[k]'h).toNat : Int) = c := by
  have hb : s.data.toList[k]? = some s[k] := by
    rw [List.getElem?_eq_getElem (by simpa using h)]
    rfl
  exact ⟨s[k], _, ⟨hb, rfl⟩, rfl⟩
theorem drop_at {l : List UInt8} {k : Nat} {b : UInt8} (h : l[k]? = some b) : l.drop k = b :: l.drop (k + 1) := by
  obtain ⟨hk, h⟩ := List.getElem?_eq_some_iff.1 h
  rw [List.drop_eq_getElem_cons hk, h]

set_option maxHeartbeats 1000000 in
set_option maxRecDepth 8000 in
theorem number_any (s : ByteArray) (w : World) : Calls Tryd.prog 54 #[.string s] w (Nums s.data.toList w) := by
  have hlen : s.data.toList.length = s.size := by simp
  by_cases hA : (s.size : Int) < 1
  · have hno : Hid (NumIs s.data.toList 0 false) := .inl ⟨by rw [numO, if_pos (by omega)], rfl, rfl⟩
    clear hlen
    go_enter Tryd.func54, Tryd.ntmps54
    go_wp2
    exact bodyPost_ret (v := NumV 0 false) (by simp [NumV, results, Tryd.results54, go_sem]) rfl ⟨0, false, rfl, hno.out, Below.refl _ _⟩
  · by_cases hB : 4 < (s.size : Int)
    · have hno : Hid (NumIs s.data.toList 0 false) := .inl ⟨by rw [numO, if_pos (by omega)], rfl, rfl⟩
      clear hlen
      go_enter Tryd.func54, Tryd.ntmps54
      go_wp2
      exact bodyPost_ret (v := NumV 0 false) (by simp [NumV, results, Tryd.results54, go_sem]) rfl ⟨0, false, rfl, hno.out, Below.refl _ _⟩
    · obtain ⟨b0, c0, hb0, ix⟩ := ba_ex s 0 (by omega)
      by_cases hC : 1 < (s.size : Int) ∧ c0 = 48
      · have hno : Hid (NumIs s.data.toList 0 false) := .inl ⟨by
          rw [numO, if_pos]
          refine .inr (.inr ⟨by omega, ?_⟩)
          rw [List.head?_eq_getElem?, hb0.out.1]
          congr 1
          apply UInt8.toNat_inj.1
          have := hb0.out.2
          have h48 : (48 : UInt8).toNat = 48 := rfl
          omega, rfl, rfl⟩
        obtain ⟨hC, rfl⟩ := hC
        clear hlen
        go_enter Tryd.func54, Tryd.ntmps54
        go_wp2
        exact bodyPost_ret (v := NumV 0 false) (by simp [NumV, results, Tryd.results54, go_sem]) rfl ⟨0, false, rfl, hno.out, Below.refl _ _⟩
      · have hyes : Hid (numO s.data.toList = digs 0 s.data.toList) := by
          show _ = _
          rw [numO, if_neg]
          rintro (h | h | ⟨h1, h2⟩)
          · omega
          · omega
          · apply hC
            rw [List.head?_eq_getElem?, hb0.out.1] at h2
            injection h2 with h2
            refine ⟨by omega, ?_⟩
            rw [hb0.out.2, h2]
            rfl
        have HS : Hid (s.size ≤ 4) := by show _ ≤ _; omega
        have hC2 : ¬ 1 < (s.size : Int) ∨ (1 < (s.size : Int) ∧ ¬ c0 = 48) := by
          by_cases h1 : 1 < (s.size : Int)
          · exact .inr ⟨h1, fun h => hC ⟨h1, h⟩⟩
          · exact .inl h1
        clear hC hb0
        have HL := Lib.hid hlen
        clear hlen
        rcases hC2 with h1 | ⟨h1, h2⟩
        all_goals
          go_enter Tryd.func54, Tryd.ntmps54
          go_wp2
          go_loopw [4, 5] (fun n i wr => ∃ (k acc : Nat), k ≤ s.size ∧ i = .int .i64 k ∧ n = .int .i64 acc ∧ Hid (acc < 10 ^ k) ∧ Hid (digs 0 s.data.toList = digs acc (s.data.toList.drop k)) ∧ Hid (Below w.heap.size w wr)) (fun _ i _ => s.size - (intOf i).toNat)
          case atStart => exact ⟨0, 0, by omega, rfl, rfl, by show _ < _; simp, rfl, Below.refl _ _⟩
          case round =>
            obtain ⟨k, acc, hk, rfl, rfl, hacc, hdg, hbl⟩ := hrel
            have hacc4 : acc < 10000 := by
              have := HS.out
              exact Nat.lt_of_lt_of_le hacc.out (Nat.le_trans (Nat.pow_le_pow_right (by omega) (by omega : k ≤ 4)) (by omega))
            by_cases hlt : (k : Int) < (s.size : Int)
            · obtain ⟨b, c, hb, jx⟩ := ba_ex s k (by omega)
              clear ix
              have hc0 : 0 ≤ c ∧ c < 256 := by
                have := hb.out.2
                have := b.toNat_lt
                omega
              have hst := Lib.hid (drop_at hb.out.1)
              by_cases hd1 : c < 48
              · have hno : Hid (NumIs s.data.toList 0 false) := .inl ⟨by rw [hyes.out, hdg.out, hst.out, digs, if_neg (by have := hb.out.2; omega)], rfl, rfl⟩
                go_wp2
                exact bodyPost_ret (v := NumV 0 false) (by simp [NumV, results, Tryd.results54, go_sem]) rfl ⟨0, false, rfl, hno.out, hbl.out⟩
              · by_cases hd2 : 57 < c
                · have hno : Hid (NumIs s.data.toList 0 false) := .inl ⟨by rw [hyes.out, hdg.out, hst.out, digs, if_neg (by have := hb.out.2; omega)], rfl, rfl⟩
                  go_wp2
                  exact bodyPost_ret (v := NumV 0 false) (by simp [NumV, results, Tryd.results54, go_sem]) rfl ⟨0, false, rfl, hno.out, hbl.out⟩
                · have e1 : IntKind.i64.wrap (10 * (acc : Int)) = 10 * (acc : Int) := by rw [IntKind.wrap_i64]; omega
                  have e2 : IntKind.u8.wrap (c - 48) = c - 48 := by rw [IntKind.wrap_u8]; omega
                  have e3 : IntKind.i64.wrap (c - 48) = c - 48 := by rw [IntKind.wrap_i64]; omega
                  have e4 : IntKind.i64.wrap (10 * (acc : Int) + (c - 48)) = 10 * (acc : Int) + (c - 48) := by rw [IntKind.wrap_i64]; omega
                  have e5 : IntKind.i64.wrap ((k : Int) + 1) = (k : Int) + 1 := by have := HS.out; rw [IntKind.wrap_i64]; omega
                  have hdg2 : Hid (digs 0 s.data.toList = digs (10 * acc + (c - 48).toNat) (s.data.toList.drop (k + 1))) := by
                    show _ = _
                    rw [hdg.out, hst.out, digs, if_pos (by have := hb.out.2; omega), show b.toNat - 48 = (c - 48).toNat by have := hb.out.2; omega]
                  have hacc2 : Hid (10 * acc + (c - 48).toNat < 10 ^ (k + 1)) := by
                    have := hacc.out
                    show _ < _
                    rw [Nat.pow_succ]
                    omega
                  go_wp2
                  go_roundw
                  case rel => exact ⟨k + 1, 10 * acc + (c - 48).toNat, by omega, by go_num, by rw [show (((10 * acc + (c - 48).toNat : Nat)) : Int) = 10 * (acc : Int) + (c - 48) by omega], hacc2, hdg2, hbl⟩
                  case measure => simp [intOf]; omega
            · have hyes2 : Hid (NumIs s.data.toList acc true) := .inr ⟨acc, by
                rw [hyes.out, hdg.out, List.drop_eq_nil_of_le (by have := HL.out; omega), digs], rfl, rfl⟩
              go_wp2
              exact bodyPost_ret (v := NumV acc true) (by simp [NumV, results, Tryd.results54, go_sem]) rfl ⟨_, true, rfl, hyes2.out, hbl.out⟩
end Go.Proofs.YtmfdafffafbmpaaDoor
