/- Contracts: sort.Search over the closure that place hands it; place. -/
import Derived.Test.YtmfdafffafbmpaaDoorCfind
import Derived.RegionTactic
namespace Go.Proofs.YtmfdafffafbmpaaDoor
open Go.RowKit
open Go.Sort (grow)
set_option linter.unusedVariables false
set_option linter.unusedSimpArgs false

set_option maxHeartbeats 2000000 in
theorem closure_is (ba bx : Nat) (A : Option Addr) (n c : Nat) (l : List P4) (nm : ByteArray) (i : Nat) (W : World) (hn : Hid (l.length = n)) (hi : i < n) (hA : W.cell? ⟨ba, 0, none⟩ = some (.slice A n c)) (hx : W.cell? ⟨bx, 0, none⟩ = some (.string nm)) (hl : RRd W A l) {b : Bool} (hb : Hid (ltS (l.getD i default).1 nm = b)) :
    Calls Tryd.prog 57 #[.int .i64 i, .pointer (some ⟨ba, 0, none⟩), .pointer (some ⟨bx, 0, none⟩)] W fun e w' => e = .returned (.bool !b) ∧ Below W.heap.size W w' := by
  obtain ⟨g, o, s, k, u, h, rfl, hg, hxx, c1, c2, c3, c4⟩ := hl.at_ (i := i) (by have := hn.out; omega)
  have hz : (i : Int) < (n : Int) := by omega
  have hq : Op.bytesLess s.toList nm.toList = b := by have := hb.out; rw [hxx.out] at this; exact this
  clear hl c2 c3 c4
  go_enter Tryd.func57, Tryd.ntmps57
  go_wp2
  go_region
  all_goals go_wp2
  all_goals go_ret
  all_goals exact ⟨rfl, bdD (Below.refl _ _)⟩
set_option maxHeartbeats 2000000 in
set_option maxRecDepth 8000 in
theorem search_is (ba bx n p : Nat) (f : Nat → Bool) (w : World) (h8 : n ≤ 8) (hp : Hid (p ≤ n)) (h1 : Hid (∀ i, i < p → f i = true)) (h2 : Hid (∀ i, p ≤ i → i < n → f i = false))
    (HF : Hid (∀ W i b, Below w.heap.size w W → i < n → Hid (f i = b) → Calls Tryd.prog 57 #[.int .i64 i, .pointer (some ⟨ba, 0, none⟩), .pointer (some ⟨bx, 0, none⟩)] W fun e w' => e = .returned (.bool !b) ∧ Below W.heap.size W w')) :
    Calls Tryd.prog 56 #[.int .i64 n, .func (.func 57) #[] #[.pointer (some ⟨ba, 0, none⟩), .pointer (some ⟨bx, 0, none⟩)]] w fun e w' => e = .returned (.int .i64 p) ∧ Below w.heap.size w w' := by
  have eg : ∀ args w, (callFunc 57 args).run Tryd.prog w = .ok (.enter 57 args) w := enters_of Tryd.func57 (by kernel_rfl) rfl
  go_enter Tryd.func56, Tryd.ntmps56
  go_wp2
  go_loopw [5, 6, 7] (fun lo hi q wr => ∃ (a b : Nat), lo = .int .i64 a ∧ hi = .int .i64 b ∧ a ≤ b ∧ b ≤ n ∧ Hid (a ≤ p ∧ p ≤ b) ∧ Hid (Below w.heap.size w wr)) (fun lo hi _ _ => (intOf hi - intOf lo).toNat)
  case atStart => exact ⟨0, n, rfl, rfl, by omega, by omega, ⟨by omega, hp.out⟩, Below.refl _ _⟩
  case round =>
    obtain ⟨a, b, rfl, rfl, hab, hbn, hpp, hB⟩ := hrel
    by_cases hlt : (a : Int) < (b : Int)
    · obtain ⟨m, hm⟩ : ∃ m : Nat, Hid (m = (a + b) / 2) := ⟨_, rfl⟩
      have e1 : IntKind.i64.wrap ((a : Int) + (b : Int)) = (a : Int) + (b : Int) := by rw [IntKind.wrap_i64]; omega
      have e2 : IntKind.u64.wrap ((a : Int) + (b : Int)) = (a : Int) + (b : Int) := by rw [IntKind.wrap_u64]; omega
      have e3 : ((a : Int) + (b : Int)) / 2 = (m : Int) := by have := hm.out; omega
      have hm2 : a ≤ m ∧ m < b := by have := hm.out; omega
      have e4 : IntKind.u64.wrap (m : Int) = (m : Int) := by rw [IntKind.wrap_u64]; omega
      have e5 : IntKind.i64.wrap (m : Int) = (m : Int) := by rw [IntKind.wrap_i64]; omega
      have e6 : IntKind.i64.wrap ((m : Int) + 1) = (m : Int) + 1 := by rw [IntKind.wrap_i64]; omega
      obtain ⟨v, hv⟩ : ∃ v, Hid (f m = v) := ⟨_, rfl⟩
      have HC := Lib.hid (HF.out wr m v hB.out (by omega) hv)
      cases v with
      | true =>
        have hnx : Hid (m + 1 ≤ p ∧ p ≤ b) := ⟨(by
          rcases Nat.lt_or_ge m p with h | h
          · exact h
          · have := h2.out m h (by omega)
            rw [hv.out] at this
            cases this), hpp.out.2⟩
        go_wp2_with (first | (go_at_fn 57; refine HC.out.mono ?_; rintro e W1 ⟨rfl, hb1⟩; have HB1 := Lib.hid (nx hB.out hb1); clear hb1))
        go_roundw
        case rel => exact ⟨m + 1, b, by go_num, rfl, by omega, hbn, hnx, HB1⟩
        case measure => simp [intOf]; omega
      | false =>
        have hnx : Hid (a ≤ p ∧ p ≤ m) := ⟨hpp.out.1, (by
          rcases Nat.lt_or_ge m p with h | h
          · have := h1.out m h
            rw [hv.out] at this
            cases this
          · exact h)⟩
        go_wp2_with (first | (go_at_fn 57; refine HC.out.mono ?_; rintro e W1 ⟨rfl, hb1⟩; have HB1 := Lib.hid (nx hB.out hb1); clear hb1))
        go_roundw
        case rel => exact ⟨a, m, rfl, rfl, by omega, by omega, hnx, HB1⟩
        case measure => simp [intOf]; omega
    · have hend : Hid (a = p) := by have := hpp.out; show _ = _; omega
      go_wp2
      go_ret
      exact ⟨by rw [hend.out]; rfl, hB.out⟩

/-- The boxes that place makes. -/
abbrev TP (w : World) (V : Value) (nm : ByteArray) : World := (w.alloc (.cells #[V] 24)).alloc (.cells #[.string nm] 9)
theorem at4_iff {l : List P4} {nm : ByteArray} {p : Nat} (hp : Plc l nm p) (ha : Asc l) (hlt : p < l.length) : (∃ i, At4 l nm i) ↔ (l.getD p default).1 = nm := by
  constructor
  · rintro ⟨i, hi⟩
    obtain rfl := hp.at_ ha hi
    exact hi.2.1
  · exact fun h => ⟨p, hlt, h, fun k hk => ltS_ne (hp.2.1 k hk)⟩
set_option maxHeartbeats 4000000 in
set_option maxRecDepth 8000 in
theorem place_is (A : Option Addr) (n c : Nat) (l : List P4) (nm : ByteArray) (w : World) (hl : InR w A n c l) (h8 : n ≤ 8) (ha : Hid (Asc l)) {p : Nat} (hp : Hid (Plc l nm p)) {b : Bool} (hb : Hid ((∃ i, At4 l nm i) ↔ b = true)) :
    Calls Tryd.prog 43 #[.slice A n c, .string nm] w fun e w' => e = .returned (.tuple #[.int .i64 p, .bool b]) ∧ Below w.heap.size w w' := by
  have hn : Hid (l.length = n) := hl.len
  have HR := Lib.hid hl.rd
  have hpn : p ≤ n := by have := hp.out.1; have := hn.out; omega
  have mixed : Tryd.prog.follows .mixedOrders = true := by kernel_rfl
  clear hl
  have hT := Lib.hid (new2 w (.cells #[.slice A n c] 24) (.cells #[.string nm] 9))
  have HF : Hid (∀ W i b, Below (TP w (.slice A n c) nm).heap.size (TP w (.slice A n c) nm) W → i < n → Hid (ltS (l.getD i default).1 nm = b) →
      Calls Tryd.prog 57 #[.int .i64 i, .pointer (some ⟨w.heap.size, 0, none⟩), .pointer (some ⟨w.heap.size + 1, 0, none⟩)] W fun e w' => e = .returned (.bool !b) ∧ Below W.heap.size W w') := fun W i b hW hi hbb =>
    closure_is _ _ A n c l nm i W hn hi ((hW.cell (p := ⟨w.heap.size, 0, none⟩) (by simp [TP]; omega)).trans (by simp [TP, go_sem])) ((hW.cell (p := ⟨w.heap.size + 1, 0, none⟩) (by simp [TP])).trans (by simp [TP])) (HR.out.below (nx hT.out hW)) hbb
  have HS := Lib.hid (search_is w.heap.size (w.heap.size + 1) n p (fun i => ltS (l.getD i default).1 nm) (TP w (.slice A n c) nm) h8 hpn hp.out.2.1 (fun i h1 h2 => hp.out.2.2 i h1 (by have := hn.out; omega)) HF)
  have eg : ∀ args w, (callFunc 56 args).run Tryd.prog w = .ok (.enter 56 args) w := enters_of Tryd.func56 (by kernel_rfl) rfl
  have HB : Hid (∀ W, Below (TP w (.slice A n c) nm).heap.size (TP w (.slice A n c) nm) W → W.cell? ⟨w.heap.size, 0, none⟩ = some (.slice A n c) ∧ W.cell? ⟨w.heap.size + 1, 0, none⟩ = some (.string nm) ∧ w.heap.size < W.heap.size ∧ w.heap.size + 1 < W.heap.size) := fun W hW =>
    ⟨(hW.cell (p := ⟨w.heap.size, 0, none⟩) (by simp [TP]; omega)).trans (by simp [TP, go_sem]), (hW.cell (p := ⟨w.heap.size + 1, 0, none⟩) (by simp [TP])).trans (by simp [TP]), by have := hW.size; simp [TP] at this; omega, by have := hW.size; simp [TP] at this; omega⟩
  clear HF
  by_cases hpl : p < n
  · obtain ⟨g, o, s, k, u, h, rfl, hg, hx, c1, c2, c3, c4⟩ := HR.out.at_ (i := p) (by have := hn.out; omega)
    have hq : (s.toList == nm.toList) = b := by
      have h1 := hb.out
      rw [at4_iff hp.out ha.out (by have := hn.out; omega), hx.out] at h1
      rw [Bool.eq_iff_iff, ← h1]
      exact eqS_iff
    have hpz : (p : Int) < (n : Int) := by omega
    have C1 := Lib.hid c1
    clear c1 c2 c3 c4 hb
    go_enter Tryd.func43, Tryd.ntmps43
    go_wp2_with (first | (go_at_call 56; (with_reducible refine HS.out.mono ?_); rintro e W1 ⟨rfl, hb1⟩; have HB1 := Lib.hid hb1; clear hb1; obtain ⟨q1, q2, q3, q4⟩ := HB.out W1 HB1.out; have q5 := (nx hT.out HB1.out).cell (p := ⟨g, o + p * 4, none⟩) hg; have q6 : g < W1.heap.size := Nat.lt_of_lt_of_le hg (nx hT.out HB1.out).size; rw [C1.out] at q5; have l1 : ∀ n os, (grow (W1.drewN n) os).cell? _ = _ := cell_grown q3 q1; have l2 : ∀ n os, (grow (W1.drewN n) os).cell? _ = _ := cell_grown q4 q2; have l3 : ∀ n os, (grow (W1.drewN n) os).cell? _ = _ := cell_grown q6 q5; clear q1 q2 q5))
    refine wp_region_quiet_grown mixed (by kernel_rfl) ?_
    repeat (go_big_quiet_step (first | fail))
    refine wpQuiet_nil ?_
    intro _ hw'
    obtain ⟨⟨nq, osq⟩, hw''⟩ := hw'
    subst hw''
    have hG := Lib.hid (Gro.below (⟨nq, osq, rfl⟩ : Gro W1 _))
    go_wp2
    exact bodyPost_ret (v := .tuple #[.int .i64 p, .bool b]) (by simp [results, Tryd.results43, go_sem]) rfl ⟨rfl, nx (nx hT.out HB1.out) hG.out⟩
  · obtain rfl : p = n := by omega
    have hend : Hid (b = false) := iff_no hb.out (fun ⟨i, hi⟩ => by have := hp.out.at_ ha.out hi; have := hi.1; have := hn.out; omega)
    have hb' := hend.out
    subst hb'
    clear hb
    go_enter Tryd.func43, Tryd.ntmps43
    go_wp2_with (first | (go_at_call 56; (with_reducible refine HS.out.mono ?_); rintro e W1 ⟨rfl, hb1⟩; have HB1 := Lib.hid hb1; clear hb1; obtain ⟨q1, q2, q3, q4⟩ := HB.out W1 HB1.out; have l1 : ∀ n os, (grow (W1.drewN n) os).cell? _ = _ := cell_grown q3 q1; have l2 : ∀ n os, (grow (W1.drewN n) os).cell? _ = _ := cell_grown q4 q2; clear q1 q2))
    refine wp_region_quiet_grown mixed (by kernel_rfl) ?_
    repeat (go_big_quiet_step (first | fail))
    refine wpQuiet_nil ?_
    intro _ hw'
    obtain ⟨⟨nq, osq⟩, hw''⟩ := hw'
    subst hw''
    have hG := Lib.hid (Gro.below (⟨nq, osq, rfl⟩ : Gro W1 _))
    go_wp2
    exact bodyPost_ret (v := .tuple #[.int .i64 p, .bool false]) (by simp [results, Tryd.results43, go_sem]) rfl ⟨rfl, nx (nx hT.out HB1.out) hG.out⟩
end Go.Proofs.YtmfdafffafbmpaaDoor
