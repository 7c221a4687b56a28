/- Contract: the reference's Tokens. -/
import Derived.Test.YtlokcmbkkfjlkaaGreatDoorLall
import Derived.Deep.CutBlock
import Derived.Deep.CutRange
namespace Go.Proofs.YtlokcmbkkfjlkaaGreatDoor
open Go.RowKit
open Go.Sort (grow)
set_option linter.unusedVariables false
set_option linter.unusedSimpArgs false

theorem TRd.one_at (w : World) (T : TypeId) (k : Int) (t : ByteArray) (n a : Int) {g : Nat} (hg : w.heap.size = g) : TRd (w.alloc (.cells #[.int .i64 k, .string t, .int .i64 n, .int .i64 a] T)) (some ⟨g, 0, none⟩) [(k, t, n, a)] := by
  subst hg
  exact TRd.one w T k t n a
theorem hsl_is (s : ByteArray) {i q : Nat} (h : i ≤ q) (hq : q ≤ s.size) {T : ByteArray} (hT : Hid (cutB s i q = T)) : ∀ W : World, (Instr.slice 9 (.string s) (some (.int .i64 (i : Int))) (some (.int .i64 (q : Int))) none).run Tryz.prog W = .ok (.string T) W := fun W => by
  have hz := run_slice_string (P := Tryz.prog) W 9 s .i64 .i64 (i : Int) (q : Int) Tryz.underlying9 (by omega) (by omega) (by omega)
  rw [hz, ← hT.out]
  simp only [Int.toNat_natCast]
  rw [cutB_ex h hq]
/-- The end of a run that is followed from i: where it stops. -/
theorem run_end {p : Int → Bool} {s : ByteArray} {i j : Nat} (h : i ≤ j) (hj : j ≤ s.size) (hall : ∀ q, i ≤ q → q < j → p (byt s q) = true) (hend : s.size ≤ j ∨ p (byt s j) = false) : i + tw p (s.data.toList.drop i) = j := by
  have h1 := tw_run (p := p) (s := s) (d := j - i) (i := i) (by omega) (fun q h1 h2 => hall q h1 (by omega))
  rw [show i + (j - i) = j by omega] at h1
  have h2 : tw p (s.data.toList.drop j) = 0 := by
    rcases Nat.lt_or_ge j s.size with hlt | hge
    · rcases hend with he | he
      · omega
      · exact tw_none hlt he
    · exact tw_end hge
  omega
theorem digs_snoc : ∀ {l : List UInt8} {acc v : Nat} {c : UInt8}, digs acc l = some v → 48 ≤ c.toNat → c.toNat ≤ 57 → digs acc (l ++ [c]) = some (10 * v + (c.toNat - 48))
  | [], acc, v, c, h, h1, h2 => by
    simp only [digs, Option.some.injEq] at h
    subst h
    rw [List.nil_append, digs, if_pos ⟨h1, h2⟩, digs]
  | d :: l, acc, v, c, h, h1, h2 => by
    obtain ⟨k, hk, rfl, h'⟩ := digs_cons h
    rw [List.cons_append, digs_step hk, digs_snoc h' h1 h2]
/-- The digits that count, of those from i to j. -/
def dgs (s : ByteArray) (i j : Nat) : List UInt8 := (s.data.toList.drop i).take (min (j - i) 4)
theorem dgs_zero (s : ByteArray) (i : Nat) : digs 0 (dgs s i i) = some 0 := by unfold dgs; simp [digs]
theorem dgs_more {s : ByteArray} {i j v : Nat} (h : i ≤ j) (hj : j < s.size) (h4 : j - i < 4) (hd : dig (byt s j) = true) (hv : digs 0 (dgs s i j) = some v) : digs 0 (dgs s i (j + 1)) = some (10 * v + ((byt s j).toNat - 48)) := by
  obtain ⟨c, hc, hb⟩ := byt_drop hj
  unfold dig at hd
  have hd := of_decide_eq_true hd
  unfold dgs at *
  rw [show min (j + 1 - i) 4 = (j - i) + 1 by omega]
  rw [show min (j - i) 4 = j - i by omega] at hv
  have hl : j - i < (s.data.toList.drop i).length := by
    rw [List.length_drop]
    have e : s.data.toList.length = s.size := by simp
    omega
  have e1 : (s.data.toList.drop i)[j - i] = c := by
    have h0 : (s.data.toList.drop j)[0]? = some c := by rw [hc]; rfl
    rw [List.getElem?_drop, Nat.add_zero] at h0
    have h1 : (s.data.toList.drop i)[j - i]? = some c := by rw [List.getElem?_drop, show i + (j - i) = j by omega]; exact h0
    rw [List.getElem?_eq_getElem hl] at h1
    exact Option.some.inj h1
  rw [List.take_succ_eq_append_getElem hl, e1, digs_snoc hv (by omega) (by omega)]
  congr 2
  omega
theorem dgs_same {s : ByteArray} {i j : Nat} (h4 : ¬ j - i < 4) : dgs s i (j + 1) = dgs s i j := by
  unfold dgs
  rw [show min (j + 1 - i) 4 = min (j - i) 4 by omega]
theorem dgs_lt {s : ByteArray} {i j v : Nat} (hv : digs 0 (dgs s i j) = some v) : v < 10000 := by
  have h1 := digs_lt hv
  have h2 : (dgs s i j).length ≤ 4 := by unfold dgs; rw [List.length_take]; omega
  have hp : 10 ^ (dgs s i j).length ≤ 10 ^ 4 := Nat.pow_le_pow_right (by omega) h2
  simp at h1
  omega
theorem head_byt {s : ByteArray} {i n : Nat} (h : i < s.size) (hn : 1 ≤ n) : ((s.data.toList.drop i).take n).head? = some 48 ↔ byt s i = 48 := by
  obtain ⟨c, hc, hb⟩ := byt_drop h
  obtain ⟨m, rfl⟩ : ∃ m, n = m + 1 := ⟨n - 1, by omega⟩
  rw [hc, List.take_succ_cons, List.head?_cons, ← hb]
  have h48 : (48 : UInt8).toNat = 48 := rfl
  constructor
  · intro e
    injection e with e
    rw [e]
    rfl
  · intro e
    congr 1
    apply UInt8.toNat_inj.1
    omega
theorem dig_yes {s : ByteArray} {i v : Nat} (h : i < s.size) (hd : dig (byt s i) = true) (hv : numO ((s.data.toList.drop i).take (tw dig (s.data.toList.drop i))) = some v) :
    tw dig (s.data.toList.drop i) ≤ 4 ∧ (1 < tw dig (s.data.toList.drop i) → byt s i ≠ 48) ∧ digs 0 ((s.data.toList.drop i).take (tw dig (s.data.toList.drop i))) = some v := by
  have h1 := tw_here h hd
  have hl := tw_take_len (p := dig) (s.data.toList.drop i)
  unfold numO at hv
  split at hv
  · cases hv
  · rename_i hn
    rw [hl, head_byt h (by omega)] at hn
    exact ⟨by omega, fun a b => hn (.inr (.inr ⟨a, b⟩)), hv⟩
theorem dig_no {s : ByteArray} {i : Nat} (h : i < s.size) (hd : dig (byt s i) = true) (hv : numO ((s.data.toList.drop i).take (tw dig (s.data.toList.drop i))) = none) :
    4 < tw dig (s.data.toList.drop i) ∨ (1 < tw dig (s.data.toList.drop i) ∧ byt s i = 48) := by
  have h1 := tw_here h hd
  have hl := tw_take_len (p := dig) (s.data.toList.drop i)
  rcases numO_cases (l := (s.data.toList.drop i).take (tw dig (s.data.toList.drop i))) tw_all (by omega) with ⟨v, e, _⟩ | ⟨_, e⟩
  · rw [e] at hv; cases hv
  · rw [hl, head_byt h (by omega)] at e
    exact e
set_option maxHeartbeats 8000000 in
set_option maxRecDepth 100000 in
theorem refTokens_is (s : ByteArray) (w : World) {x : List T4} {a e : Int} (hr : Hid (lexR s = (x, a, e))) : Calls Tryz.prog 25 #[.string s] w (LT x a e w) := by
  by_cases h : 1024 < (s.size : Int)
  · have hx := hr.out
    unfold lexR at hx
    rw [if_pos (by omega)] at hx
    simp only [Prod.mk.injEq] at hx
    obtain ⟨rfl, rfl, rfl⟩ := hx
    clear hr
    go_enter Tryz.func25, Tryz.ntmps25
    go_wp2
    exact bodyPost_ret (v := .tuple #[.slice none 0 0, .int .i64 0, .int .i64 3]) (by simp [results, Tryz.results25, go_sem]) rfl ⟨_, _, _, rfl, InT.none _, Below.refl _ _⟩
  · have hs : s.size ≤ 1024 := by omega
    have hx : Hid (lexA (lexAt s 0) = (x, a, e)) := by have hx := hr.out; unfold lexR at hx; rw [if_neg (by omega)] at hx; exact hx
    clear hr
    go_enter Tryz.func25, Tryz.ntmps25
    go_wp2
    go_loopw [5, 6] (fun V i wr => ∃ (j : Nat) (acc : List T4), i = .int .i64 j ∧ Hid (Way s j acc) ∧ Hid (OwnT wr w.heap.size V acc) ∧ Hid (Below w.heap.size w wr)) (fun _ i _ => s.size - (intOf i).toNat)
    case atStart => exact ⟨0, [], rfl, Way.zero s, OwnT.nil _ _, Below.refl _ _⟩
    case round =>
      rename_i V _
      obtain ⟨i, acc, rfl, hW, hO, hB⟩ := hrel
      have hi := hW.out.le
      have hfew : Hid (acc.length ≤ 2000) := by have := hW.out.few; show _ ≤ _; omega
      have hlen : Hid (acc.length + 1 ≤ 3518437208880) := by have := hfew.out; show _ ≤ _; omega
      by_cases hlt : (i : Int) < (s.size : Int)
      · have h : i < s.size := by omega
        have jy := byt_at s i h
        cases hsp : spc (byt s i) with
        | true =>
          have HSP := Lib.hid hsp
          have hj : i + tw spc (s.data.toList.drop i) = i + tw spc (s.data.toList.drop i) := rfl
          have HW2 : Hid (Way s (i + 1) acc) := ⟨by omega, by have := hW.out.few; omega, by rw [hW.out.all, lex_sp h hsp]⟩
          clear hsp hj
          go_wp2_with (first | (go_at_call 46; refine (refSpc_is _ _ HSP).mono ?_; rintro e W1 ⟨rfl, rfl⟩))
          go_roundw
          case rel => exact ⟨i + 1, acc, by go_num, HW2, hO, hB⟩
          case measure => simp [intOf]; omega
        | false =>
          have HSP := Lib.hid hsp
          clear hsp
          rcases tk_cases h HSP.out with ⟨k1, k2, k3⟩ | ⟨k1, k2, k3⟩ | ⟨k1, k2, k3, k4⟩ | ⟨k1, k2, k3, k4⟩ | ⟨k1, k2, k3, k4, k5⟩ | ⟨k1, k2, k3, v, k4, k5⟩ | ⟨k1, k2, k3, k4, k5⟩ | ⟨k1, k2, k3, k4, k5⟩
          · have K1 := Lib.hid k1
            have EE : Hid (x = [] ∧ a = (i : Int) ∧ e = 9) := by
              have h0 := hW.out.bad h k3
              have h1 := hx.out
              rw [h0] at h1
              simp only [lexA, Prod.mk.injEq] at h1
              exact ⟨h1.1.symm, h1.2.1.symm, h1.2.2.symm⟩
            obtain ⟨q, hq⟩ : ∃ q, Hid (i + tw prt (s.data.toList.drop i) = q) := ⟨_, rfl⟩
            have hiq : i ≤ q := by have := hq.out; omega
            have hqs : q ≤ s.size := by have := hq.out; have := tw_size prt hi; omega
            
            have h12 : 12 < (q : Int) - (i : Int) := by have := hq.out; omega
            clear k1 k2 k3
            go_upto_block 2 with (first | (go_at_call 46; refine (refSpc_is _ _ HSP).mono ?_; rintro e W1 ⟨rfl, rfl⟩) | (go_at_call 47; refine (refLtr_is _ _ K1).mono ?_; rintro e W2 ⟨rfl, rfl⟩))
            go_cut [6] from 29 to 40 (fun z wx => z = .int .i64 (q : Int) ∧ wr = wx)
            case first =>
              clear h12
              go_wp2_with fail
              go_loopw [6] (fun z wr' => ∃ (j : Nat), i ≤ j ∧ j ≤ s.size ∧ z = .int .i64 j ∧ Hid (wr = wr') ∧ Hid (∀ q, i ≤ q → q < j → prt (byt s q) = true)) (fun z _ => s.size - (intOf z).toNat)
              case atStart => exact ⟨i, by omega, by omega, rfl, rfl, fun q h1 h2 => by omega⟩
              case round =>
                obtain ⟨j, hij, hjs, rfl, hw, hall⟩ := hrel
                have hw' := hw.out
                subst hw'
                by_cases hj : (j : Int) < (s.size : Int)
                · have jz := byt_at s j (by omega)
                  obtain ⟨v, hv⟩ : ∃ v, Hid (prt (byt s j) = v) := ⟨_, rfl⟩
                  cases v with
                  | true =>
                    have hall2 : Hid (∀ q, i ≤ q → q < j + 1 → prt (byt s q) = true) := fun q h1 h2 => by
                      by_cases e : q = j
                      · subst e; exact hv.out
                      · exact hall.out q h1 (by omega)
                    go_wp2_with (first | (go_at_call 48; refine (refPrt_is _ _ hv).mono ?_; rintro e W3 ⟨rfl, rfl⟩))
                    go_roundw
                    case rel => exact ⟨j + 1, by omega, by omega, by go_num, trivial, hall2⟩
                    case measure => simp [intOf]; omega
                  | false =>
                    have hend := Lib.hid ((run_end hij hjs hall.out (.inr hv.out)).symm.trans hq.out)
                    go_wp2_with (first | (go_at_call 48; refine (refPrt_is _ _ hv).mono ?_; rintro e W3 ⟨rfl, rfl⟩))
                    go_meet
                    exact ⟨by rw [hend.out], rfl⟩
                · have hend := Lib.hid ((run_end hij hjs hall.out (.inl (by omega))).symm.trans hq.out)
                  go_wp2
                  go_meet
                  exact ⟨by rw [hend.out], rfl⟩
            case rest =>
              obtain ⟨rfl, rfl⟩ := hcut
              go_wp2
              exact bodyPost_ret (v := .tuple #[.slice none 0 0, .int .i64 (i : Int), .int .i64 9]) (by simp [results, Tryz.results25, go_sem]) rfl ⟨_, _, _, by rw [EE.out.2.1, EE.out.2.2], by rw [EE.out.1]; exact InT.none _, hB.out⟩
          · have K1 := Lib.hid k1
            have HWt := Lib.hid (hW.out.tok h k3)
            obtain ⟨q, hq⟩ : ∃ q, Hid (i + tw prt (s.data.toList.drop i) = q) := ⟨_, rfl⟩
            have hiq : i ≤ q := by have := hq.out; omega
            have hqs : q ≤ s.size := by have := hq.out; have := tw_size prt hi; omega
            have hiq1 : i < q := by have := hq.out; have := (tkAt_len h k3).1; omega
            have h12 : ¬ 12 < (q : Int) - (i : Int) := by have := hq.out; omega
            clear k1 k2 k3
            go_upto_block 2 with (first | (go_at_call 46; refine (refSpc_is _ _ HSP).mono ?_; rintro e W1 ⟨rfl, rfl⟩) | (go_at_call 47; refine (refLtr_is _ _ K1).mono ?_; rintro e W2 ⟨rfl, rfl⟩))
            go_cut [6] from 29 to 40 (fun z wx => z = .int .i64 (q : Int) ∧ wr = wx)
            case first =>
              clear h12
              go_wp2_with fail
              go_loopw [6] (fun z wr' => ∃ (j : Nat), i ≤ j ∧ j ≤ s.size ∧ z = .int .i64 j ∧ Hid (wr = wr') ∧ Hid (∀ q, i ≤ q → q < j → prt (byt s q) = true)) (fun z _ => s.size - (intOf z).toNat)
              case atStart => exact ⟨i, by omega, by omega, rfl, rfl, fun q h1 h2 => by omega⟩
              case round =>
                obtain ⟨j, hij, hjs, rfl, hw, hall⟩ := hrel
                have hw' := hw.out
                subst hw'
                by_cases hj : (j : Int) < (s.size : Int)
                · have jz := byt_at s j (by omega)
                  obtain ⟨v, hv⟩ : ∃ v, Hid (prt (byt s j) = v) := ⟨_, rfl⟩
                  cases v with
                  | true =>
                    have hall2 : Hid (∀ q, i ≤ q → q < j + 1 → prt (byt s q) = true) := fun q h1 h2 => by
                      by_cases e : q = j
                      · subst e; exact hv.out
                      · exact hall.out q h1 (by omega)
                    go_wp2_with (first | (go_at_call 48; refine (refPrt_is _ _ hv).mono ?_; rintro e W3 ⟨rfl, rfl⟩))
                    go_roundw
                    case rel => exact ⟨j + 1, by omega, by omega, by go_num, trivial, hall2⟩
                    case measure => simp [intOf]; omega
                  | false =>
                    have hend := Lib.hid ((run_end hij hjs hall.out (.inr hv.out)).symm.trans hq.out)
                    go_wp2_with (first | (go_at_call 48; refine (refPrt_is _ _ hv).mono ?_; rintro e W3 ⟨rfl, rfl⟩))
                    go_meet
                    exact ⟨by rw [hend.out], rfl⟩
                · have hend := Lib.hid ((run_end hij hjs hall.out (.inl (by omega))).symm.trans hq.out)
                  go_wp2
                  go_meet
                  exact ⟨by rw [hend.out], rfl⟩
            case rest =>
              obtain ⟨rfl, rfl⟩ := hcut
              obtain ⟨T, hT⟩ : ∃ T, Hid (cutB s i q = T) := ⟨_, rfl⟩
              have HW2 : Hid (Way s q (acc ++ [(1, T, 0, (i : Int))])) := by have h1 := HWt.out; rw [← cutB_tw hq, hq.out, hT.out] at h1; exact h1
              have hsl := hsl_is s hiq hqs hT
              go_wp2_with (first | (at_builtin; (refine app_tok rfl (.tmp 46) (.tmp 53) rfl w.heap.size _ acc _ [(1, T, 0, (i : Int))] 1 1 rfl rfl rfl (hO.out.below (newB _ _)) (TRd.one _ _ _ _ _ _) hlen (Nat.le_trans hB.out.size (newB _ _).size) ?_); intro V5 W5 ho5 hb5; have HO5 := Lib.hid ho5; have HB5 := Lib.hid ((nxA hB.out _).trans hb5); clear ho5 hb5))
              go_roundw
              case rel => exact ⟨q, _, rfl, HW2, HO5, HB5⟩
              case measure => simp [intOf]; omega
          · as_aux_lemma =>
              have K1 := Lib.hid k1
              have EE : Hid (x = [] ∧ a = (i : Int) ∧ e = 8) := by
                have h0 := hW.out.bad h k4
                have h1 := hx.out
                rw [h0] at h1
                simp only [lexA, Prod.mk.injEq] at h1
                exact ⟨h1.1.symm, h1.2.1.symm, h1.2.2.symm⟩
              have K3 := Lib.hid k3
              obtain ⟨q, hq⟩ : ∃ q, Hid (i + tw cpl (s.data.toList.drop i) = q) := ⟨_, rfl⟩
              have hiq : i ≤ q := by have := hq.out; omega
              have hqs : q ≤ s.size := by have := hq.out; have := tw_size cpl hi; omega
            
              have hc1 : 65 ≤ byt s i := by unfold cpl at k2; have := of_decide_eq_true k2; omega
              have hc2 : byt s i ≤ 90 := by unfold cpl at k2; have := of_decide_eq_true k2; omega
              clear k1 k2 k3 k4
              go_upto_block 4 with (first | (go_at_call 46; refine (refSpc_is _ _ HSP).mono ?_; rintro e W1 ⟨rfl, rfl⟩) | (go_at_call 47; refine (refLtr_is _ _ K1).mono ?_; rintro e W2 ⟨rfl, rfl⟩))
              go_cut [6] from 61 to 78 (fun z wx => z = .int .i64 (q : Int) ∧ wr = wx)
              case first =>
                go_wp2_with fail
                go_loopw [6] (fun z wr' => ∃ (j : Nat), i ≤ j ∧ j ≤ s.size ∧ z = .int .i64 j ∧ Hid (wr = wr') ∧ Hid (∀ q, i ≤ q → q < j → cpl (byt s q) = true)) (fun z _ => s.size - (intOf z).toNat)
                case atStart => exact ⟨i, by omega, by omega, rfl, rfl, fun q h1 h2 => by omega⟩
                case round =>
                  obtain ⟨j, hij, hjs, rfl, hw, hall⟩ := hrel
                  have hw' := hw.out
                  subst hw'
                  by_cases hj : (j : Int) < (s.size : Int)
                  · have jz := byt_at s j (by omega)
                    cases hv0 : cpl (byt s j) with
                    | true =>
                      have hall2 : Hid (∀ q, i ≤ q → q < j + 1 → cpl (byt s q) = true) := fun q h1 h2 => by
                        by_cases e : q = j
                        · subst e; exact hv0
                        · exact hall.out q h1 (by omega)
                      have hd1 : 65 ≤ byt s j := by unfold cpl at hv0; have := of_decide_eq_true hv0; omega
                      have hd2 : byt s j ≤ 90 := by unfold cpl at hv0; have := of_decide_eq_true hv0; omega
                      clear hv0
                      go_wp2
                      go_roundw
                      case rel => exact ⟨j + 1, by omega, by omega, by go_num, trivial, hall2⟩
                      case measure => simp [intOf]; omega
                    | false =>
                      have hcp : ¬ 65 ≤ byt s j ∨ (65 ≤ byt s j ∧ ¬ byt s j ≤ 90) := by unfold cpl at hv0; have := of_decide_eq_false hv0; omega
                      have hend := Lib.hid ((run_end hij hjs hall.out (.inr hv0)).symm.trans hq.out)
                      clear hv0
                      rcases hcp with hcp | ⟨hcp, hcp2⟩
                      all_goals (
                        go_wp2
                        go_meet
                        exact ⟨by rw [hend.out], rfl⟩)
                  · have hend := Lib.hid ((run_end hij hjs hall.out (.inl (by omega))).symm.trans hq.out)
                    go_wp2
                    go_meet
                    exact ⟨by rw [hend.out], rfl⟩
              case rest =>
                obtain ⟨rfl, rfl⟩ := hcut
                obtain ⟨T, hT⟩ : ∃ T, Hid (cutB s i q = T) := ⟨_, rfl⟩
                have hsl := hsl_is s hiq hqs hT
                have hp : Hid (prs T = 0) := by show _ = _; rw [← hT.out, cutB_tw hq, prs_mdL]; exact K3.out
                go_wp2_with (first | (go_at_call 49; refine (refParse_no T _ hp).mono ?_; rintro e W4 ⟨rfl, rfl⟩))
                exact bodyPost_ret (v := .tuple #[.slice none 0 0, .int .i64 (i : Int), .int .i64 8]) (by simp [results, Tryz.results25, go_sem]) rfl ⟨_, _, _, by rw [EE.out.2.1, EE.out.2.2], by rw [EE.out.1]; exact InT.none _, hB.out⟩
          · as_aux_lemma =>
              have K1 := Lib.hid k1
              have HWt := Lib.hid (hW.out.tok h k4)
              have K3 := Lib.hid k3
              obtain ⟨q, hq⟩ : ∃ q, Hid (i + tw cpl (s.data.toList.drop i) = q) := ⟨_, rfl⟩
              have hiq : i ≤ q := by have := hq.out; omega
              have hqs : q ≤ s.size := by have := hq.out; have := tw_size cpl hi; omega
              have hiq1 : i < q := by have := hq.out; have := (tkAt_len h k4).1; omega
              have hc1 : 65 ≤ byt s i := by unfold cpl at k2; have := of_decide_eq_true k2; omega
              have hc2 : byt s i ≤ 90 := by unfold cpl at k2; have := of_decide_eq_true k2; omega
              clear k1 k2 k3 k4
              go_upto_block 4 with (first | (go_at_call 46; refine (refSpc_is _ _ HSP).mono ?_; rintro e W1 ⟨rfl, rfl⟩) | (go_at_call 47; refine (refLtr_is _ _ K1).mono ?_; rintro e W2 ⟨rfl, rfl⟩))
              go_cut [6] from 61 to 78 (fun z wx => z = .int .i64 (q : Int) ∧ wr = wx)
              case first =>
                go_wp2_with fail
                go_loopw [6] (fun z wr' => ∃ (j : Nat), i ≤ j ∧ j ≤ s.size ∧ z = .int .i64 j ∧ Hid (wr = wr') ∧ Hid (∀ q, i ≤ q → q < j → cpl (byt s q) = true)) (fun z _ => s.size - (intOf z).toNat)
                case atStart => exact ⟨i, by omega, by omega, rfl, rfl, fun q h1 h2 => by omega⟩
                case round =>
                  obtain ⟨j, hij, hjs, rfl, hw, hall⟩ := hrel
                  have hw' := hw.out
                  subst hw'
                  by_cases hj : (j : Int) < (s.size : Int)
                  · have jz := byt_at s j (by omega)
                    cases hv0 : cpl (byt s j) with
                    | true =>
                      have hall2 : Hid (∀ q, i ≤ q → q < j + 1 → cpl (byt s q) = true) := fun q h1 h2 => by
                        by_cases e : q = j
                        · subst e; exact hv0
                        · exact hall.out q h1 (by omega)
                      have hd1 : 65 ≤ byt s j := by unfold cpl at hv0; have := of_decide_eq_true hv0; omega
                      have hd2 : byt s j ≤ 90 := by unfold cpl at hv0; have := of_decide_eq_true hv0; omega
                      clear hv0
                      go_wp2
                      go_roundw
                      case rel => exact ⟨j + 1, by omega, by omega, by go_num, trivial, hall2⟩
                      case measure => simp [intOf]; omega
                    | false =>
                      have hcp : ¬ 65 ≤ byt s j ∨ (65 ≤ byt s j ∧ ¬ byt s j ≤ 90) := by unfold cpl at hv0; have := of_decide_eq_false hv0; omega
                      have hend := Lib.hid ((run_end hij hjs hall.out (.inr hv0)).symm.trans hq.out)
                      clear hv0
                      rcases hcp with hcp | ⟨hcp, hcp2⟩
                      all_goals (
                        go_wp2
                        go_meet
                        exact ⟨by rw [hend.out], rfl⟩)
                  · have hend := Lib.hid ((run_end hij hjs hall.out (.inl (by omega))).symm.trans hq.out)
                    go_wp2
                    go_meet
                    exact ⟨by rw [hend.out], rfl⟩
              case rest =>
                obtain ⟨rfl, rfl⟩ := hcut
                obtain ⟨T, hT⟩ : ∃ T, Hid (cutB s i q = T) := ⟨_, rfl⟩
                have hsl := hsl_is s hiq hqs hT
                obtain ⟨m, hm⟩ : ∃ m, Hid (mdL ((s.data.toList.drop i).take (tw cpl (s.data.toList.drop i))) = m) := ⟨_, rfl⟩
                have HW2 : Hid (Way s q (acc ++ [(2, T, m, (i : Int))])) := by have h1 := HWt.out; rw [hm.out, ← cutB_tw hq, hq.out, hT.out] at h1; exact h1
                have hp : Hid (prs T = m) := by show _ = _; rw [← hT.out, cutB_tw hq, prs_mdL]; exact hm.out
                have hm1 : Hid (1 ≤ m) := by have h1 := K3.out; rw [hm.out] at h1; exact h1
                go_wp2_with (first | (go_at_call 49; refine (refParse_yes T _ hp hm1).mono ?_; rintro e W4 ⟨rfl, rfl⟩) | (at_builtin; (refine app_tok rfl (.tmp 90) (.tmp 98) rfl w.heap.size _ acc _ [(2, T, m, (i : Int))] 1 1 rfl rfl rfl (hO.out.below (newB _ _)) (TRd.one _ _ _ _ _ _) hlen (Nat.le_trans hB.out.size (newB _ _).size) ?_); intro V5 W5 ho5 hb5; have HO5 := Lib.hid ho5; have HB5 := Lib.hid ((nxA hB.out _).trans hb5); clear ho5 hb5))
                go_roundw
                case rel => exact ⟨q, _, rfl, HW2, HO5, HB5⟩
                case measure => simp [intOf]; omega
          · as_aux_lemma =>
              have K1 := Lib.hid k1
              have EE : Hid (x = [] ∧ a = (i : Int) ∧ e = 8) := by
                have h0 := hW.out.bad h k5
                have h1 := hx.out
                rw [h0] at h1
                simp only [lexA, Prod.mk.injEq] at h1
                exact ⟨h1.1.symm, h1.2.1.symm, h1.2.2.symm⟩
              have KD := Lib.hid (dig_no h k3 k4)
              obtain ⟨q, hq⟩ : ∃ q, Hid (i + tw dig (s.data.toList.drop i) = q) := ⟨_, rfl⟩
              have hiq : i ≤ q := by have := hq.out; omega
              have hqs : q ≤ s.size := by have := hq.out; have := tw_size dig hi; omega
            
              have hc1 : 48 ≤ byt s i := by unfold dig at k3; have := of_decide_eq_true k3; omega
              have hc2 : byt s i ≤ 57 := by unfold dig at k3; have := of_decide_eq_true k3; omega
              have hc3 : ¬ 65 ≤ byt s i := by omega
              clear k1 k2 k3 k4 k5
              go_upto_block 6 with (first | (go_at_call 46; refine (refSpc_is _ _ HSP).mono ?_; rintro e W1 ⟨rfl, rfl⟩) | (go_at_call 47; refine (refLtr_is _ _ K1).mono ?_; rintro e W2 ⟨rfl, rfl⟩))
              go_cut [6, 11] from 106 to 135 (fun z u wx => ∃ t : Nat, z = .int .i64 (q : Int) ∧ u = .int .i64 (t : Int) ∧ Hid (digs 0 (dgs s i q) = some t) ∧ wr = wx)
              case first =>
                clear hc1 hc2 hc3
                go_wp2_with fail
                go_loopw [6, 11] (fun z u wr' => ∃ (j t : Nat), i ≤ j ∧ j ≤ s.size ∧ z = .int .i64 j ∧ u = .int .i64 t ∧ t < 10000 ∧ Hid (digs 0 (dgs s i j) = some t) ∧ Hid (wr = wr') ∧ Hid (∀ q, i ≤ q → q < j → dig (byt s q) = true)) (fun z _ _ => s.size - (intOf z).toNat)
                case atStart => exact ⟨i, 0, by omega, by omega, rfl, rfl, by omega, dgs_zero s i, rfl, fun q h1 h2 => by omega⟩
                case round =>
                  obtain ⟨j, t, hij, hjs, rfl, rfl, ht, hdg, hw, hall⟩ := hrel
                  have hw' := hw.out
                  subst hw'
                  by_cases hj : (j : Int) < (s.size : Int)
                  · have jz := byt_at s j (by omega)
                    cases hv0 : dig (byt s j) with
                    | true =>
                      have hall2 : Hid (∀ q, i ≤ q → q < j + 1 → dig (byt s q) = true) := fun q h1 h2 => by
                        by_cases e : q = j
                        · subst e; exact hv0
                        · exact hall.out q h1 (by omega)
                      have hd1 : 48 ≤ byt s j := by unfold dig at hv0; have := of_decide_eq_true hv0; omega
                      have hd2 : byt s j ≤ 57 := by unfold dig at hv0; have := of_decide_eq_true hv0; omega
                      by_cases h4 : (j : Int) - (i : Int) < 4
                      · obtain ⟨b, hb⟩ : ∃ b : Nat, Hid ((byt s j).toNat - 48 = b) := ⟨_, rfl⟩
                        have hb2 : Hid (byt s j - 48 = (b : Int)) := by have := hb.out; show _ = _; omega
                        have hdg2 : Hid (digs 0 (dgs s i (j + 1)) = some (10 * t + b)) := by have h1 := dgs_more hij (by omega) (by omega) hv0 hdg.out; rw [hb.out] at h1; exact h1
                        have ht2 := dgs_lt hdg2.out
                        have e1 : IntKind.u8.wrap (byt s j - 48) = (b : Int) := by have := hb2.out; rw [IntKind.wrap_u8]; omega
                        have hb9 : b ≤ 9 := by have := hb2.out; omega
                        clear hv0
                        go_wp2
                        go_roundw
                        case rel => exact ⟨j + 1, 10 * t + b, by omega, by omega, by go_num, by go_num, ht2, hdg2, trivial, hall2⟩
                        case measure => simp [intOf]; omega
                      · have hdg2 : Hid (digs 0 (dgs s i (j + 1)) = some t) := by show _ = _; rw [dgs_same (by omega)]; exact hdg.out
                        clear hv0
                        go_wp2
                        go_roundw
                        case rel => exact ⟨j + 1, t, by omega, by omega, by go_num, rfl, ht, hdg2, trivial, hall2⟩
                        case measure => simp [intOf]; omega
                    | false =>
                      have hcp : ¬ 48 ≤ byt s j ∨ (48 ≤ byt s j ∧ ¬ byt s j ≤ 57) := by unfold dig at hv0; have := of_decide_eq_false hv0; omega
                      have hend := Lib.hid ((run_end hij hjs hall.out (.inr hv0)).symm.trans hq.out)
                      clear hv0
                      rcases hcp with hcp | ⟨hcp, hcp2⟩
                      all_goals (
                        go_wp2
                        go_meet
                        exact ⟨t, by rw [hend.out], rfl, by rw [← hend.out]; exact hdg, rfl⟩)
                  · have hend := Lib.hid ((run_end hij hjs hall.out (.inl (by omega))).symm.trans hq.out)
                    go_wp2
                    go_meet
                    exact ⟨t, by rw [hend.out], rfl, by rw [← hend.out]; exact hdg, rfl⟩
              case rest =>
                obtain ⟨t, rfl, rfl, hdg, rfl⟩ := hcut
                by_cases h4 : 4 < (q : Int) - (i : Int)
                · go_wp2
                  exact bodyPost_ret (v := .tuple #[.slice none 0 0, .int .i64 (i : Int), .int .i64 8]) (by simp [results, Tryz.results25, go_sem]) rfl ⟨_, _, _, by rw [EE.out.2.1, EE.out.2.2], by rw [EE.out.1]; exact InT.none _, hB.out⟩
                · have h1 : 1 < (q : Int) - (i : Int) := by have := KD.out; have := hq.out; omega
                  have h48 : byt s i = 48 := by have := KD.out; have := hq.out; omega
                  have h48b : (byt s i == 48) = true := by rw [beq_iff_eq]; exact h48
                  clear h48
                  go_wp2
                  exact bodyPost_ret (v := .tuple #[.slice none 0 0, .int .i64 (i : Int), .int .i64 8]) (by simp [results, Tryz.results25, go_sem]) rfl ⟨_, _, _, by rw [EE.out.2.1, EE.out.2.2], by rw [EE.out.1]; exact InT.none _, hB.out⟩
          · as_aux_lemma =>
              have K1 := Lib.hid k1
              have HWt := Lib.hid (hW.out.tok h k5)
              have KD := Lib.hid (dig_yes h k3 k4)
              obtain ⟨q, hq⟩ : ∃ q, Hid (i + tw dig (s.data.toList.drop i) = q) := ⟨_, rfl⟩
              have hiq : i ≤ q := by have := hq.out; omega
              have hqs : q ≤ s.size := by have := hq.out; have := tw_size dig hi; omega
              have hiq1 : i < q := by have := hq.out; have := (tkAt_len h k5).1; omega
              have hc1 : 48 ≤ byt s i := by unfold dig at k3; have := of_decide_eq_true k3; omega
              have hc2 : byt s i ≤ 57 := by unfold dig at k3; have := of_decide_eq_true k3; omega
              have hc3 : ¬ 65 ≤ byt s i := by omega
              clear k1 k2 k3 k4 k5
              go_upto_block 6 with (first | (go_at_call 46; refine (refSpc_is _ _ HSP).mono ?_; rintro e W1 ⟨rfl, rfl⟩) | (go_at_call 47; refine (refLtr_is _ _ K1).mono ?_; rintro e W2 ⟨rfl, rfl⟩))
              go_cut [6, 11] from 106 to 135 (fun z u wx => ∃ t : Nat, z = .int .i64 (q : Int) ∧ u = .int .i64 (t : Int) ∧ Hid (digs 0 (dgs s i q) = some t) ∧ wr = wx)
              case first =>
                clear hc1 hc2 hc3
                go_wp2_with fail
                go_loopw [6, 11] (fun z u wr' => ∃ (j t : Nat), i ≤ j ∧ j ≤ s.size ∧ z = .int .i64 j ∧ u = .int .i64 t ∧ t < 10000 ∧ Hid (digs 0 (dgs s i j) = some t) ∧ Hid (wr = wr') ∧ Hid (∀ q, i ≤ q → q < j → dig (byt s q) = true)) (fun z _ _ => s.size - (intOf z).toNat)
                case atStart => exact ⟨i, 0, by omega, by omega, rfl, rfl, by omega, dgs_zero s i, rfl, fun q h1 h2 => by omega⟩
                case round =>
                  obtain ⟨j, t, hij, hjs, rfl, rfl, ht, hdg, hw, hall⟩ := hrel
                  have hw' := hw.out
                  subst hw'
                  by_cases hj : (j : Int) < (s.size : Int)
                  · have jz := byt_at s j (by omega)
                    cases hv0 : dig (byt s j) with
                    | true =>
                      have hall2 : Hid (∀ q, i ≤ q → q < j + 1 → dig (byt s q) = true) := fun q h1 h2 => by
                        by_cases e : q = j
                        · subst e; exact hv0
                        · exact hall.out q h1 (by omega)
                      have hd1 : 48 ≤ byt s j := by unfold dig at hv0; have := of_decide_eq_true hv0; omega
                      have hd2 : byt s j ≤ 57 := by unfold dig at hv0; have := of_decide_eq_true hv0; omega
                      by_cases h4 : (j : Int) - (i : Int) < 4
                      · obtain ⟨b, hb⟩ : ∃ b : Nat, Hid ((byt s j).toNat - 48 = b) := ⟨_, rfl⟩
                        have hb2 : Hid (byt s j - 48 = (b : Int)) := by have := hb.out; show _ = _; omega
                        have hdg2 : Hid (digs 0 (dgs s i (j + 1)) = some (10 * t + b)) := by have h1 := dgs_more hij (by omega) (by omega) hv0 hdg.out; rw [hb.out] at h1; exact h1
                        have ht2 := dgs_lt hdg2.out
                        have e1 : IntKind.u8.wrap (byt s j - 48) = (b : Int) := by have := hb2.out; rw [IntKind.wrap_u8]; omega
                        have hb9 : b ≤ 9 := by have := hb2.out; omega
                        clear hv0
                        go_wp2
                        go_roundw
                        case rel => exact ⟨j + 1, 10 * t + b, by omega, by omega, by go_num, by go_num, ht2, hdg2, trivial, hall2⟩
                        case measure => simp [intOf]; omega
                      · have hdg2 : Hid (digs 0 (dgs s i (j + 1)) = some t) := by show _ = _; rw [dgs_same (by omega)]; exact hdg.out
                        clear hv0
                        go_wp2
                        go_roundw
                        case rel => exact ⟨j + 1, t, by omega, by omega, by go_num, rfl, ht, hdg2, trivial, hall2⟩
                        case measure => simp [intOf]; omega
                    | false =>
                      have hcp : ¬ 48 ≤ byt s j ∨ (48 ≤ byt s j ∧ ¬ byt s j ≤ 57) := by unfold dig at hv0; have := of_decide_eq_false hv0; omega
                      have hend := Lib.hid ((run_end hij hjs hall.out (.inr hv0)).symm.trans hq.out)
                      clear hv0
                      rcases hcp with hcp | ⟨hcp, hcp2⟩
                      all_goals (
                        go_wp2
                        go_meet
                        exact ⟨t, by rw [hend.out], rfl, by rw [← hend.out]; exact hdg, rfl⟩)
                  · have hend := Lib.hid ((run_end hij hjs hall.out (.inl (by omega))).symm.trans hq.out)
                    go_wp2
                    go_meet
                    exact ⟨t, by rw [hend.out], rfl, by rw [← hend.out]; exact hdg, rfl⟩
              case rest =>
                obtain ⟨t, rfl, rfl, hdg, rfl⟩ := hcut
                have h4 : ¬ 4 < (q : Int) - (i : Int) := by have := KD.out.1; have := hq.out; omega
                have HW2 : Hid (Way s q (acc ++ [(3, ⟨#[]⟩, (t : Int), (i : Int))])) := by
                  have h1 := HWt.out
                  have h2 := KD.out.2.2
                  have h3 := hdg.out
                  have h5 : min (q - i) 4 = tw dig (s.data.toList.drop i) := by have := hq.out; omega
                  unfold dgs at h3
                  rw [h5, h2] at h3
                  injection h3 with h3
                  rw [hq.out, h3] at h1
                  exact h1
                by_cases h1 : 1 < (q : Int) - (i : Int)
                · have h48 : (byt s i == 48) = false := by rw [beq_eq_false_iff_ne]; exact KD.out.2.1 (by have := hq.out; omega)
                  go_wp2_with (first | (at_builtin; (refine app_tok rfl (.tmp 151) (.tmp 155) rfl w.heap.size _ acc _ [(3, ⟨#[]⟩, (t : Int), (i : Int))] 1 1 rfl rfl rfl (hO.out.below (newB _ _)) (TRd.one _ _ _ _ _ _) hlen (Nat.le_trans hB.out.size (newB _ _).size) ?_); intro V5 W5 ho5 hb5; have HO5 := Lib.hid ho5; have HB5 := Lib.hid ((nxA hB.out _).trans hb5); clear ho5 hb5))
                  go_roundw
                  case rel => exact ⟨q, _, rfl, HW2, HO5, HB5⟩
                  case measure => simp [intOf]; omega
                · go_wp2_with (first | (at_builtin; (refine app_tok rfl (.tmp 151) (.tmp 155) rfl w.heap.size _ acc _ [(3, ⟨#[]⟩, (t : Int), (i : Int))] 1 1 rfl rfl rfl (hO.out.below (newB _ _)) (TRd.one _ _ _ _ _ _) hlen (Nat.le_trans hB.out.size (newB _ _).size) ?_); intro V5 W5 ho5 hb5; have HO5 := Lib.hid ho5; have HB5 := Lib.hid ((nxA hB.out _).trans hb5); clear ho5 hb5))
                  go_roundw
                  case rel => exact ⟨q, _, rfl, HW2, HO5, HB5⟩
                  case measure => simp [intOf]; omega
          · have K1 := Lib.hid k1
            have HWt := Lib.hid (hW.out.tok h k5)
            obtain ⟨T, hT⟩ : ∃ T, Hid (cutB s i (i + 1) = T) := ⟨_, rfl⟩
            have HW2 : Hid (Way s (i + 1) (acc ++ [(4, T, 0, (i : Int))])) := by have h1 := HWt.out; rw [← cutB_one, hT.out] at h1; exact h1
            have hsl : ∀ W : World, (Instr.slice 9 (.string s) (some (.int .i64 (i : Int))) (some (.int .i64 ((i : Int) + 1))) none).run Tryz.prog W = .ok (.string T) W := hsl_is s (by omega) h hT
            have hp : byt s i = 40 ∨ byt s i = 41 ∨ byt s i = 44 ∨ byt s i = 58 ∨ byt s i = 42 := by unfold pun at k4; exact of_decide_eq_true k4
            clear k1 k2 k3 k4 k5
            obtain ⟨c, hc⟩ : ∃ c, byt s i = c := ⟨_, rfl⟩
            rw [hc] at hp jy HSP K1
            clear hc
            rcases hp with rfl | rfl | rfl | rfl | rfl
            all_goals (
              go_wp2_with (first | (go_at_call 46; refine (refSpc_is _ _ HSP).mono ?_; rintro e W1 ⟨rfl, rfl⟩) | (go_at_call 47; refine (refLtr_is _ _ K1).mono ?_; rintro e W2 ⟨rfl, rfl⟩) | (at_builtin; (refine app_tok rfl (.tmp 178) (.tmp 185) rfl w.heap.size _ acc _ [(4, T, 0, (i : Int))] 1 1 rfl rfl rfl (hO.out.below (newB _ _)) (TRd.one _ _ _ _ _ _) hlen (Nat.le_trans hB.out.size (newB _ _).size) ?_); intro V5 W5 ho5 hb5; have HO5 := Lib.hid ho5; have HB5 := Lib.hid ((nxA hB.out _).trans hb5); clear ho5 hb5))
              go_roundw
              case rel => exact ⟨i + 1, _, by go_num, HW2, HO5, HB5⟩
              case measure => simp [intOf]; omega)
          · have K1 := Lib.hid k1
            have EE : Hid (x = [] ∧ a = (i : Int) ∧ e = 8) := by
              have h0 := hW.out.bad h k5
              have h1 := hx.out
              rw [h0] at h1
              simp only [lexA, Prod.mk.injEq] at h1
              exact ⟨h1.1.symm, h1.2.1.symm, h1.2.2.symm⟩
            have hA : ¬ 65 ≤ byt s i ∨ (65 ≤ byt s i ∧ ¬ byt s i ≤ 90) := by unfold cpl at k2; have := of_decide_eq_false k2; omega
            have hD : ¬ 48 ≤ byt s i ∨ (48 ≤ byt s i ∧ ¬ byt s i ≤ 57) := by unfold dig at k3; have := of_decide_eq_false k3; omega
            have hP := of_decide_eq_false (show decide (byt s i = 40 ∨ byt s i = 41 ∨ byt s i = 44 ∨ byt s i = 58 ∨ byt s i = 42) = false from k4)
            have p1 : (byt s i != 40) = true := by rw [bne_iff_ne]; omega
            have p2 : (byt s i != 41) = true := by rw [bne_iff_ne]; omega
            have p3 : (byt s i != 44) = true := by rw [bne_iff_ne]; omega
            have p4 : (byt s i != 58) = true := by rw [bne_iff_ne]; omega
            have p5 : (byt s i != 42) = true := by rw [bne_iff_ne]; omega
            clear k1 k2 k3 k4 k5 hP
            rcases hA with hA | ⟨hA, hA2⟩ <;> rcases hD with hD | ⟨hD, hD2⟩
            all_goals (
              go_wp2_with (first | (go_at_call 46; refine (refSpc_is _ _ HSP).mono ?_; rintro e W1 ⟨rfl, rfl⟩) | (go_at_call 47; refine (refLtr_is _ _ K1).mono ?_; rintro e W2 ⟨rfl, rfl⟩))
              all_goals (exact bodyPost_ret (v := .tuple #[.slice none 0 0, .int .i64 (i : Int), .int .i64 8]) (by simp [results, Tryz.results25, go_sem]) rfl ⟨_, _, _, by rw [EE.out.2.1, EE.out.2.2], by rw [EE.out.1]; exact InT.none _, hB.out⟩))
      · have hjs : i = s.size := by have := hW.out.le; omega
        have HE : Hid (x = acc ++ [(5, ⟨#[]⟩, 0, (s.size : Int))] ∧ a = 0 ∧ e = 0) := by
          have h0 := hW.out.done hjs
          have h1 := hx.out
          rw [h0] at h1
          simp only [lexA, Prod.mk.injEq] at h1
          exact ⟨h1.1.symm, h1.2.1.symm, h1.2.2.symm⟩
        clear hjs
        go_wp2_with (first | (at_builtin; (refine app_tok rfl (.tmp 187) (.tmp 191) rfl w.heap.size _ acc _ [(5, ⟨#[]⟩, 0, (s.size : Int))] 1 1 rfl rfl rfl (hO.out.below (newB _ _)) (TRd.one _ _ _ _ _ _) hlen (Nat.le_trans hB.out.size (newB _ _).size) ?_); intro V5 W5 ho5 hb5; obtain ⟨A5, c5, rfl, hfit5, hrd5, _⟩ := ho5.form; have HO5 := Lib.hid hrd5; have HB5 := Lib.hid ((nxA hB.out _).trans hb5); clear ho5 hb5 hrd5))
        obtain ⟨rfl, rfl, rfl⟩ := HE.out
        exact bodyPost_ret (v := .tuple #[.slice A5 (acc.length + 1) c5, .int .i64 0, .int .i64 0]) (by simp [results, Tryz.results25, go_sem]) rfl ⟨_, _, _, rfl, ⟨by simp, HO5.out, by simpa using hfit5, by have := hfew.out; omega⟩, HB5.out⟩
end Go.Proofs.YtlokcmbkkfjlkaaGreatDoor
