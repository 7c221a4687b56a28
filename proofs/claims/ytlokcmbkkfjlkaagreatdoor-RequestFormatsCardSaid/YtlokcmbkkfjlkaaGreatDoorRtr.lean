/- Contracts of the reference: text, FormatExpr, Format. -/
import Derived.Test.YtlokcmbkkfjlkaaGreatDoorRtd
namespace Go.Proofs.YtlokcmbkkfjlkaaGreatDoor
open Go.RowKit
set_option linter.unusedVariables false
set_option linter.unusedSimpArgs false

abbrev S5 (W : World) (g : Nat) (k : Int) (s : ByteArray) (m u : Int) (A : Option Addr) (n c : Nat) : Prop := W.cell? ⟨g, 0, none⟩ = some (.int .i64 k) ∧ W.cell? ⟨g, 1, none⟩ = some (.string s) ∧ W.cell? ⟨g, 2, none⟩ = some (.int .i64 m) ∧ W.cell? ⟨g, 3, none⟩ = some (.int .i64 u) ∧ W.cell? ⟨g, 4, none⟩ = some (.slice A n c)
theorem Blk.s5 {W : World} {g : Nat} {k : Int} {s : ByteArray} {m u : Int} {A : Option Addr} {n c : Nat} (h : Blk W g [.int .i64 k, .string s, .int .i64 m, .int .i64 u, .slice A n c]) : S5 W g k s m u A n c :=
  ⟨h.cell 0 rfl, h.cell 1 rfl, h.cell 2 rfl, h.cell 3 rfl, h.cell 4 rfl⟩
set_option maxHeartbeats 4000000 in
set_option maxRecDepth 100000 in
theorem rtx_atom (s : ByteArray) (m u : Int) (A : Option Addr) (n c : Nat) (w : World) (hn : Hid (Nam s)) (hu : Hid (usb m u = true)) {r : ByteArray} (hr : Hid (mkB (atx (s, m, u)) = r)) :
    Calls Tryz.prog 42 #[xe 0 s m u A n c] w fun x w' => x = .returned (.string r) ∧ Below w.heap.size w w' := by
  have hs := hn.out.2.1
  have hS : Hid (∀ W, Below (w.alloc (.cells #[.int .i64 0, .string s, .int .i64 m, .int .i64 u, .slice A n c] 28)).heap.size (w.alloc (.cells #[.int .i64 0, .string s, .int .i64 m, .int .i64 u, .slice A n c] 28)) W → S5 W w.heap.size 0 s m u A n c) := fun W hW =>
    ((Blk.new w [.int .i64 0, .string s, .int .i64 m, .int .i64 u, .slice A n c] 28 rfl).up hW (by simp)).s5
  rcases usb_is hu.out with ⟨h1, h2, rfl⟩ | ⟨rfl, h3, h4⟩
  · obtain ⟨M, hM⟩ : ∃ M, Hid (mkB (mdT m) = M) := ⟨_, rfl⟩
    have hMs : M.size ≤ 3 := by rw [← hM.out, mkB_size]; exact mdT_len m
    have n1 : ¬ 9223372036854775807 < s.size + 1 := by omega
    have n2 : ¬ 9223372036854775807 < s.size + 1 + M.size := by omega
    have n3 : ¬ 9223372036854775807 < (s ++ (⟨#[58]⟩ : ByteArray)).size + M.size := by rw [ByteArray.size_append]; exact n2
    have H12 : Hid (1 ≤ m ∧ m ≤ 5) := ⟨h1, h2⟩
    have b0 : (m == 0) = false := by rw [beq_eq_false_iff_ne]; omega
    have hend : Hid ((s ++ (⟨#[58]⟩ : ByteArray)) ++ M = r) := by
      show _ = _
      rw [← hr.out, ← hM.out]
      apply ba_ext
      rw [ba_data, ba_data, mkB_data, mkB_data, List.append_assoc]
      rfl
    clear h1 h2
    go_enter Tryz.func42, Tryz.ntmps42
    go_wp2
    go_region_held3 (fun W => Below (w.alloc (.cells #[.int .i64 0, .string s, .int .i64 m, .int .i64 0, .slice A n c] 28)).heap.size (w.alloc (.cells #[.int .i64 0, .string s, .int .i64 m, .int .i64 0, .slice A n c] 28)) W ∧ S5 W w.heap.size 0 s m 0 A n c)
      (first
        | exact ⟨Below.refl _ _, hS.out _ (Below.refl _ _)⟩
        | exact ⟨bdD (Below.refl _ _), hS.out _ (bdD (Below.refl _ _))⟩
        | (go_split_ands; exact ⟨nx (by assumption) hb1, hS.out _ (nx (by assumption) hb1)⟩))
      (first
        | (go_at_call 67; (with_reducible refine (refFmt_mode _ H12.out hM).mono ?_); rintro e W1 ⟨rfl, hb1⟩))
    all_goals (go_wp2; go_ret; go_split_ands; exact ⟨by rw [← hend.out]; rfl, dn1 (by assumption)⟩)
  · obtain ⟨M, hM⟩ : ∃ M, Hid (mkB (42 :: dec u.toNat) = M) := ⟨_, rfl⟩
    have hMs : M.size ≤ 5 := by rw [← hM.out, mkB_size]; have := dec_len4 (n := u.toNat) (by omega); simp; omega
    have n2 : ¬ 9223372036854775807 < s.size + M.size := by omega
    have H34 : Hid (1 ≤ u ∧ u ≤ 8) := ⟨h3, h4⟩
    have hend : Hid (s ++ M = r) := by
      show _ = _
      rw [← hr.out, ← hM.out]
      apply ba_ext
      rw [ba_data, mkB_data, mkB_data]
      unfold atx
      rw [if_neg (show ¬ u = 0 by omega)]
    clear h3 h4
    go_enter Tryz.func42, Tryz.ntmps42
    go_wp2
    go_region_held3 (fun W => Below (w.alloc (.cells #[.int .i64 0, .string s, .int .i64 0, .int .i64 u, .slice A n c] 28)).heap.size (w.alloc (.cells #[.int .i64 0, .string s, .int .i64 0, .int .i64 u, .slice A n c] 28)) W ∧ S5 W w.heap.size 0 s 0 u A n c)
      (first
        | exact ⟨Below.refl _ _, hS.out _ (Below.refl _ _)⟩
        | exact ⟨bdD (Below.refl _ _), hS.out _ (bdD (Below.refl _ _))⟩
        | (go_split_ands; exact ⟨nx (by assumption) hb1, hS.out _ (nx (by assumption) hb1)⟩))
      (first
        | (go_at_call 67; (with_reducible refine (refFmt_units _ H34.out hM).mono ?_); rintro e W1 ⟨rfl, hb1⟩))
    all_goals (go_wp2; go_ret; go_split_ands; exact ⟨by rw [← hend.out]; rfl, dn1 (by assumption)⟩)
def RtxOk (e : Ex) : Prop := ∀ (k : Int) (s : ByteArray) (m u : Int) (A : Option Addr) (n c : Nat) (w : World) (r : ByteArray), Hid (TIn (Lo w.heap.size) w ⟨k, s, m, u, A, n, c⟩ e) → Hid (okL e.pre) → e.cnt ≤ 24 → Hid (mkB e.txt = r) →
  Calls Tryz.prog 42 #[xe k s m u A n c] w fun x w' => x = .returned (.string r) ∧ Below w.heap.size w w'
/-- The text before kid j. -/
def tP (k : Int) (n : Nat) (l : List Ex) (j : Nat) : ByteArray := mkB (wrd k n ++ 40 :: txF (l.take j))
theorem tP_one {k : Int} {n : Nat} {l : List Ex} (h : 0 < l.length) : tP k n l 0 ++ mkB (l.getD 0 default).txt = tP k n l 1 := by
  unfold tP
  apply ba_ext
  rw [ba_data, mkB_data, mkB_data, mkB_data, show (1 : Nat) = 0 + 1 from rfl, take_snocX h]
  simp [txF, txM]
theorem tP_more {k : Int} {n : Nat} {l : List Ex} {j : Nat} (h : j < l.length) (h0 : 0 < j) : (tP k n l j ++ ⟨#[44, 32]⟩) ++ mkB (l.getD j default).txt = tP k n l (j + 1) := by
  unfold tP
  have hne : l.take j ≠ [] := by
    intro e
    have := congrArg List.length e
    rw [List.length_take, List.length_nil] at this
    omega
  apply ba_ext
  rw [ba_data, ba_data, mkB_data, mkB_data, mkB_data, take_snocX h, txF_snoc _ _ hne]
  simp
theorem tP_size {k : Int} {n : Nat} {l : List Ex} (h1 : 1 ≤ k) (hk : k ≤ (n : Int)) (hn : n ≤ 24) (hl : ∀ e ∈ l, e.txt.length ≤ 18 * e.cnt - 2) (hc : cntL l ≤ 24) (j : Nat) : (tP k n l j).size ≤ 500 := by
  unfold tP
  rw [mkB_size, List.length_append, List.length_cons]
  have a := wrd_len h1 hk hn
  have b := (txF_len (l := l.take j) (fun e he => hl e (List.mem_of_mem_take he))).1
  have c := cntL_take_le l j
  omega
set_option maxHeartbeats 8000000 in
set_option maxRecDepth 100000 in
theorem rtx_all : ∀ e : Ex, RtxOk e := by
  refine Ex.ind fun ek ea l ih => ?_
  intro k s m u A n c w r HT hok hc24 hr
  obtain ⟨es, em, eu⟩ := ea
  obtain ⟨a1, a2, a3, a4, b5, b6, b7⟩ := ks_at HT.out.1
  obtain rfl : k = ek := a1
  obtain rfl : s = es := a2
  obtain rfl : m = em := a3
  obtain rfl : u = eu := a4
  have e3 : n = l.length := b5
  have hcut := hok.out (.nd k (s, m, u) l) (by rw [Ex.pre]; simp)
  clear b5 b6 b7
  by_cases hk0 : k = 0
  · subst hk0
    have hat : atm (.nd 0 (s, m, u) l) = true := by
      rcases hcut with h | h
      · exfalso
        have := (grp_len h).2.1
        omega
      · exact h
    obtain ⟨_, _, hn1, hu1⟩ := atm_nd.1 hat
    exact rtx_atom s m u A n c w (Lib.hid hn1) (Lib.hid hu1) (by show _ = _; rw [← hr.out, Ex.txt, if_pos rfl])
  · have hgr : grp (.nd k (s, m, u) l) = true := by
      rcases hcut with h | h
      · exact h
      · exact absurd (atm_nd.1 h).1 hk0
    obtain ⟨hz, h1, h2⟩ := grp_len hgr
    have hln := cntL_len l
    have hcl : cntL l ≤ 23 := by rw [Ex.cnt] at hc24; omega
    have hn24 : n ≤ 24 := by omega
    have hkn : k ≤ (n : Int) := by omega
    have hn' : Hid (l.length = n) := e3.symm
    have hlen : ∀ e ∈ l, e.txt.length ≤ 18 * e.cnt - 2 := fun e he => by
      obtain ⟨q1, q2⟩ := vex_kids hok.out hc24 he
      exact txt_len e q1 q2
    have HSZ : Hid (∀ j, (tP k n l j).size ≤ 500) := fun j => tP_size h1 hkn hn24 hlen (by omega) j
    have HXL : Hid (∀ e ∈ l, (mkB e.txt).size ≤ 500) := fun e he => by rw [mkB_size]; have := hlen e he; have := cntL_le he; omega
    have b0 : (k == 0) = false := by rw [beq_eq_false_iff_ne]; exact hk0
    have HKR : Hid (KRd (Lo w.heap.size) w A l) := HT.out.2
    obtain ⟨D, hD⟩ : ∃ D, Hid (mkB (dec k.toNat) = D) := ⟨_, rfl⟩
    have hDs : D.size ≤ 4 := by rw [← hD.out, mkB_size]; have := dec_len4 (n := k.toNat) (by omega); omega
    have hn0 : ¬ 9223372036854775807 < D.size + 5 := by omega
    have hd0 : 0 ≤ k := by omega
    have hd1 : k < 10000 := by omega
    have hend : Hid (tP k n l n ++ ⟨#[41]⟩ = r) := by
      show _ = _
      rw [← hr.out, Ex.txt, if_neg hk0, hn'.out]
      unfold tP
      rw [List.take_of_length_le (by omega)]
      apply ba_ext
      rw [ba_data, mkB_data, mkB_data]
      simp
    have hne0 : ¬ 9223372036854775807 < (tP k n l n).size + 1 := by have := HSZ.out n; omega
    have HKB := Lib.hid (Blk.new w [.int .i64 k, .string s, .int .i64 m, .int .i64 u, .slice A n c] 28 rfl)
    clear hcut hgr hz h1 h2 hln e3 hr hlen hDs hne0
    by_cases e1 : k = (n : Int)
    · have HS0 : Hid (tP k n l 0 = ⟨#[97, 108, 108, 40]⟩) := by
        show _ = _
        unfold tP wrd
        rw [if_pos e1]
        rfl
      have b1 : (k == (n : Int)) = true := by rw [beq_iff_eq]; exact e1
      clear e1 hk0 hkn
      go_enter Tryz.func42, Tryz.ntmps42
      go_wp2_with (go_at_call 43; refine (decimal_str k _ hd0 hd1 hD).mono ?_; rintro x W1 ⟨rfl, hb1⟩; have hk1 := HKB.out.up hb1 (by simp); obtain ⟨x0, x1, x2, x3, x4⟩ := hk1.s5; have HK1 := Lib.hid hk1; have HB1 := Lib.hid (dn1 hb1); clear hb1 hk1)
      clear x0 x1 x2 x3 x4
      go_loopw [3, 4] (fun S i wr => ∃ (j : Nat), j ≤ n ∧ i = .int .i64 j ∧ S = .string (tP k n l j) ∧ Hid (Below w.heap.size w wr) ∧ Hid (Blk wr w.heap.size [.int .i64 k, .string s, .int .i64 m, .int .i64 u, .slice A n c])) (fun _ i _ => n - (intOf i).toNat)
      case atStart => exact ⟨0, by omega, rfl, by rw [HS0.out], HB1.out, HK1.out⟩
      case round =>
        obtain ⟨j, hj, rfl, rfl, hB, hK⟩ := hrel
        have q4 := hK.out.cell 4 rfl
        by_cases hlt : (j : Int) < (n : Int)
        · have hjl : j < l.length := by have := hn'.out; omega
          obtain ⟨g, o, ⟨k', s', m', u', A', n', c'⟩, rfl, hgb, hgs, ⟨z0, z1, z2, z3, z4⟩, hT'⟩ := (HKR.out.lo hB.out).at_ hjl
          have e5 : IntKind.i64.wrap ((j : Int) + 1) = (j : Int) + 1 := by rw [IntKind.wrap_i64]; omega
          have hmem := getD_memX hjl
          have IH := Lib.hid (ih _ hmem)
          have HKID := Lib.hid (vex_kids hok.out hc24 hmem)
          have hxl := HXL.out _ hmem
          have hone : j = 0 → tP k n l j ++ mkB (l.getD j default).txt = tP k n l (j + 1) := fun h => by subst h; exact tP_one hjl
          have hmor : 0 < j → (tP k n l j ++ ⟨#[44, 32]⟩) ++ mkB (l.getD j default).txt = tP k n l (j + 1) := fun h => tP_more hjl h
          have HONE := Lib.hid hone
          have HMOR := Lib.hid hmor
          clear hone hmor hmem
          obtain ⟨f, hf⟩ : ∃ f, Hid (l.getD j default = f) := ⟨_, rfl⟩
          rw [hf.out] at IH hT' HKID HONE HMOR hxl
          obtain ⟨X, hX⟩ : ∃ X, Hid (mkB f.txt = X) := ⟨_, rfl⟩
          rw [hX.out] at HONE HMOR hxl
          have HT' : Hid (TIn (Lo wr.heap.size) wr ⟨k', s', m', u', A', n', c'⟩ f) := hT'.mono (fun b h => Nat.lt_of_lt_of_le h hB.out.size)
          have HOK : Hid (okL f.pre) := HKID.out.1
          have hc24' : f.cnt ≤ 24 := HKID.out.2
          have hps := HSZ.out j
          have m1 : ¬ 9223372036854775807 < (tP k n l j).size + X.size := by omega
          have m2 : ¬ 9223372036854775807 < (tP k n l j).size + 2 := by omega
          have m3 : ¬ 9223372036854775807 < (tP k n l j).size + 2 + X.size := by omega
          have m4 : ¬ 9223372036854775807 < (tP k n l j ++ (⟨#[44, 32]⟩ : ByteArray)).size + X.size := by rw [ByteArray.size_append]; exact m3
          clear hT' hps hxl
          by_cases hj0 : 0 < (j : Int)
          · have HE := Lib.hid (HMOR.out (by omega))
            go_wp2_with (go_at_call 42; refine (IH.out k' s' m' u' A' n' c' _ X HT' HOK hc24' hX).mono ?_; rintro x W2 ⟨rfl, hb2⟩; have HB2 := Lib.hid hb2; clear hb2)
            go_roundw
            case rel => exact ⟨j + 1, by omega, by go_num, by rw [← HE.out], nx hB.out HB2.out, hK.out.up HB2.out hK.out.lt⟩
            case measure => simp [intOf]; omega
          · have HE := Lib.hid (HONE.out (by omega))
            go_wp2_with (go_at_call 42; refine (IH.out k' s' m' u' A' n' c' _ X HT' HOK hc24' hX).mono ?_; rintro x W2 ⟨rfl, hb2⟩; have HB2 := Lib.hid hb2; clear hb2)
            go_roundw
            case rel => exact ⟨j + 1, by omega, by go_num, by rw [← HE.out], nx hB.out HB2.out, hK.out.up HB2.out hK.out.lt⟩
            case measure => simp [intOf]; omega
        · have hjn : j = n := by omega
          have HE : Hid (tP k n l j ++ ⟨#[41]⟩ = r) := by rw [hjn]; exact hend.out
          have m5 : ¬ 9223372036854775807 < (tP k n l j).size + 1 := by have := HSZ.out j; omega
          clear hjn
          go_wp2
          go_ret
          exact ⟨by rw [← HE.out]; rfl, hB.out⟩
    · have b1 : (k == (n : Int)) = false := by rw [beq_eq_false_iff_ne]; exact e1
      by_cases e2 : k = 1
      · have HS0 : Hid (tP k n l 0 = ⟨#[97, 110, 121, 40]⟩) := by
          show _ = _
          unfold tP wrd
          rw [if_neg e1, if_pos e2]
          rfl
        have b2 : (k == 1) = true := by rw [beq_iff_eq]; exact e2
        clear e1 e2 hk0 hkn
        go_enter Tryz.func42, Tryz.ntmps42
        go_wp2_with (go_at_call 43; refine (decimal_str k _ hd0 hd1 hD).mono ?_; rintro x W1 ⟨rfl, hb1⟩; have hk1 := HKB.out.up hb1 (by simp); obtain ⟨x0, x1, x2, x3, x4⟩ := hk1.s5; have HK1 := Lib.hid hk1; have HB1 := Lib.hid (dn1 hb1); clear hb1 hk1)
        clear x0 x1 x2 x3 x4
        go_loopw [3, 4] (fun S i wr => ∃ (j : Nat), j ≤ n ∧ i = .int .i64 j ∧ S = .string (tP k n l j) ∧ Hid (Below w.heap.size w wr) ∧ Hid (Blk wr w.heap.size [.int .i64 k, .string s, .int .i64 m, .int .i64 u, .slice A n c])) (fun _ i _ => n - (intOf i).toNat)
        case atStart => exact ⟨0, by omega, rfl, by rw [HS0.out], HB1.out, HK1.out⟩
        case round =>
          obtain ⟨j, hj, rfl, rfl, hB, hK⟩ := hrel
          have q4 := hK.out.cell 4 rfl
          by_cases hlt : (j : Int) < (n : Int)
          · have hjl : j < l.length := by have := hn'.out; omega
            obtain ⟨g, o, ⟨k', s', m', u', A', n', c'⟩, rfl, hgb, hgs, ⟨z0, z1, z2, z3, z4⟩, hT'⟩ := (HKR.out.lo hB.out).at_ hjl
            have e5 : IntKind.i64.wrap ((j : Int) + 1) = (j : Int) + 1 := by rw [IntKind.wrap_i64]; omega
            have hmem := getD_memX hjl
            have IH := Lib.hid (ih _ hmem)
            have HKID := Lib.hid (vex_kids hok.out hc24 hmem)
            have hxl := HXL.out _ hmem
            have hone : j = 0 → tP k n l j ++ mkB (l.getD j default).txt = tP k n l (j + 1) := fun h => by subst h; exact tP_one hjl
            have hmor : 0 < j → (tP k n l j ++ ⟨#[44, 32]⟩) ++ mkB (l.getD j default).txt = tP k n l (j + 1) := fun h => tP_more hjl h
            have HONE := Lib.hid hone
            have HMOR := Lib.hid hmor
            clear hone hmor hmem
            obtain ⟨f, hf⟩ : ∃ f, Hid (l.getD j default = f) := ⟨_, rfl⟩
            rw [hf.out] at IH hT' HKID HONE HMOR hxl
            obtain ⟨X, hX⟩ : ∃ X, Hid (mkB f.txt = X) := ⟨_, rfl⟩
            rw [hX.out] at HONE HMOR hxl
            have HT' : Hid (TIn (Lo wr.heap.size) wr ⟨k', s', m', u', A', n', c'⟩ f) := hT'.mono (fun b h => Nat.lt_of_lt_of_le h hB.out.size)
            have HOK : Hid (okL f.pre) := HKID.out.1
            have hc24' : f.cnt ≤ 24 := HKID.out.2
            have hps := HSZ.out j
            have m1 : ¬ 9223372036854775807 < (tP k n l j).size + X.size := by omega
            have m2 : ¬ 9223372036854775807 < (tP k n l j).size + 2 := by omega
            have m3 : ¬ 9223372036854775807 < (tP k n l j).size + 2 + X.size := by omega
            have m4 : ¬ 9223372036854775807 < (tP k n l j ++ (⟨#[44, 32]⟩ : ByteArray)).size + X.size := by rw [ByteArray.size_append]; exact m3
            clear hT' hps hxl
            by_cases hj0 : 0 < (j : Int)
            · have HE := Lib.hid (HMOR.out (by omega))
              go_wp2_with (go_at_call 42; refine (IH.out k' s' m' u' A' n' c' _ X HT' HOK hc24' hX).mono ?_; rintro x W2 ⟨rfl, hb2⟩; have HB2 := Lib.hid hb2; clear hb2)
              go_roundw
              case rel => exact ⟨j + 1, by omega, by go_num, by rw [← HE.out], nx hB.out HB2.out, hK.out.up HB2.out hK.out.lt⟩
              case measure => simp [intOf]; omega
            · have HE := Lib.hid (HONE.out (by omega))
              go_wp2_with (go_at_call 42; refine (IH.out k' s' m' u' A' n' c' _ X HT' HOK hc24' hX).mono ?_; rintro x W2 ⟨rfl, hb2⟩; have HB2 := Lib.hid hb2; clear hb2)
              go_roundw
              case rel => exact ⟨j + 1, by omega, by go_num, by rw [← HE.out], nx hB.out HB2.out, hK.out.up HB2.out hK.out.lt⟩
              case measure => simp [intOf]; omega
          · have hjn : j = n := by omega
            have HE : Hid (tP k n l j ++ ⟨#[41]⟩ = r) := by rw [hjn]; exact hend.out
            have m5 : ¬ 9223372036854775807 < (tP k n l j).size + 1 := by have := HSZ.out j; omega
            clear hjn
            go_wp2
            go_ret
            exact ⟨by rw [← HE.out]; rfl, hB.out⟩
      · have HS0 : Hid (tP k n l 0 = D ++ ⟨#[32, 111, 102, 32, 40]⟩) := by
          show _ = _
          unfold tP wrd
          rw [if_neg e1, if_neg e2]
          apply ba_ext
          rw [ba_data, ← hD.out, mkB_data, mkB_data]
          simp [txF]
        have b2 : (k == 1) = false := by rw [beq_eq_false_iff_ne]; exact e2
        clear e1 e2 hk0 hkn
        go_enter Tryz.func42, Tryz.ntmps42
        go_wp2_with (go_at_call 43; refine (decimal_str k _ hd0 hd1 hD).mono ?_; rintro x W1 ⟨rfl, hb1⟩; have hk1 := HKB.out.up hb1 (by simp); obtain ⟨x0, x1, x2, x3, x4⟩ := hk1.s5; have HK1 := Lib.hid hk1; have HB1 := Lib.hid (dn1 hb1); clear hb1 hk1)
        clear x0 x1 x2 x3 x4
        go_loopw [3, 4] (fun S i wr => ∃ (j : Nat), j ≤ n ∧ i = .int .i64 j ∧ S = .string (tP k n l j) ∧ Hid (Below w.heap.size w wr) ∧ Hid (Blk wr w.heap.size [.int .i64 k, .string s, .int .i64 m, .int .i64 u, .slice A n c])) (fun _ i _ => n - (intOf i).toNat)
        case atStart => exact ⟨0, by omega, rfl, by rw [HS0.out], HB1.out, HK1.out⟩
        case round =>
          obtain ⟨j, hj, rfl, rfl, hB, hK⟩ := hrel
          have q4 := hK.out.cell 4 rfl
          by_cases hlt : (j : Int) < (n : Int)
          · have hjl : j < l.length := by have := hn'.out; omega
            obtain ⟨g, o, ⟨k', s', m', u', A', n', c'⟩, rfl, hgb, hgs, ⟨z0, z1, z2, z3, z4⟩, hT'⟩ := (HKR.out.lo hB.out).at_ hjl
            have e5 : IntKind.i64.wrap ((j : Int) + 1) = (j : Int) + 1 := by rw [IntKind.wrap_i64]; omega
            have hmem := getD_memX hjl
            have IH := Lib.hid (ih _ hmem)
            have HKID := Lib.hid (vex_kids hok.out hc24 hmem)
            have hxl := HXL.out _ hmem
            have hone : j = 0 → tP k n l j ++ mkB (l.getD j default).txt = tP k n l (j + 1) := fun h => by subst h; exact tP_one hjl
            have hmor : 0 < j → (tP k n l j ++ ⟨#[44, 32]⟩) ++ mkB (l.getD j default).txt = tP k n l (j + 1) := fun h => tP_more hjl h
            have HONE := Lib.hid hone
            have HMOR := Lib.hid hmor
            clear hone hmor hmem
            obtain ⟨f, hf⟩ : ∃ f, Hid (l.getD j default = f) := ⟨_, rfl⟩
            rw [hf.out] at IH hT' HKID HONE HMOR hxl
            obtain ⟨X, hX⟩ : ∃ X, Hid (mkB f.txt = X) := ⟨_, rfl⟩
            rw [hX.out] at HONE HMOR hxl
            have HT' : Hid (TIn (Lo wr.heap.size) wr ⟨k', s', m', u', A', n', c'⟩ f) := hT'.mono (fun b h => Nat.lt_of_lt_of_le h hB.out.size)
            have HOK : Hid (okL f.pre) := HKID.out.1
            have hc24' : f.cnt ≤ 24 := HKID.out.2
            have hps := HSZ.out j
            have m1 : ¬ 9223372036854775807 < (tP k n l j).size + X.size := by omega
            have m2 : ¬ 9223372036854775807 < (tP k n l j).size + 2 := by omega
            have m3 : ¬ 9223372036854775807 < (tP k n l j).size + 2 + X.size := by omega
            have m4 : ¬ 9223372036854775807 < (tP k n l j ++ (⟨#[44, 32]⟩ : ByteArray)).size + X.size := by rw [ByteArray.size_append]; exact m3
            clear hT' hps hxl
            by_cases hj0 : 0 < (j : Int)
            · have HE := Lib.hid (HMOR.out (by omega))
              go_wp2_with (go_at_call 42; refine (IH.out k' s' m' u' A' n' c' _ X HT' HOK hc24' hX).mono ?_; rintro x W2 ⟨rfl, hb2⟩; have HB2 := Lib.hid hb2; clear hb2)
              go_roundw
              case rel => exact ⟨j + 1, by omega, by go_num, by rw [← HE.out], nx hB.out HB2.out, hK.out.up HB2.out hK.out.lt⟩
              case measure => simp [intOf]; omega
            · have HE := Lib.hid (HONE.out (by omega))
              go_wp2_with (go_at_call 42; refine (IH.out k' s' m' u' A' n' c' _ X HT' HOK hc24' hX).mono ?_; rintro x W2 ⟨rfl, hb2⟩; have HB2 := Lib.hid hb2; clear hb2)
              go_roundw
              case rel => exact ⟨j + 1, by omega, by go_num, by rw [← HE.out], nx hB.out HB2.out, hK.out.up HB2.out hK.out.lt⟩
              case measure => simp [intOf]; omega
          · have hjn : j = n := by omega
            have HE : Hid (tP k n l j ++ ⟨#[41]⟩ = r) := by rw [hjn]; exact hend.out
            have m5 : ¬ 9223372036854775807 < (tP k n l j).size + 1 := by have := HSZ.out j; omega
            clear hjn
            go_wp2
            go_ret
            exact ⟨by rw [← HE.out]; rfl, hB.out⟩
theorem refText_is {e : Ex} (k : Int) (s : ByteArray) (m u : Int) (A : Option Addr) (n c : Nat) (w : World) (hT : TIn (Lo w.heap.size) w ⟨k, s, m, u, A, n, c⟩ e) (hv : Vex e) {r : ByteArray} (hr : Hid (mkB e.txt = r)) :
    Calls Tryz.prog 42 #[xe k s m u A n c] w fun x w' => x = .returned (.string r) ∧ Below w.heap.size w w' := by
  obtain ⟨_, h2, l, hl⟩ := hv
  exact rtx_all e k s m u A n c w r (Lib.hid hT) (Lib.hid (okL_of hl)) h2 hr
set_option maxHeartbeats 1000000 in
set_option maxRecDepth 8000 in
theorem refFormatExpr_yes {e : Ex} (k : Int) (s : ByteArray) (m u : Int) (A : Option Addr) (n c : Nat) (w : World) (hT : TIn (Lo w.heap.size) w ⟨k, s, m, u, A, n, c⟩ e) (hv : Hid (Vex e)) {r : ByteArray} (hr : Hid (mkB e.txt = r)) :
    Calls Tryz.prog 21 #[xe k s m u A n c] w fun x w' => x = .returned (.string r) ∧ Below w.heap.size w w' := by
  have HT := Lib.hid hT
  have hb : Hid (vexB e = true) := vexB_iff.2 hv.out
  have HK1 := Lib.hid (Blk.new w [.int .i64 k, .string s, .int .i64 m, .int .i64 u, .slice A n c] 28 rfl)
  clear hT
  go_enter Tryz.func21, Tryz.ntmps21
  go_wp2_with (first
    | (go_at_call 12; refine (refValidExpr_is (e := e) k s m u A n c _ (HT.out.grow _) hb).mono ?_; rintro x W1 ⟨rfl, hb1⟩; obtain ⟨x0, x1, x2, x3, x4⟩ := (HK1.out.up hb1 (by simp)).s5; have HT1 := Lib.hid ((HT.out.grow _).up hb1); have HB1 := Lib.hid (dn1 hb1); clear hb1)
    | (go_at_call 42; refine (refText_is (e := e) k s m u A n c _ HT1.out hv.out hr).mono ?_; rintro x W2 ⟨rfl, hb2⟩; have HB2 := Lib.hid (nx HB1.out hb2); clear hb2))
  go_ret
  exact ⟨rfl, HB2.out⟩
set_option maxHeartbeats 1000000 in
set_option maxRecDepth 8000 in
theorem refFormatExpr_no {e : Ex} (k : Int) (s : ByteArray) (m u : Int) (A : Option Addr) (n c : Nat) (w : World) (hT : TIn (Lo w.heap.size) w ⟨k, s, m, u, A, n, c⟩ e) (hv : Hid (¬ Vex e)) :
    Calls Tryz.prog 21 #[xe k s m u A n c] w fun x w' => x = .returned (.string ⟨#[]⟩) ∧ Below w.heap.size w w' := by
  have HT := Lib.hid hT
  have hb : Hid (vexB e = false) := vexB_no.2 hv.out
  clear hT
  go_enter Tryz.func21, Tryz.ntmps21
  go_wp2_with (go_at_call 12; refine (refValidExpr_is (e := e) k s m u A n c _ (HT.out.grow _) hb).mono ?_; rintro x W1 ⟨rfl, hb1⟩; have HB1 := Lib.hid (dn1 hb1); clear hb1)
  go_ret
  exact ⟨rfl, HB1.out⟩
set_option maxHeartbeats 1000000 in
set_option maxRecDepth 8000 in
theorem refFormat_no {e : Ex} (k : Int) (s : ByteArray) (m u : Int) (A : Option Addr) (n c : Nat) (p t : Int) (w : World) (hT : TIn (Lo w.heap.size) w ⟨k, s, m, u, A, n, c⟩ e) (hv : Hid (¬ Vrq (e, p, t))) :
    Calls Tryz.prog 19 #[rq k s m u A n c p t] w fun x w' => x = .returned (.string ⟨#[]⟩) ∧ Below w.heap.size w w' := by
  have HT := Lib.hid hT
  have hb : Hid (vrqB e p t = false) := by
    show _ = _
    cases h : vrqB e p t with
    | false => rfl
    | true => exact absurd (vrqB_iff.1 h) hv.out
  clear hT
  go_enter Tryz.func19, Tryz.ntmps19
  go_wp2_with (go_at_call 14; refine (refValid7_is (e := e) k s m u A n c p t _ (HT.out.grow _) hb).mono ?_; rintro x W1 ⟨rfl, hb1⟩; have HB1 := Lib.hid (dn1 hb1); clear hb1)
  go_ret
  exact ⟨rfl, HB1.out⟩
set_option maxHeartbeats 4000000 in
set_option maxRecDepth 8000 in
theorem refFormat_yes {e : Ex} (k : Int) (s : ByteArray) (m u : Int) (A : Option Addr) (n c : Nat) (p t : Int) (w : World) (hT : TIn (Lo w.heap.size) w ⟨k, s, m, u, A, n, c⟩ e) (hv : Hid (Vrq (e, p, t))) {r : ByteArray} (hr : Hid (mkB (txR (e, p, t)) = r)) :
    Calls Tryz.prog 19 #[rq k s m u A n c p t] w fun x w' => x = .returned (.string r) ∧ Below w.heap.size w w' := by
  have HT := Lib.hid hT
  have hb : Hid (vrqB e p t = true) := vrqB_iff.2 hv.out
  have HK1 := Lib.hid (Blk.new w [.int .i64 k, .string s, .int .i64 m, .int .i64 u, .slice A n c, .int .i64 p, .int .i64 t] 30 rfl)
  obtain ⟨hve, hp0, hp7, ht0, ht1⟩ := hv.out
  have HVE := Lib.hid hve
  have hp0 : 0 ≤ p := hp0
  have hp7 : p ≤ 7 := hp7
  have ht0 : 0 ≤ t := ht0
  have ht1 : t ≤ 1000 := ht1
  obtain ⟨X, hX⟩ : ∃ X, Hid (mkB e.txt = X) := ⟨_, rfl⟩
  obtain ⟨P, hP⟩ : ∃ P, Hid (mkB (dec p.toNat) = P) := ⟨_, rfl⟩
  obtain ⟨T, hTt⟩ : ∃ T, Hid (mkB (dec t.toNat) = T) := ⟨_, rfl⟩
  have hXs : X.size ≤ 500 := by
    rw [← hX.out, mkB_size]
    obtain ⟨_, h2, l, hl⟩ := hve
    have := txt_len e (okL_of hl) h2
    have h2 : e.cnt ≤ 24 := h2
    omega
  have hPs : P.size ≤ 4 := by rw [← hP.out, mkB_size]; have := dec_len4 (n := p.toNat) (by omega); omega
  have hTs : T.size ≤ 4 := by rw [← hTt.out, mkB_size]; have := dec_len4 (n := t.toNat) (by omega); omega
  have hp4 : p < 10000 := by omega
  have ht4 : t < 10000 := by omega
  have b1 : ¬ 9223372036854775807 < X.size + 6 := by omega
  have b2 : ¬ 9223372036854775807 < X.size + 6 + P.size := by omega
  have b3 : ¬ 9223372036854775807 < X.size + 7 := by omega
  have b4 : ¬ 9223372036854775807 < X.size + 7 + T.size := by omega
  have b5 : ¬ 9223372036854775807 < X.size + 6 + P.size + 7 := by omega
  have b6 : ¬ 9223372036854775807 < X.size + 6 + P.size + 7 + T.size := by omega
  have hend : Hid (r = mkB (e.txt ++ ((if p = 0 then [] else [32, 112, 114, 105, 111, 32] ++ dec p.toNat) ++ (if t = 0 then [] else [32, 108, 105, 109, 105, 116, 32] ++ dec t.toNat)))) := by
    show _ = _
    rw [← hr.out]
    unfold txR txS
    rfl
  clear hT hve hv hr
  by_cases e1 : p = 0
  · have c1 : (p == 0) = true := by rw [beq_iff_eq]; exact e1
    have c2 : (p != 0) = false := by rw [bne_eq_false_iff_eq]; exact e1
    by_cases e2 : t = 0
    · have c3 : (t == 0) = true := by rw [beq_iff_eq]; exact e2
      have c4 : (t != 0) = false := by rw [bne_eq_false_iff_eq]; exact e2
      have hfin : Hid (X = r) := by
        show _ = _
        rw [hend.out, if_pos e1, if_pos e2, ← hX.out]
        simp
      clear e1 e2 hend
      go_enter Tryz.func19, Tryz.ntmps19
      have MK := Lib.hid trivial
      go_wp2_with (first
        | (go_at_call 14; refine (refValid7_is (e := e) k s m u A n c p t _ (HT.out.grow _) hb).mono ?_; rintro x W1 ⟨rfl, hb1⟩; have hk := HK1.out.up hb1 (by simp); obtain ⟨x0, x1, x2, x3, x4, x5, x6⟩ := hk.s7; have HK2 := Lib.hid hk; have HT1 := Lib.hid ((HT.out.grow _).up hb1); have HB1 := Lib.hid (dn1 hb1); clear hb1 hk)
        | (go_at_call 42; refine (refText_is (e := e) k s m u A n c _ HT1.out HVE.out hX).mono ?_; rintro x W2 ⟨rfl, hb2⟩; clear x0 x1 x2 x3 x4 x5 x6; have hk := HK2.out.up hb2 HK2.out.lt; obtain ⟨x0, x1, x2, x3, x4, x5, x6⟩ := hk.s7; have HK3 := Lib.hid hk; have HBz := Lib.hid (nx HB1.out hb2); clear hb2 hk)
        | (go_at_call 43; refine (decimal_str t _ ht0 ht4 hTt).mono ?_; rintro x W4 ⟨rfl, hb4⟩; have HBy := Lib.hid (nx HBz.out hb4); clear HBz; have HBz := HBy; clear hb4))
      go_ret
      exact ⟨by rw [← hfin.out]; rfl, HBz.out⟩
    · have c3 : (t == 0) = false := by rw [beq_eq_false_iff_ne]; exact e2
      have c4 : (t != 0) = true := by rw [bne_iff_ne]; exact e2
      have hfin : Hid ((X ++ ⟨#[32, 108, 105, 109, 105, 116, 32]⟩) ++ T = r) := by
        show _ = _
        rw [hend.out, if_pos e1, if_neg e2, ← hX.out, ← hTt.out]
        apply ba_ext
        rw [ba_data, ba_data, mkB_data, mkB_data, mkB_data]
        simp
      clear e1 e2 hend
      go_enter Tryz.func19, Tryz.ntmps19
      have MK := Lib.hid trivial
      go_wp2_with (first
        | (go_at_call 14; refine (refValid7_is (e := e) k s m u A n c p t _ (HT.out.grow _) hb).mono ?_; rintro x W1 ⟨rfl, hb1⟩; have hk := HK1.out.up hb1 (by simp); obtain ⟨x0, x1, x2, x3, x4, x5, x6⟩ := hk.s7; have HK2 := Lib.hid hk; have HT1 := Lib.hid ((HT.out.grow _).up hb1); have HB1 := Lib.hid (dn1 hb1); clear hb1 hk)
        | (go_at_call 42; refine (refText_is (e := e) k s m u A n c _ HT1.out HVE.out hX).mono ?_; rintro x W2 ⟨rfl, hb2⟩; clear x0 x1 x2 x3 x4 x5 x6; have hk := HK2.out.up hb2 HK2.out.lt; obtain ⟨x0, x1, x2, x3, x4, x5, x6⟩ := hk.s7; have HK3 := Lib.hid hk; have HBz := Lib.hid (nx HB1.out hb2); clear hb2 hk)
        | (go_at_call 43; refine (decimal_str t _ ht0 ht4 hTt).mono ?_; rintro x W4 ⟨rfl, hb4⟩; have HBy := Lib.hid (nx HBz.out hb4); clear HBz; have HBz := HBy; clear hb4))
      go_ret
      exact ⟨by rw [← hfin.out]; rfl, HBz.out⟩
  · have c1 : (p == 0) = false := by rw [beq_eq_false_iff_ne]; exact e1
    have c2 : (p != 0) = true := by rw [bne_iff_ne]; exact e1
    by_cases e2 : t = 0
    · have c3 : (t == 0) = true := by rw [beq_iff_eq]; exact e2
      have c4 : (t != 0) = false := by rw [bne_eq_false_iff_eq]; exact e2
      have hfin : Hid ((X ++ ⟨#[32, 112, 114, 105, 111, 32]⟩) ++ P = r) := by
        show _ = _
        rw [hend.out, if_neg e1, if_pos e2, ← hX.out, ← hP.out]
        apply ba_ext
        rw [ba_data, ba_data, mkB_data, mkB_data, mkB_data]
        simp
      clear e1 e2 hend
      go_enter Tryz.func19, Tryz.ntmps19
      have MK := Lib.hid trivial
      go_wp2_with (first
        | (go_at_call 14; refine (refValid7_is (e := e) k s m u A n c p t _ (HT.out.grow _) hb).mono ?_; rintro x W1 ⟨rfl, hb1⟩; have hk := HK1.out.up hb1 (by simp); obtain ⟨x0, x1, x2, x3, x4, x5, x6⟩ := hk.s7; have HK2 := Lib.hid hk; have HT1 := Lib.hid ((HT.out.grow _).up hb1); have HB1 := Lib.hid (dn1 hb1); clear hb1 hk)
        | (go_at_call 42; refine (refText_is (e := e) k s m u A n c _ HT1.out HVE.out hX).mono ?_; rintro x W2 ⟨rfl, hb2⟩; clear x0 x1 x2 x3 x4 x5 x6; have hk := HK2.out.up hb2 HK2.out.lt; obtain ⟨x0, x1, x2, x3, x4, x5, x6⟩ := hk.s7; have HK3 := Lib.hid hk; have HBz := Lib.hid (nx HB1.out hb2); clear hb2 hk)
        | (go_at_call 43; clear MK; refine (decimal_str p _ hp0 hp4 hP).mono ?_; rintro x W3 ⟨rfl, hb3⟩; clear x0 x1 x2 x3 x4 x5 x6; have hk := HK3.out.up hb3 HK3.out.lt; obtain ⟨x0, x1, x2, x3, x4, x5, x6⟩ := hk.s7; have HBw := Lib.hid (nx HBz.out hb3); clear HBz; have HBz := HBw; clear HBw hb3 hk)
        | (go_at_call 43; refine (decimal_str t _ ht0 ht4 hTt).mono ?_; rintro x W4 ⟨rfl, hb4⟩; have HBy := Lib.hid (nx HBz.out hb4); clear HBz; have HBz := HBy; clear hb4))
      go_ret
      exact ⟨by rw [← hfin.out]; rfl, HBz.out⟩
    · have c3 : (t == 0) = false := by rw [beq_eq_false_iff_ne]; exact e2
      have c4 : (t != 0) = true := by rw [bne_iff_ne]; exact e2
      have hfin : Hid ((((X ++ ⟨#[32, 112, 114, 105, 111, 32]⟩) ++ P) ++ ⟨#[32, 108, 105, 109, 105, 116, 32]⟩) ++ T = r) := by
        show _ = _
        rw [hend.out, if_neg e1, if_neg e2, ← hX.out, ← hP.out, ← hTt.out]
        apply ba_ext
        rw [ba_data, ba_data, ba_data, ba_data, mkB_data, mkB_data, mkB_data, mkB_data]
        simp
      clear e1 e2 hend
      go_enter Tryz.func19, Tryz.ntmps19
      have MK := Lib.hid trivial
      go_wp2_with (first
        | (go_at_call 14; refine (refValid7_is (e := e) k s m u A n c p t _ (HT.out.grow _) hb).mono ?_; rintro x W1 ⟨rfl, hb1⟩; have hk := HK1.out.up hb1 (by simp); obtain ⟨x0, x1, x2, x3, x4, x5, x6⟩ := hk.s7; have HK2 := Lib.hid hk; have HT1 := Lib.hid ((HT.out.grow _).up hb1); have HB1 := Lib.hid (dn1 hb1); clear hb1 hk)
        | (go_at_call 42; refine (refText_is (e := e) k s m u A n c _ HT1.out HVE.out hX).mono ?_; rintro x W2 ⟨rfl, hb2⟩; clear x0 x1 x2 x3 x4 x5 x6; have hk := HK2.out.up hb2 HK2.out.lt; obtain ⟨x0, x1, x2, x3, x4, x5, x6⟩ := hk.s7; have HK3 := Lib.hid hk; have HBz := Lib.hid (nx HB1.out hb2); clear hb2 hk)
        | (go_at_call 43; clear MK; refine (decimal_str p _ hp0 hp4 hP).mono ?_; rintro x W3 ⟨rfl, hb3⟩; clear x0 x1 x2 x3 x4 x5 x6; have hk := HK3.out.up hb3 HK3.out.lt; obtain ⟨x0, x1, x2, x3, x4, x5, x6⟩ := hk.s7; have HBw := Lib.hid (nx HBz.out hb3); clear HBz; have HBz := HBw; clear HBw hb3 hk)
        | (go_at_call 43; refine (decimal_str t _ ht0 ht4 hTt).mono ?_; rintro x W4 ⟨rfl, hb4⟩; have HBy := Lib.hid (nx HBz.out hb4); clear HBz; have HBz := HBy; clear hb4))
      go_ret
      exact ⟨by rw [← hfin.out]; rfl, HBz.out⟩
end Go.Proofs.YtlokcmbkkfjlkaaGreatDoor
