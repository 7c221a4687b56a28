/- FormulaPure walked. -/
import Derived.Test.YtecipjjnbikheaaFlw
import Derived.Test.YtecipjjnbikheaaTex
import Derived.Laws.IdiomStrings
namespace Go.Proofs.Ytecipjjnbikheaa
open Go.RowKit
set_option linter.unusedVariables false
set_option linter.unusedSimpArgs false
/-- The i-th small letter as a name. -/
def chr1 (i : Nat) : ByteArray := ⟨#[UInt8.ofNat (97 + i)]⟩
def purK (n : Nat) : List Ex := (List.range n).map fun i => atE (chr1 i)
def purE (n : Nat) (k : Int) : Ex := .nd k z3 (purK n)
def purL (n : Nat) : List A3 := (List.range n).map fun i => (chr1 i, 3, 0)
def purW (n k : Nat) : Int := if k = n then 2 else if k = 1 then 3 else 4
theorem pur_cls : ((List.range 9).all fun n => (List.range 9).all fun k => decide (n < 2) || decide (k < 1) || decide (n < k) || (decide (cls (purE n k) (purL n) = purW n k) && decide ((purE n k).dp ≤ 4) && decide ((purE n k).cnt ≤ 24) && grp (purE n k))) = true := by kernel_rfl
theorem pur_at {n k : Nat} (hn : 2 ≤ n) (h8 : n ≤ 8) (h1 : 1 ≤ k) (hk : k ≤ n) : cls (purE n k) (purL n) = purW n k ∧ (purE n k).dp ≤ 4 ∧ (purE n k).cnt ≤ 24 ∧ grp (purE n k) = true := by
  have := List.all_eq_true.1 (List.all_eq_true.1 pur_cls n (List.mem_range.2 (by omega))) k (List.mem_range.2 (by omega))
  rw [decide_eq_false (by omega), decide_eq_false (by omega), decide_eq_false (by omega), Bool.false_or, Bool.false_or, Bool.false_or, Bool.and_eq_true, Bool.and_eq_true, Bool.and_eq_true, decide_eq_true_eq, decide_eq_true_eq, decide_eq_true_eq] at this
  exact ⟨this.1.1.1, this.1.1.2, this.1.2, this.2⟩
theorem chr_nam : ((List.range 8).all fun i => ltr (byt (chr1 i) 0) && prt (byt (chr1 i) 0) && !rsv (chr1 i) && (List.range i).all fun j => !decide (chr1 j = chr1 i)) = true := by kernel_rfl
theorem chr_is {i : Nat} (h : i < 8) : Nam (chr1 i) ∧ ∀ j, j < i → chr1 j ≠ chr1 i := by
  have := List.all_eq_true.1 chr_nam i (List.mem_range.2 h)
  rw [Bool.and_eq_true, Bool.and_eq_true, Bool.and_eq_true, Bool.not_eq_true'] at this
  refine ⟨nam1 rfl this.1.1.1 this.1.1.2 this.1.2, fun j hj => ?_⟩
  have h2 := List.all_eq_true.1 this.2 j (List.mem_range.2 hj)
  exact of_decide_eq_false (by simpa using h2)
theorem pur_vld : ∀ (m j : Nat), j + m ≤ 8 → vld ((List.range' j m).map fun i => atE (chr1 i)) (purL j) = some (purL (j + m))
  | 0, j, _ => by simp [vld]
  | m + 1, j, h => by
    have hn := (chr_is (i := j) (by omega)).1
    have hnot : ∀ b ∈ purL j, b.1 ≠ chr1 j := by
      intro b hb
      simp only [purL, List.mem_map, List.mem_range] at hb
      obtain ⟨i, hi, rfl⟩ := hb
      exact (chr_is (i := j) (by omega)).2 i hi
    have hi : incl (purL j) (chr1 j, 3, 0) = (purL (j + 1), 0) := by
      unfold incl
      rcases scan_cases (purL j) (chr1 j, 3, 0) with ⟨g1, g2⟩ | ⟨g1, b, g2, g3, g4⟩ | ⟨g1, g2⟩
      · exact absurd rfl (hnot _ g2)
      · exact absurd g3 (hnot _ g2)
      · rw [g1]
        have : ¬ (purL j).length = 8 := by simp [purL]; omega
        simp only [if_neg this]
        simp [purL, List.range_succ]
    rw [List.range'_succ, List.map_cons]
    unfold atE
    rw [vld_one _ hn (show usb 3 0 = true by decide), hi, if_pos rfl]
    have := pur_vld m (j + 1) (by omega)
    unfold atE at this
    rw [this]
    rw [show j + 1 + m = j + (m + 1) by omega]
theorem pur_preL : ∀ l : List ByteArray, preL (l.map atE) = l.map atE
  | [] => by simp [preL]
  | s :: r => by rw [List.map_cons, preL, pur_preL r]; unfold atE; rw [Ex.pre, preL]; rfl
theorem pur_vl {n k : Nat} (hn : 2 ≤ n) (h8 : n ≤ 8) (h1 : 1 ≤ k) (hk : k ≤ n) : VL (purE n k) (purL n) := by
  obtain ⟨_, a1, a2, a3⟩ := pur_at hn h8 h1 hk
  have hv : vld (purE n k).pre [] = some (purL n) := by
    unfold purE at a3 ⊢
    rw [Ex.pre, vld, if_pos a3]
    have e : purK n = ((List.range n).map chr1).map atE := by simp [purK]
    rw [e, pur_preL, List.map_map]
    have := pur_vld n 0 (by omega)
    rw [Nat.zero_add, ← List.range_eq_range'] at this
    exact this
  exact ⟨⟨a1, a2, _, hv⟩, hv⟩
theorem u8_small {n : Int} (h0 : 0 ≤ n) (h1 : n < 128) : IntKind.u8.wrap n = n := by
  have hb : IntKind.u8.bits = 8 := rfl
  unfold IntKind.wrap
  simp [hb]
  omega
/-- One byte as a string. -/
theorem chr_conv {j : Nat} (hj : j < 8) (W : World) (g : Nat) (hc : W.cell? ⟨g, 0, none⟩ = some (.int .u8 (97 + (j : Int)))) : (convert 48 9 (.slice (some ⟨g, 0, none⟩) 1 1)).run Try.prog W = .ok (.string (chr1 j)) W := by
  have h := run_convert_bytes_back (P := Try.prog) W 48 9 5 ⟨g, 0, none⟩ 1 [UInt8.ofNat (97 + j)] Try.underlying48 Try.underlying5 Try.underlying9 (fun i hi => by
    obtain rfl : i = 0 := by simpa using hi
    have e : ((UInt8.ofNat (97 + j)).toNat : Int) = 97 + (j : Int) := by
      rw [UInt8.toNat_ofNat']
      omega
    show W.cell? ⟨g, 0, none⟩ = some (.int .u8 ((UInt8.ofNat (97 + j)).toNat : Int))
    rw [e]
    exact hc)
  exact h
theorem purK_succ (j : Nat) : purK (j + 1) = purK j ++ [atE (chr1 j)] := by simp [purK, List.range_succ]
set_option maxHeartbeats 8000000 in
set_option maxRecDepth 100000 in
theorem FormulaPure_walk (a0 a1 : Int) (w : World) (w0 : (Lit.int .i64 a0).wf = true) (w1 : (Lit.int .i64 a1).wf = true) :
    Calls Try.prog 10 #[.int .i64 a0, .int .i64 a1] w fun x w' => x = .returned (.bool true) ∧ Below w.heap.size w w' := by
  clear w0 w1
  by_cases hc : 2 ≤ a0 ∧ a0 ≤ 8 ∧ 1 ≤ a1 ∧ a1 ≤ a0
  · obtain ⟨hq1, hq2, hq3, hq4⟩ := hc
    obtain ⟨n, rfl⟩ : ∃ n : Nat, a0 = n := ⟨a0.toNat, by omega⟩
    obtain ⟨k, rfl⟩ : ∃ k : Nat, a1 = k := ⟨a1.toNat, by omega⟩
    have hK0 := Blk.new w [.int .i64 (k : Int), .string ⟨#[]⟩, .int .i64 0, .int .i64 0, .slice none 0 0] 28 rfl
    have HK0 := Lib.hid hK0
    have HB0 := Lib.hid (newB w (.cells #[.int .i64 (k : Int), .string ⟨#[]⟩, .int .i64 0, .int .i64 0, .slice none 0 0] 28))
    have d1 : decide ((n : Int) < 2) = false := decide_eq_false (by omega)
    have d2 : decide (8 < (n : Int)) = false := decide_eq_false (by omega)
    have d3 : decide ((k : Int) < 1) = false := decide_eq_false (by omega)
    have d4 : decide (n < k) = false := decide_eq_false (by omega)
    have hnk : Hid (2 ≤ n ∧ n ≤ 8 ∧ 1 ≤ k ∧ k ≤ n) := Lib.hid (by omega)
    clear hK0
    go_enter Try.func10, Try.ntmps10
    go_wp2
    go_loopw [6] (fun i wr => ∃ (j : Nat) (vs : List XV) (A2 : Option Addr) (nn2 c2 : Nat), j ≤ n ∧ i = .int .i64 j ∧ Hid (KT (w.heap.size + 1) w.heap.size (.slice A2 nn2 c2) (purK j) vs wr) ∧ Hid (Below w.heap.size w wr) ∧ Hid (Blk wr w.heap.size [.int .i64 (k : Int), .string ⟨#[]⟩, .int .i64 0, .int .i64 0, .slice A2 nn2 c2])) (fun i _ => n - (intOf i).toNat)
    case atStart => exact ⟨0, [], none, 0, 0, by omega, rfl, KT.nil _ _ _, HB0.out, HK0.out⟩
    case round =>
      obtain ⟨j, vs, A2, nn2, c2, hj, rfl, hK, hB, hX⟩ := hrel
      have xc := hX.out.cell 4 rfl
      have xf := hX.out.fz
      have xl := hX.out.lt
      by_cases hjn : (j : Int) < (n : Int)
      · have e5 : IntKind.i64.wrap ((j : Int) + 1) = (j : Int) + 1 := by rw [IntKind.wrap_i64]; omega
        have e6 : IntKind.i64.wrap (97 + (j : Int)) = 97 + (j : Int) := by rw [IntKind.wrap_i64]; omega
        have e7 : IntKind.u8.wrap (97 + (j : Int)) = 97 + (j : Int) := u8_small (by omega) (by omega)
        obtain ⟨nm, hnm⟩ : ∃ nm, Hid (chr1 j = nm) := ⟨_, rfl⟩
        have hcv : ∀ (W : World) (g : Nat), W.cell? ⟨g, 0, none⟩ = some (.int .u8 (97 + (j : Int))) → (convert 48 9 (.slice (some ⟨g, 0, none⟩) 1 1)).run Try.prog W = .ok (.string nm) W := fun W g h => by rw [← hnm.out]; exact chr_conv (by omega) W g h
        have hvs : Hid (vs.length + 1 ≤ 1000000) := by have h1 := hK.out.len; show _ ≤ _; simp [purK] at h1; omega
        go_upto_region 7 with fail
        go_region_law (first
          | (go_simp; go_at_call 29; refine (atom8_is nm _).mono ?_; rintro e W8 ⟨rfl, hb8⟩; have hb9 : Below wr.heap.size wr W8 := nx (by first | exact bdD (nx (newB wr _) (Below.refl _ _)) | exact nx (bdD (Below.refl _ _)) (newB _ _) | exact nxA (bdD (Below.refl _ _)) _ | exact bdD (newB _ _)) hb8; have HB8 := Lib.hid (nx hB.out hb9); have HX8 := Lib.hid (hX.out.up hb9 hX.out.lt); have HK8 := Lib.hid (hK.out.frm (b := 0) (Frm.up hb9) (by omega)); clear xc xf xl; have xc := HX8.out.cell 4 rfl; have xf := HX8.out.fz; have xl := HX8.out.lt; clear hb8 hb9)
          | (refine step_app_expr rfl (.tmp 32) (.tmp 39) rfl (w.heap.size + 1) (.slice A2 nn2 c2) vs _ [(a8 nm)] 1 1 rfl (by simp [Act.eval, Act.put]) (by simp [Act.eval, Act.put]) (own_kept HK8.out.own (fun g hg => (newB W8 _).block g (own_lt HK8.out.own hg).2)) (XRd.one_at _ _ (a8 nm) rfl) hvs (Nat.le_trans HX8.out.lt (newB W8 _).size) ?_; intro V5 w5 ho5 hg5 hn5; obtain ⟨A5, c5, hV5, -, -, -, -⟩ := ho5.form; obtain ⟨k5, hk5⟩ : ∃ k5, Hid ((vs ++ [((a8 nm) : XV)]).length = k5) := ⟨_, rfl⟩; rw [hk5.out] at hV5; subst hV5; have hrow : ∀ g, (Value.slice A2 nn2 c2).ownBlock = some g → w.heap.size + 1 ≤ g := (fun g hg => (own_lt HK8.out.own hg).1); have HK9 : Hid (KT (w.heap.size + 1) w.heap.size (.slice A2 nn2 c2) (purK j) vs (W8.alloc (.cells #[.int .i64 0, .string nm, .int .i64 3, .int .i64 0, .slice none 0 0] 28))) := HK8.out.frm (b := 0) (Frm.up (newB W8 (.cells #[.int .i64 0, .string nm, .int .i64 3, .int .i64 0, .slice none 0 0] 28))) (by omega); have HT9 : Hid (TIn (fun k => Snc (w.heap.size + 1) (W8.alloc (.cells #[.int .i64 0, .string nm, .int .i64 3, .int .i64 0, .slice none 0 0] 28)) k ∧ (Value.slice A2 nn2 c2).ownBlock ≠ some k ∧ k ≠ w.heap.size) (W8.alloc (.cells #[.int .i64 0, .string nm, .int .i64 3, .int .i64 0, .slice none 0 0] 28)) (a8 nm) (atE (chr1 j))) := Lib.hid (by rw [hnm.out]; exact atom_tin _ nm 3 0); have HK5 := Lib.hid (KT.app HK9.out (Nat.lt_of_lt_of_le HX8.out.lt (newB W8 (.cells #[.int .i64 0, .string nm, .int .i64 3, .int .i64 0, .slice none 0 0] 28)).size) ho5 hg5 hn5 HT9.out); have HB5 : Hid (Below w.heap.size w w5) := Lib.hid (let z := nx HB8.out (newB W8 (.cells #[.int .i64 0, .string nm, .int .i64 3, .int .i64 0, .slice none 0 0] 28)); ⟨hg5.os.trans z.os, hg5.tape.trans z.tape, hg5.output.trans z.output, Nat.le_trans z.size hg5.size, fun q hq => (hg5.block q (Nat.lt_of_lt_of_le hq z.size) (fun e => by have := hrow q e.symm; omega)).trans (z.block q hq)⟩); have HX5 := Lib.hid ((HX8.out.up (newB W8 (.cells #[.int .i64 0, .string nm, .int .i64 3, .int .i64 0, .slice none 0 0] 28)) HX8.out.lt).of (hg5.block _ (Nat.lt_of_lt_of_le HX8.out.lt (newB W8 (.cells #[.int .i64 0, .string nm, .int .i64 3, .int .i64 0, .slice none 0 0] 28)).size) (fun e => HK9.out.apart _ e.symm rfl))); clear xc xf xl; have xc := HX5.out.cell 4 rfl; have xf := HX5.out.fz; have xl := HX5.out.lt; clear ho5 hg5 hn5))
        all_goals (
          go_wp2
          have hsx : Below w.heap.size w5 (w5.setCell ⟨w.heap.size, 4, none⟩ (.slice A5 k5 c5)) := (Below.refl _ w5).setCell (p := ⟨w.heap.size, 4, none⟩) (Nat.le_refl _) _
          have hkt : Hid (KT (w.heap.size + 1) w.heap.size (.slice A5 k5 c5) (purK (j + 1)) (vs ++ [a8 nm]) (w5.setCell ⟨w.heap.size, 4, none⟩ (.slice A5 k5 c5))) := Lib.hid (by rw [purK_succ]; exact HK5.out.set 4 _)
          exact ⟨⟨j + 1, vs ++ [(a8 nm : XV)], A5, k5, c5, by omega, by go_num, hkt, HB5.out.trans hsx, HX5.out.set 4 _⟩, by simp [intOf]; omega⟩)
      · have hjn2 : j = n := by omega
        subst hjn2
        obtain ⟨f1, f2, f3, f4⟩ := hK.out.fin
        have hnn : nn2 = j := by rw [f1]; simp [purK]
        have HTe : Hid (∀ W, Below wr.heap.size wr W → TIn (Lo W.heap.size) W ⟨(k : Int), ⟨#[]⟩, 0, 0, A2, nn2, c2⟩ (purE j (k : Int))) := Lib.hid (fun W hW => TIn.up (⟨⟨by unfold XV.ks Ex.ks purE; rw [f1]; rfl, f2, f3⟩, f4.of (fun b hb => hb.1.2) (fun _ _ _ => rfl) (Nat.le_refl _)⟩ : TIn (Lo wr.heap.size) wr ⟨(k : Int), ⟨#[]⟩, 0, 0, A2, nn2, c2⟩ (purE j (k : Int))) hW)
        have hL : Hid (VL (purE j (k : Int)) (purL j)) := Lib.hid (pur_vl hnk.out.1 hnk.out.2.1 hnk.out.2.2.1 hnk.out.2.2.2)
        have hcl : Hid (cls (purE j (k : Int)) (purL j) = purW j k) := (pur_at hnk.out.1 hnk.out.2.1 hnk.out.2.2.1 hnk.out.2.2.2).1
        obtain ⟨v, hv⟩ : ∃ v, Hid (purW j k = v) := ⟨_, rfl⟩
        rw [hv.out] at hcl
        have HTe0 := Lib.hid (HTe.out wr (Below.refl _ _))
        clear f1 f2 f3 f4 hnn xc xf xl
        by_cases e1 : k = j
        · have b1 : ((k : Int) == (j : Int)) = true := by rw [beq_iff_eq]; omega
          have hv2 : v = 2 := by rw [← hv.out]; unfold purW; rw [if_pos e1]
          subst hv2
          clear e1
          go_wp2_with (first
            | (go_at_call 15; refine (awake8_any _).mono ?_; rintro x W2 ⟨rfl, hb2⟩; have hk2 := hX.out.up hb2 hX.out.lt; have y0 := hk2.cell 0 rfl; have y1 := hk2.cell 1 rfl; have y2 := hk2.cell 2 rfl; have y3 := hk2.cell 3 rfl; have y4 := hk2.cell 4 rfl; have HT2 := Lib.hid (HTe.out _ hb2); have HB2 := Lib.hid (nx hB.out hb2); clear hb2 hk2)
            | (go_at_call 27; refine (class8_yes (k : Int) ⟨#[]⟩ 0 0 A2 nn2 c2 _ HT2.out hL hcl).mono ?_; rintro x W3 ⟨rfl, hb3⟩; have HB3 := Lib.hid (nx HB2.out hb3); clear hb3))
          go_ret
          exact ⟨by simp, HB3.out⟩
        · have b1 : ((k : Int) == (j : Int)) = false := by rw [beq_eq_false_iff_ne]; omega
          by_cases e2 : k = 1
          · have b2 : ((k : Int) == 1) = true := by rw [beq_iff_eq]; omega
            have hv2 : v = 3 := by rw [← hv.out]; unfold purW; rw [if_neg e1, if_pos e2]
            subst hv2
            clear e1 e2
            go_wp2_with (first
              | (go_at_call 15; refine (awake8_any _).mono ?_; rintro x W2 ⟨rfl, hb2⟩; have hk2 := hX.out.up hb2 hX.out.lt; have y0 := hk2.cell 0 rfl; have y1 := hk2.cell 1 rfl; have y2 := hk2.cell 2 rfl; have y3 := hk2.cell 3 rfl; have y4 := hk2.cell 4 rfl; have HT2 := Lib.hid (HTe.out _ hb2); have HB2 := Lib.hid (nx hB.out hb2); clear hb2 hk2)
              | (go_at_call 27; refine (class8_yes (k : Int) ⟨#[]⟩ 0 0 A2 nn2 c2 _ HT2.out hL hcl).mono ?_; rintro x W3 ⟨rfl, hb3⟩; have HB3 := Lib.hid (nx HB2.out hb3); clear hb3))
            go_ret
            exact ⟨by simp, HB3.out⟩
          · have b2 : ((k : Int) == 1) = false := by rw [beq_eq_false_iff_ne]; omega
            have hv2 : v = 4 := by rw [← hv.out]; unfold purW; rw [if_neg e1, if_neg e2]
            subst hv2
            clear e1 e2
            go_wp2_with (first
              | (go_at_call 15; refine (awake8_any _).mono ?_; rintro x W2 ⟨rfl, hb2⟩; have hk2 := hX.out.up hb2 hX.out.lt; have y0 := hk2.cell 0 rfl; have y1 := hk2.cell 1 rfl; have y2 := hk2.cell 2 rfl; have y3 := hk2.cell 3 rfl; have y4 := hk2.cell 4 rfl; have HT2 := Lib.hid (HTe.out _ hb2); have HB2 := Lib.hid (nx hB.out hb2); clear hb2 hk2)
              | (go_at_call 27; refine (class8_yes (k : Int) ⟨#[]⟩ 0 0 A2 nn2 c2 _ HT2.out hL hcl).mono ?_; rintro x W3 ⟨rfl, hb3⟩; have HB3 := Lib.hid (nx HB2.out hb3); clear hb3))
            go_ret
            exact ⟨by simp, HB3.out⟩
  · have hc4 : a0 < 2 ∨ (¬ a0 < 2 ∧ 8 < a0) ∨ (¬ a0 < 2 ∧ ¬ 8 < a0 ∧ a1 < 1) ∨ (¬ a0 < 2 ∧ ¬ 8 < a0 ∧ ¬ a1 < 1 ∧ a0 < a1) := by omega
    clear hc
    rcases hc4 with h1 | ⟨h1, h2⟩ | ⟨h1, h2, h3⟩ | ⟨h1, h2, h3, h4⟩
    · have d1 : decide (a0 < 2) = true := decide_eq_true h1
      go_enter Try.func10, Try.ntmps10
      go_wp2_with (go_at_call 15; refine (awake8_any _).mono ?_; rintro x W2 ⟨rfl, hb2⟩; have HB2 := Lib.hid hb2; clear hb2)
      go_ret
      exact ⟨rfl, HB2.out⟩
    · have d1 : decide (a0 < 2) = false := decide_eq_false h1
      have d2 : decide (8 < a0) = true := decide_eq_true h2
      go_enter Try.func10, Try.ntmps10
      go_wp2_with (go_at_call 15; refine (awake8_any _).mono ?_; rintro x W2 ⟨rfl, hb2⟩; have HB2 := Lib.hid hb2; clear hb2)
      go_ret
      exact ⟨rfl, HB2.out⟩
    · have d1 : decide (a0 < 2) = false := decide_eq_false h1
      have d2 : decide (8 < a0) = false := decide_eq_false h2
      have d3 : decide (a1 < 1) = true := decide_eq_true h3
      go_enter Try.func10, Try.ntmps10
      go_wp2_with (go_at_call 15; refine (awake8_any _).mono ?_; rintro x W2 ⟨rfl, hb2⟩; have HB2 := Lib.hid hb2; clear hb2)
      go_ret
      exact ⟨rfl, HB2.out⟩
    · have d1 : decide (a0 < 2) = false := decide_eq_false h1
      have d2 : decide (8 < a0) = false := decide_eq_false h2
      have d3 : decide (a1 < 1) = false := decide_eq_false h3
      have d4 : decide (a0 < a1) = true := decide_eq_true h4
      go_enter Try.func10, Try.ntmps10
      go_wp2_with (go_at_call 15; refine (awake8_any _).mono ?_; rintro x W2 ⟨rfl, hb2⟩; have HB2 := Lib.hid hb2; clear hb2)
      go_ret
      exact ⟨rfl, HB2.out⟩
end Go.Proofs.Ytecipjjnbikheaa
