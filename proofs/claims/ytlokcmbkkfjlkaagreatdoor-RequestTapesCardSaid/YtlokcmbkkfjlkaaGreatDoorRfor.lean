/- Contracts: Format, FormatExpr. -/
import Derived.Test.YtlokcmbkkfjlkaaGreatDoorRfmt
namespace Go.Proofs.YtlokcmbkkfjlkaaGreatDoor
open Go.RowKit
set_option linter.unusedVariables false
set_option linter.unusedSimpArgs false

theorem VB.lo {B B' : Nat} {w : World} (h : VB B w) (hB : B ≤ B') : VB B' w := fun v hv => h v (hv.mono hB)
theorem VR.all {w : World} (h : VR w) : VB w.heap.size w := h.1.all
theorem exprText_is {e : Ex} (k : Int) (s : ByteArray) (m u : Int) (A : Option Addr) (n c : Nat) (w : World) {r : ByteArray} (hV : VR w) (hT : TIn (Lo w.heap.size) w ⟨k, s, m, u, A, n, c⟩ e) (hv : Vex e) (hr : Hid (mkB e.txt = r)) :
    Calls Tryz.prog 40 #[xe k s m u A n c] w fun x w' => x = .returned (.string r) ∧ Below w.heap.size w w' :=
  txt_all e w.heap.size k s m u A n c w r hV.all (Nat.le_refl _) hV.2 hT hv.ok hv.2.1 hr
set_option maxHeartbeats 1000000 in
set_option maxRecDepth 8000 in
theorem formatExpr_yes {e : Ex} (k : Int) (s : ByteArray) (m u : Int) (A : Option Addr) (n c : Nat) (w : World) {r : ByteArray} (hV : VR w) (hT : TIn (Lo w.heap.size) w ⟨k, s, m, u, A, n, c⟩ e) (hv : Hid (Vex e)) (hr : Hid (mkB e.txt = r)) :
    Calls Tryz.prog 20 #[xe k s m u A n c] w fun x w' => x = .returned (.string r) ∧ Below w.heap.size w w' := by
  have HV := Lib.hid hV
  have HT := Lib.hid hT
  have hb : Hid (vexB e = true) := vexB_iff.2 hv.out
  clear hV hT
  go_enter Tryz.func20, Tryz.ntmps20
  go_wp2_with (first
    | (go_at_call 11; refine (validExpr_is (e := e) k s m u A n c _ (HT.out.grow _) hb).mono ?_; rintro x W1 ⟨rfl, hb1⟩; obtain ⟨hc1, hf1⟩ := bcell hb1; have HB1 := Lib.hid (dn1 hb1); clear hb1)
    | (go_at_call 40; refine (exprText_is (e := e) k s m u A n c _ (HV.out.below HB1.out) (HT.out.up HB1.out) hv.out hr).mono ?_; rintro x W2 ⟨rfl, hb2⟩; have HB2 := Lib.hid (nx HB1.out hb2); clear hb2))
  go_ret
  exact ⟨rfl, HB2.out⟩
set_option maxHeartbeats 1000000 in
set_option maxRecDepth 8000 in
theorem formatExpr_no {e : Ex} (k : Int) (s : ByteArray) (m u : Int) (A : Option Addr) (n c : Nat) (w : World) (hT : TIn (Lo w.heap.size) w ⟨k, s, m, u, A, n, c⟩ e) (hv : Hid (¬ Vex e)) :
    Calls Tryz.prog 20 #[xe k s m u A n c] w fun x w' => x = .returned (.string ⟨#[]⟩) ∧ Below w.heap.size w w' := by
  have HT := Lib.hid hT
  have hb : Hid (vexB e = false) := vexB_no.2 hv.out
  clear hT
  go_enter Tryz.func20, Tryz.ntmps20
  go_wp2_with (first
    | (go_at_call 11; refine (validExpr_is (e := e) k s m u A n c _ (HT.out.grow _) hb).mono ?_; rintro x W1 ⟨rfl, hb1⟩; have HB1 := Lib.hid (dn1 hb1); clear hb1))
  go_ret
  exact ⟨rfl, HB1.out⟩
set_option maxHeartbeats 1000000 in
set_option maxRecDepth 8000 in
theorem format_no {e : Ex} (k : Int) (s : ByteArray) (m u : Int) (A : Option Addr) (n c : Nat) (p t : Int) (w : World) (hT : TIn (Lo w.heap.size) w ⟨k, s, m, u, A, n, c⟩ e) (hv : Hid (¬ Vrq (e, p, t))) :
    Calls Tryz.prog 18 #[rq k s m u A n c p t] w fun x w' => x = .returned (.string ⟨#[]⟩) ∧ Below w.heap.size w w' := by
  have HT := Lib.hid hT
  have hb : Hid (vrqB e p t = false) := by
    show _ = _
    rw [← Bool.not_eq_true, vrqB_iff]
    exact hv.out
  clear hT
  go_enter Tryz.func18, Tryz.ntmps18
  go_wp2_with (first
    | (go_at_call 13; refine (valid_is (e := e) k s m u A n c p t _ (HT.out.grow _) hb).mono ?_; rintro x W1 ⟨rfl, hb1⟩; have HB1 := Lib.hid (dn1 hb1); clear hb1))
  go_ret
  exact ⟨rfl, HB1.out⟩
abbrev S7 (W : World) (g : Nat) (k : Int) (s : ByteArray) (m u : Int) (A : Option Addr) (n c : Nat) (p t : Int) : Prop := W.cell? ⟨g, 0, none⟩ = some (.int .i64 k) ∧ W.cell? ⟨g, 1, none⟩ = some (.string s) ∧ W.cell? ⟨g, 2, none⟩ = some (.int .i64 m) ∧ W.cell? ⟨g, 3, none⟩ = some (.int .i64 u) ∧ W.cell? ⟨g, 4, none⟩ = some (.slice A n c) ∧ W.cell? ⟨g, 5, none⟩ = some (.int .i64 p) ∧ W.cell? ⟨g, 6, none⟩ = some (.int .i64 t)
theorem Blk.s7 {W : World} {g : Nat} {k : Int} {s : ByteArray} {m u : Int} {A : Option Addr} {n c : Nat} {p t : Int} (h : Blk W g [.int .i64 k, .string s, .int .i64 m, .int .i64 u, .slice A n c, .int .i64 p, .int .i64 t]) : S7 W g k s m u A n c p t :=
  ⟨h.cell 0 rfl, h.cell 1 rfl, h.cell 2 rfl, h.cell 3 rfl, h.cell 4 rfl, h.cell 5 rfl, h.cell 6 rfl⟩
set_option maxHeartbeats 4000000 in
set_option maxRecDepth 8000 in
theorem format_yes {e : Ex} (k : Int) (s : ByteArray) (m u : Int) (A : Option Addr) (n c : Nat) (p t : Int) (w : World) {r : ByteArray} (hV : VR w) (hT : TIn (Lo w.heap.size) w ⟨k, s, m, u, A, n, c⟩ e) (hv : Hid (Vrq (e, p, t))) (hr : Hid (mkB (txR (e, p, t)) = r)) :
    Calls Tryz.prog 18 #[rq k s m u A n c p t] w fun x w' => x = .returned (.string r) ∧ Below w.heap.size w w' := by
  have HV := Lib.hid hV
  have HT := Lib.hid hT
  have hb : Hid (vrqB e p t = true) := vrqB_iff.2 hv.out
  obtain ⟨hv1, hp0, hp7, ht0, ht1⟩ := hv.out
  have hp0 : 0 ≤ p := hp0
  have hp7 : p ≤ 7 := hp7
  have ht0 : 0 ≤ t := ht0
  have ht1 : t ≤ 1000 := ht1
  obtain ⟨T, hTt⟩ : ∃ T, Hid (mkB e.txt = T) := ⟨_, rfl⟩
  obtain ⟨P, hP⟩ : ∃ P, Hid (mkB (txS [112, 114, 105, 111] p) = P) := ⟨_, rfl⟩
  obtain ⟨L, hL⟩ : ∃ L, Hid (mkB (txS [108, 105, 109, 105, 116] t) = L) := ⟨_, rfl⟩
  have hTs : T.size ≤ 430 := by rw [← hTt.out, mkB_size]; exact hv1.len
  have hPs : P.size ≤ 10 := by rw [← hP.out, mkB_size]; exact txS_len hp0 (by omega)
  have hLs : L.size ≤ 11 := by rw [← hL.out, mkB_size]; exact txS_len ht0 ht1
  have n1 : ¬ 9223372036854775807 < T.size + P.size := by omega
  have n2 : ¬ 9223372036854775807 < T.size + P.size + L.size := by omega
  have n3 : ¬ 9223372036854775807 < (T ++ P).size + L.size := by rw [ByteArray.size_append]; omega
  have hend : Hid ((T ++ P) ++ L = r) := by
    show _ = _
    rw [← hr.out, ← hTt.out, ← hP.out, ← hL.out]
    apply ba_ext
    rw [ba_data, ba_data, mkB_data, mkB_data, mkB_data, mkB_data]
    unfold txR
    simp
  have CT : Hid (∀ W, Below w.heap.size w W → Calls Tryz.prog 40 #[xe k s m u A n c] W fun x w' => x = .returned (.string T) ∧ Below W.heap.size W w') := fun W hW => exprText_is (e := e) k s m u A n c W (HV.out.below hW) (HT.out.up hW) hv1 hTt
  have CP : Hid (∀ W, Below w.heap.size w W → Calls Tryz.prog 41 #[.string wPrio, .int .i64 p] W fun x w' => x = .returned (.string P) ∧ Below W.heap.size W w') := fun W hW => settingText_is [112, 114, 105, 111] wPrio p W (HV.out.below hW) rfl (by simp) hp0 (by omega) hP
  have CL : Hid (∀ W, Below w.heap.size w W → Calls Tryz.prog 41 #[.string wLim, .int .i64 t] W fun x w' => x = .returned (.string L) ∧ Below W.heap.size W w') := fun W hW => settingText_is [108, 105, 109, 105, 116] wLim t W (HV.out.below hW) rfl (by simp) ht0 ht1 hL
  clear hV hT hv1 hp0 hp7 ht0 ht1 hTs hPs hLs
  go_enter Tryz.func18, Tryz.ntmps18
  go_wp2_with (first
    | (go_at_call 13; refine (valid_is (e := e) k s m u A n c p t _ (HT.out.grow _) hb).mono ?_; rintro x W1 ⟨rfl, hb1⟩; have HK1 := Lib.hid ((Blk.new w [.int .i64 k, .string s, .int .i64 m, .int .i64 u, .slice A n c, .int .i64 p, .int .i64 t] 30 rfl).up hb1 (by simp)); have HB1 := Lib.hid (dn1 hb1); clear hb1))
  have KE : Hid (∀ W, Below W1.heap.size W1 W → Below W1.heap.size W1 W ∧ S7 W w.heap.size k s m u A n c p t) := fun W hW => ⟨hW, (HK1.out.up hW HK1.out.lt).s7⟩
  have CT1 : Hid (∀ W, Below W1.heap.size W1 W → Calls Tryz.prog 40 #[xe k s m u A n c] W fun x w' => x = .returned (.string T) ∧ Below W.heap.size W w') := fun W hW => CT.out W (nx HB1.out hW)
  have CP1 : Hid (∀ W, Below W1.heap.size W1 W → Calls Tryz.prog 41 #[.string wPrio, .int .i64 p] W fun x w' => x = .returned (.string P) ∧ Below W.heap.size W w') := fun W hW => CP.out W (nx HB1.out hW)
  have CL1 : Hid (∀ W, Below W1.heap.size W1 W → Calls Tryz.prog 41 #[.string wLim, .int .i64 t] W fun x w' => x = .returned (.string L) ∧ Below W.heap.size W w') := fun W hW => CL.out W (nx HB1.out hW)
  clear CT CP CL
  go_region_held3 (fun W => Below W1.heap.size W1 W ∧ S7 W w.heap.size k s m u A n c p t)
    (first
      | exact KE.out _ (Below.refl _ _)
      | exact KE.out _ (bdD (Below.refl _ _))
      | (go_split_ands; exact KE.out _ (nx (by assumption) hb2)))
    (first
      | (go_at_call 40; (with_reducible refine (CT1.out _ (by go_split_ands; assumption)).mono ?_); rintro x W2 ⟨rfl, hb2⟩)
      | (go_at_call 41; (with_reducible refine (CP1.out _ (by go_split_ands; assumption)).mono ?_); rintro x W2 ⟨rfl, hb2⟩)
      | (go_at_call 41; (with_reducible refine (CL1.out _ (by go_split_ands; assumption)).mono ?_); rintro x W2 ⟨rfl, hb2⟩))
  all_goals (go_wp2; go_ret; go_split_ands; exact ⟨by rw [← hend.out]; rfl, nx HB1.out (by assumption)⟩)
end Go.Proofs.YtlokcmbkkfjlkaaGreatDoor
