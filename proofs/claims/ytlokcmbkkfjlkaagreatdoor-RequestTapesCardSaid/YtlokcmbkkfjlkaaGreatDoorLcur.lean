/- Contracts: the cursor: ended, run, one. -/
import Derived.Test.YtlokcmbkkfjlkaaGreatDoorLrows
import Derived.Shelf.Abstract
namespace Go.Proofs.YtlokcmbkkfjlkaaGreatDoor
open Go.RowKit
open Go.Sort (grow)
set_option linter.unusedVariables false
set_option linter.unusedSimpArgs false

/-- The scanner's box b: the text, the place, the start, the tokens. -/
structure Scn (w : World) (b : Nat) (s : ByteArray) (i st : Nat) (V : Value) : Prop where
  lt : b < w.heap.size
  c0 : w.cell? ⟨b, 0, none⟩ = some (.string s)
  c1 : w.cell? ⟨b, 1, none⟩ = some (.int .i64 i)
  c2 : w.cell? ⟨b, 2, none⟩ = some (.int .i64 st)
  c3 : w.cell? ⟨b, 3, none⟩ = some V
  fz : ∀ o, w.frozen? ⟨b, o, none⟩ = false
/-- All blocks but b are as they were. -/
abbrev Frm (b : Nat) (w w' : World) : Prop := w.grownBy w' (some b)
theorem Frm.refl (b : Nat) (w : World) : Frm b w w := ⟨rfl, rfl, rfl, Nat.le_refl _, fun _ _ _ => rfl⟩
theorem Frm.trans {b : Nat} {a w c : World} (h : Frm b a w) (k : Frm b w c) : Frm b a c :=
  ⟨k.os.trans h.os, k.tape.trans h.tape, k.output.trans h.output, Nat.le_trans h.size k.size, fun q hq hn => (k.block q (Nat.lt_of_lt_of_le hq h.size) hn).trans (h.block q hq hn)⟩
theorem Frm.drewN {b : Nat} {a w : World} (h : Frm b a w) (n : Nat) : Frm b a (w.drewN n) := h.trans ⟨rfl, rfl, rfl, Nat.le_refl _, fun _ _ _ => rfl⟩
theorem Frm.set {b : Nat} {a w : World} (h : Frm b a w) (o : Nat) (u : Value) : Frm b a (w.setCell ⟨b, o, none⟩ u) :=
  h.trans ⟨rfl, rfl, rfl, by simp [World.setCell], fun q hq hn => Below.heap_setCell _ _ _ _ (fun e => hn (by rw [e]))⟩
theorem Frm.below {b : Nat} {w w' : World} (h : Frm b w w') (hb : b ≤ w.heap.size) : Below b w w' :=
  ⟨h.os, h.tape, h.output, h.size, fun k hk => h.block k (by omega) (fun e => by injection e with e; omega)⟩
theorem Scn.drewN {w : World} {b : Nat} {s : ByteArray} {i st : Nat} {V : Value} (h : Scn w b s i st V) (n : Nat) : Scn (w.drewN n) b s i st V := ⟨h.lt, h.c0, h.c1, h.c2, h.c3, h.fz⟩
theorem Scn.at_ {w : World} {b : Nat} {s : ByteArray} {i st : Nat} {V : Value} (h : Scn w b s i st V) {j : Nat} {v : Int} (hj : v = j) : Scn (w.setCell ⟨b, 1, none⟩ (.int .i64 v)) b s j st V := by
  obtain ⟨h0, h1, h2, h3, h4, h5⟩ := h
  subst hj
  refine ⟨by simpa using h0, ?_, ?_, ?_, ?_, fun o => ?_⟩ <;> simp [go_sem, h1, h2, h3, h4, h5]
theorem OwnT.frm {w w' : World} {base b : Nat} {v : Value} {l : List T4} (h : OwnT w base v l) (hf : Frm b w w') (hb : b < base) : OwnT w' base v l := by
  refine ⟨h.1, ?_⟩
  rcases h.2 with hn | ⟨g, cap, cur, rfl, hbg, hg, rest⟩
  · exact .inl hn
  · exact .inr ⟨g, cap, cur, rfl, hbg, by rw [hf.block g (Array.getElem?_eq_some_iff.1 hg).1 (fun e => by injection e with e; omega)]; exact hg, rest⟩

theorem ended_is (b : Nat) (s : ByteArray) (i : Nat) (w : World) (c0 : w.cell? ⟨b, 0, none⟩ = some (.string s)) (c1 : w.cell? ⟨b, 1, none⟩ = some (.int .i64 i)) {r : Bool} (hr : Hid (((i : Int) == (s.size : Int)) = r)) :
    Calls Tryz.prog 81 #[.pointer (some ⟨b, 0, none⟩)] w fun e w' => e = .returned (.bool r) ∧ ∃ n, w' = w.drewN n := by
  have hr' := hr.out
  clear hr
  go_enter Tryz.func81, Tryz.ntmps81
  go_wp2
  go_quiet (fail)
  go_wp2
  go_ret
  exact ⟨rfl, _, rfl⟩
/-- The text from i to j. -/
def cutB (s : ByteArray) (i j : Nat) : ByteArray := mkB ((s.data.toList.drop i).take (j - i))
theorem cutB_ex {s : ByteArray} {i j : Nat} (h : i ≤ j) (hj : j ≤ s.size) : s.extract i j = cutB s i j := by
  apply ByteArray.ext
  apply Array.toList_inj.1
  simp [cutB, mkB, List.extract, List.drop_take]
set_option maxHeartbeats 2000000 in
set_option maxRecDepth 8000 in
theorem run_is (p : Int → Bool) (K : Nat) (b : Nat) (s : ByteArray) (i st : Nat) (V : Value) (w : World) (hS : Scn w b s i st V) (hi : i ≤ s.size) (hs : s.size ≤ 1024)
    (eg : ∀ args w, (callFunc K args).run Tryz.prog w = .ok (.enter K args) w)
    (HK : Hid (∀ c W r, Hid (p c = r) → Calls Tryz.prog K #[.int .u8 c] W fun e w' => e = .returned (.bool r) ∧ W = w')) {k : Nat} (hk : Hid (i + tw p (s.data.toList.drop i) = k)) :
    Calls Tryz.prog 79 #[.pointer (some ⟨b, 0, none⟩), .func (.func K) #[] #[]] w fun e w' => e = .returned (.string (cutB s i k)) ∧ Scn w' b s k st V ∧ Frm b w w' := by
  have HS := Lib.hid hS
  obtain ⟨g0, c0, c1, c2, c3, fz⟩ := hS
  obtain ⟨R, hR⟩ : ∃ R, Hid (cutB s i k = R) := ⟨_, rfl⟩
  rw [hR.out]
  go_enter Tryz.func79, Tryz.ntmps79
  go_wp2
  clear c0 c1 c2 c3 fz
  go_loopw [] (fun wr => ∃ (j : Nat), i ≤ j ∧ j ≤ s.size ∧ Hid (Scn wr b s j st V) ∧ Hid (Frm b w wr) ∧ Hid (∀ q, i ≤ q → q < j → p (byt s q) = true)) (fun wr => s.size - (match wr.cell? ⟨b, 1, none⟩ with | some v => (intOf v).toNat | _ => 0))
  case atStart => exact ⟨i, by omega, hi, HS.out, Frm.refl _ _, fun q h1 h2 => by omega⟩
  case round =>
    obtain ⟨j, hij, hjs, hS, hF, hall⟩ := hrel
    obtain ⟨g0, c0, c1, c2, c3, fz⟩ := hS.out
    have hfin : ∀ d, Hid (j = i + d) → (∀ q, i ≤ q → q < j → p (byt s q) = true) → tw p (s.data.toList.drop i) = d + tw p (s.data.toList.drop j) := fun d hd h => by
      have e := hd.out
      subst e
      exact tw_run hjs h
    have HFin := Lib.hid hfin
    clear hfin
    by_cases hlt : j < s.size
    · have jy := byt_at s j hlt
      have HLT := Lib.hid hlt
      have e5 : IntKind.i64.wrap ((j : Int) + 1) = (j : Int) + 1 := by rw [IntKind.wrap_i64]; omega
      have hne : Hid (((j : Int) == (s.size : Int)) = false) := by show _ = _; rw [beq_eq_false_iff_ne]; omega
      obtain ⟨v, hv⟩ : ∃ v, Hid (p (byt s j) = v) := ⟨_, rfl⟩
      cases v with
      | false =>
        have hend : Hid (k = j) := by
          have h1 := HFin.out (j - i) (show _ = _ by omega) hall.out
          rw [tw_none hlt hv.out] at h1
          have h2 := hk.out
          show _ = _
          omega
        go_wp2
        go_quiet (first
          | (go_at_call 81; exact Calls.quiet_of (ended_is b s j _ (hS.out.drewN _).c0 (hS.out.drewN _).c1 hne))
          | (go_at_fn K; exact Calls.quiet_of_same ((HK.out _ _ _ hv).mono fun _ _ ⟨he, hw⟩ => ⟨he, hw.symm⟩)))
        go_wp2
        obtain ⟨W2, hW2⟩ : ∃ W2, Hid (wr.drewN nq = W2) := ⟨_, rfl⟩
        have hS2 : Scn W2 b s j st V := by rw [← hW2.out]; exact hS.out.drewN _
        have hF2 : Hid (Frm b w W2) := by rw [← hW2.out]; exact hF.out.drewN _
        have HS2 := Lib.hid hS2
        rw [hW2.out]
        clear c0 c1 c2 c3 fz
        obtain ⟨_, c0, c1, c2, c3, fz⟩ := hS2
        have hsl : ∀ W : World, (Instr.slice 9 (.string s) (some (.int .i64 (i : Int))) (some (.int .i64 (j : Int))) none).run Tryz.prog W = .ok (.string R) W := fun W => by
          have hz := run_slice_string (P := Tryz.prog) W 9 s .i64 .i64 (i : Int) (j : Int) Tryz.underlying9 (by omega) (by omega) (by omega)
          rw [hz, ← hR.out, hend.out]
          simp only [Int.toNat_natCast]
          rw [cutB_ex hij hjs]
        go_quiet (fail)
        go_wp2
        go_ret
        have e := hend.out
        subst e
        exact ⟨rfl, HS2.out.drewN _, hF2.out.drewN _⟩
      | true =>
        have hall2 : Hid (∀ q, i ≤ q → q < j + 1 → p (byt s q) = true) := fun q h1 h2 => by
          by_cases e : q = j
          · subst e; exact hv.out
          · exact hall.out q h1 (by omega)
        go_wp2
        go_quiet (first
          | (go_at_call 81; exact Calls.quiet_of (ended_is b s j _ (hS.out.drewN _).c0 (hS.out.drewN _).c1 hne))
          | (go_at_fn K; exact Calls.quiet_of_same ((HK.out _ _ _ hv).mono fun _ _ ⟨he, hw⟩ => ⟨he, hw.symm⟩)))
        go_wp2
        go_roundw
        case rel => exact ⟨j + 1, by omega, by omega, (hS.out.drewN nq).at_ (by omega), (hF.out.drewN nq).set _ _, hall2⟩
        case measure => simp [go_sem, c1, intOf]; exact Nat.sub_lt_sub_left hlt (Nat.lt_succ_self j)
    · have hne : Hid (((j : Int) == (s.size : Int)) = true) := by show _ = _; rw [beq_iff_eq]; have : j = s.size := Nat.le_antisymm hjs (Nat.le_of_not_lt hlt); rw [this]
      have hend : Hid (k = j) := by
        have h1 := HFin.out (j - i) (show _ = _ by omega) hall.out
        rw [tw_end (Nat.le_of_not_lt hlt)] at h1
        have h2 := hk.out
        show _ = _
        omega
      go_wp2
      go_quiet (first
        | (go_at_call 81; exact Calls.quiet_of (ended_is b s j _ (hS.out.drewN _).c0 (hS.out.drewN _).c1 hne)))
      go_wp2
      obtain ⟨W2, hW2⟩ : ∃ W2, Hid (wr.drewN nq = W2) := ⟨_, rfl⟩
      have hS2 : Scn W2 b s j st V := by rw [← hW2.out]; exact hS.out.drewN _
      have hF2 : Hid (Frm b w W2) := by rw [← hW2.out]; exact hF.out.drewN _
      have HS2 := Lib.hid hS2
      rw [hW2.out]
      clear c0 c1 c2 c3 fz
      obtain ⟨_, c0, c1, c2, c3, fz⟩ := hS2
      have hsl : ∀ W : World, (Instr.slice 9 (.string s) (some (.int .i64 (i : Int))) (some (.int .i64 (j : Int))) none).run Tryz.prog W = .ok (.string R) W := fun W => by
        have hz := run_slice_string (P := Tryz.prog) W 9 s .i64 .i64 (i : Int) (j : Int) Tryz.underlying9 (by omega) (by omega) (by omega)
        rw [hz, ← hR.out, hend.out]
        simp only [Int.toNat_natCast]
        rw [cutB_ex hij hjs]
      go_quiet (fail)
      go_wp2
      go_ret
      have e := hend.out
      subst e
      exact ⟨rfl, HS2.out.drewN _, hF2.out.drewN _⟩
set_option maxHeartbeats 1000000 in
theorem one_is (b : Nat) (s : ByteArray) (i st : Nat) (V : Value) (w : World) (hS : Scn w b s i st V) (hi : i < s.size) (hs : s.size ≤ 1024) :
    Calls Tryz.prog 107 #[.pointer (some ⟨b, 0, none⟩)] w fun e w' => e = .returned (.string (cutB s i (i + 1))) ∧ Scn w' b s (i + 1) st V ∧ Frm b w w' := by
  have HS := Lib.hid hS
  obtain ⟨g0, c0, c1, c2, c3, fz⟩ := hS
  obtain ⟨R, hR⟩ : ∃ R, Hid (cutB s i (i + 1) = R) := ⟨_, rfl⟩
  rw [hR.out]
  have e5 : IntKind.i64.wrap ((i : Int) + 1) = (i : Int) + 1 := by rw [IntKind.wrap_i64]; omega
  have e6 : IntKind.i64.wrap ((i : Int) + 1 - 1) = (i : Int) := by rw [IntKind.wrap_i64]; omega
  have hsl : ∀ W : World, (Instr.slice 9 (.string s) (some (.int .i64 (i : Int))) (some (.int .i64 ((i : Int) + 1))) none).run Tryz.prog W = .ok (.string R) W := fun W => by
    have hz := run_slice_string (P := Tryz.prog) W 9 s .i64 .i64 (i : Int) ((i : Int) + 1) Tryz.underlying9 (by omega) (by omega) (by omega)
    rw [hz, ← hR.out]
    simp only [Int.toNat_natCast]
    rw [show ((i : Int) + 1).toNat = i + 1 by omega, cutB_ex (by omega) hi]
  go_enter Tryz.func107, Tryz.ntmps107
  go_wp2
  go_quiet (fail)
  go_wp2
  go_ret
  exact ⟨rfl, (HS.out.at_ (by omega)).drewN _, ((Frm.refl _ _).set _ _).drewN _⟩
end Go.Proofs.YtlokcmbkkfjlkaaGreatDoor
