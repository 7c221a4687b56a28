/- An error of Parse is never 0. Contract: the statements' own example. -/
import Derived.Test.YtlokcmbkkfjlkaaGreatDoorRpp
import Derived.Test.YtlokcmbkkfjlkaaGreatDoorRpar
import Derived.Test.YtlokcmbkkfjlkaaGreatDoorRfor
import Derived.Test.YtlokcmbkkfjlkaaGreatDoorRsur
namespace Go.Proofs.YtlokcmbkkfjlkaaGreatDoor
open Go.RowKit
set_option linter.unusedVariables false
set_option linter.unusedSimpArgs false

theorem pA_err {t : List T4} {n : Nat} {l : List A3} {p e : Int} (h : pA t n l = .no p e) : e ≠ 0 := by
  have fin : ∀ (a : A3) (t2 : List T4), atEnd (hd t) a t2 n l = .no p e → e ≠ 0 := by
    intro a t2 hh
    unfold atEnd at hh
    split at hh
    · cases hh
    · rename_i hi
      injection hh with _ e2
      subst e2
      exact hi
  unfold pA at h
  split at h
  · split at h
    · split at h
      · exact fin _ _ h
      · injection h with _ e2; subst e2; decide
    · injection h with _ e2; subst e2; decide
  · split at h
    · split at h
      · exact fin _ _ h
      · injection h with _ e2; subst e2; decide
    · injection h with _ e2; subst e2; decide
theorem PR.grp_no {f : List Ex → Int} {r : PR (List Ex)} {p e : Int} (h : r.grp f = .no p e) : r = .no p e := by
  cases r with
  | ok ks t n l => simp [PR.grp] at h
  | no p' e' => simpa [PR.grp] using h
theorem PR.num_no {v q : Int} {r : PR (List Ex)} {p e : Int} (h : r.num v q = .no p e) : r = .no p e ∨ e = 1 := by
  cases r with
  | ok ks t n l =>
    simp only [PR.num] at h
    split at h
    · cases h
    · injection h with _ e2; exact .inr e2.symm
  | no p' e' => exact .inl (by simpa [PR.num] using h)
def EErr (f : Nat) : Prop := ∀ (d : Nat) (t : List T4) (n : Nat) (l : List A3) (p e : Int), WT t → t.length < f → pE f d t n l = .no p e → e ≠ 0
def KErr (f : Nat) : Prop := ∀ (d : Nat) (t : List T4) (n : Nat) (l : List A3) (p e : Int), WT t → t.length < f → pK f d t n l = .no p e → e ≠ 0
def MErr (f : Nat) : Prop := ∀ (d : Nat) (acc : List Ex) (t : List T4) (n : Nat) (l : List A3) (p e : Int), WT t → t.length < f → pM f d acc t n l = .no p e → e ≠ 0
theorem parts_err : ∀ f, EErr f ∧ KErr f ∧ MErr f
  | 0 => ⟨(fun d t n l p e _ hf _ => by omega), (fun d t n l p e _ hf _ => by omega), (fun d acc t n l p e _ hf _ => by omega)⟩
  | f + 1 => by
    obtain ⟨ihE, ihK, ihM⟩ := parts_err f
    refine ⟨fun d t n l p e hw hf h => ?_, fun d t n l p e hw hf h => ?_, fun d acc t n l p e hw hf h => ?_⟩
    · rw [pE] at h
      split at h
      · injection h with _ e2; subst e2; decide
      · split at h
        · injection h with _ e2; subst e2; decide
        · split at h
          · rename_i ha
            obtain ⟨_, w1, g1, _⟩ := hw.word (by rw [ha]; exact wAll_l)
            exact ihK _ _ _ _ _ _ w1 (by omega) (PR.grp_no h)
          · split at h
            · rename_i hb
              obtain ⟨_, w1, g1, _⟩ := hw.word (by rw [hb]; exact wAny_l)
              exact ihK _ _ _ _ _ _ w1 (by omega) (PR.grp_no h)
            · split at h
              · rename_i h3
                obtain ⟨_, w1, g1, _⟩ := hw.next (by omega)
                split at h
                · rename_i ho
                  obtain ⟨_, w2, g2, _⟩ := w1.word (by rw [ho]; exact wOf_l)
                  rcases PR.num_no h with h | h
                  · exact ihK _ _ _ _ _ _ w2 (by omega) h
                  · subst h; decide
                · injection h with _ e2; subst e2; decide
              · exact pA_err h
    · rw [pK] at h
      split at h
      · rename_i ho
        obtain ⟨_, w1, g1, _⟩ := hw.punc (by rw [ho]; exact wOpen_p)
        cases he : pE f (d + 1) t.tail n l with
        | no p' e' =>
          rw [he] at h
          simp only [PR.no.injEq] at h
          obtain ⟨rfl, rfl⟩ := h
          exact ihE _ _ _ _ _ _ w1 (by omega) he
        | ok x t1 n1 l1 =>
          rw [he] at h
          obtain ⟨q1, q2, _⟩ := pE_ok w1 he
          exact ihM _ _ _ _ _ _ _ q1 (by omega) h
      · injection h with _ e2; subst e2; decide
    · rw [pM] at h
      split at h
      · rename_i ho
        obtain ⟨_, w1, g1, _⟩ := hw.punc (by rw [ho]; exact wCom_p)
        cases he : pE f (d + 1) t.tail n l with
        | no p' e' =>
          rw [he] at h
          simp only [PR.no.injEq] at h
          obtain ⟨rfl, rfl⟩ := h
          exact ihE _ _ _ _ _ _ w1 (by omega) he
        | ok x t1 n1 l1 =>
          rw [he] at h
          obtain ⟨q1, q2, _⟩ := pE_ok w1 he
          exact ihM _ _ _ _ _ _ _ q1 (by omega) h
      · split at h
        · cases h
        · injection h with _ e2; subst e2; decide
theorem pS_err {w : ByteArray} {g : Int} {t : List T4} {p e : Int} (h : pS w g t = .no p e) : e ≠ 0 := by
  unfold pS at h
  split at h
  · split at h
    · split at h
      · injection h with _ e2; subst e2; decide
      · cases h
    · injection h with _ e2; subst e2; decide
  · cases h
theorem pR_err {s : ByteArray} {p e : Int} (h : pR s = .no p e) : e ≠ 0 := by
  unfold pR at h
  split at h
  · rename_i h0
    have hw := wt_lexR h0
    unfold pQ at h
    cases he : pE ((lexR s).1.length + 1) 1 (lexR s).1 0 [] with
    | no p' e' =>
      rw [he] at h
      simp only [QR.no.injEq] at h
      obtain ⟨rfl, rfl⟩ := h
      exact (parts_err _).1 _ _ _ _ _ _ hw (by omega) he
    | ok x t0 n0 l0 =>
      rw [he] at h
      simp only [pPri] at h
      cases hp : pS wPrio 7 t0 with
      | no p' e' =>
        rw [hp] at h
        simp only [QR.no.injEq] at h
        obtain ⟨rfl, rfl⟩ := h
        exact pS_err hp
      | ok v t1 n1 l1 =>
        rw [hp] at h
        simp only [pLim] at h
        cases hm : pS wLim 1000 t1 with
        | no p' e' =>
          rw [hm] at h
          simp only [QR.no.injEq] at h
          obtain ⟨rfl, rfl⟩ := h
          exact pS_err hm
        | ok m t2 n2 l2 =>
          rw [hm] at h
          simp only at h
          split at h
          · cases h
          · injection h with _ e2; subst e2; decide
  · rename_i h0
    injection h with _ e2
    rw [← e2]
    exact h0
def exE : Ex := .nd 1 z3 [.nd 0 (mkB [97], 5, 0) [], .nd 0 (mkB [112], 0, 2) []]
def exR : R3 := (exE, 0, 9)
theorem ex_par : pR ⟨#[97, 110, 121, 40, 97, 58, 88, 44, 112, 42, 50, 41, 32, 108, 105, 109, 105, 116, 32, 57]⟩ = .ok exR := by kernel_rfl
theorem ex_txt : mkB (txR exR) = ⟨#[97, 110, 121, 40, 97, 58, 88, 44, 32, 112, 42, 50, 41, 32, 108, 105, 109, 105, 116, 32, 57]⟩ := by kernel_rfl
theorem ex_sur : ((surN exE).length : Int) = 3 := by kernel_rfl
theorem ex_vrq : Vrq (exE, 0, 9) := by
  have h := ex_par
  exact pR_ok h
set_option maxHeartbeats 4000000 in
set_option maxRecDepth 8000 in
theorem awake_any (w : World) (hV : VR w) : Calls Tryz.prog 10 #[] w fun e w' => e = .returned (.bool true) ∧ Below w.heap.size w w' := by
  have hx := Lib.hid ex_par
  have hvb : Hid (vrqB exE 0 9 = true) := vrqB_iff.2 ex_vrq
  have hvq := Lib.hid ex_vrq
  have htx : Hid (mkB (txR (exE, 0, 9)) = ⟨#[97, 110, 121, 40, 97, 58, 88, 44, 32, 112, 42, 50, 41, 32, 108, 105, 109, 105, 116, 32, 57]⟩) := ex_txt
  have hsu := Lib.hid ex_sur
  have HV := Lib.hid hV
  clear hV
  go_enter Tryz.func10, Tryz.ntmps10
  go_wp2_with (first
    | (go_at_call 15; refine (parse_is _ _ HV.out.1 hx).mono ?_; rintro e W1 ⟨⟨k, s, m, u, A, n, c, rfl, ht⟩, hb1⟩; have hk := Blk.new W1 [.int .i64 k, .string s, .int .i64 m, .int .i64 u, .slice A n c, .int .i64 0, .int .i64 9] 30 rfl; have HK := Lib.hid hk; have HT : Hid (TIn (Lo W1.heap.size) W1 ⟨k, s, m, u, A, n, c⟩ exE) := ht; have HB1 := Lib.hid hb1; clear ht hb1 hk)
    | (go_at_call 13; refine (valid_is (e := exE) k s m u A n c 0 9 _ (HT.out.grow _) hvb).mono ?_; rintro x W2 ⟨rfl, hb2⟩; have hk := HK.out.up hb2 (by simp); obtain ⟨x0, x1, x2, x3, x4, x5, x6⟩ := hk.s7; have HK2 := Lib.hid hk; have HB2 := Lib.hid (nx HB1.out (dn1 hb2)); have HT2 := Lib.hid ((HT.out.grow _).up hb2); clear hb2 hk)
    | (go_at_call 18; refine (format_yes (e := exE) k s m u A n c 0 9 _ (HV.out.below HB2.out) HT2.out hvq htx).mono ?_; rintro x W3 ⟨rfl, hb3⟩; have hk := HK2.out.up hb3 HK2.out.lt; clear x0 x1 x2 x3 x4 x5 x6; obtain ⟨x0, x1, x2, x3, x4, x5, x6⟩ := hk.s7; have HB3 := Lib.hid (nx HB2.out hb3); have HT3 := Lib.hid (HT2.out.up hb3); clear hb3 hk)
    | (go_at_call 26; refine (nodes_is (e := exE) k s m u A n c _ HT3.out hsu).mono ?_; rintro x W4 ⟨rfl, hb4⟩; have HB4 := Lib.hid (nx HB3.out hb4); clear hb4))
  go_ret
  exact ⟨rfl, HB4.out⟩
end Go.Proofs.YtlokcmbkkfjlkaaGreatDoor
