/- Tokens of a text with space ahead of it, of a numeral, and what tokens say of their text. Nothing here speaks of a program. -/
import Derived.Test.YtlokcmbkkfjlkaaGreatDoorLnum
namespace Go.Proofs.YtlokcmbkkfjlkaaGreatDoor
open Go.RowKit
set_option linter.unusedVariables false

/-! ### Space ahead -/
def mv (n : Nat) (t : T4) : T4 := (t.1, t.2.1, t.2.2.1, t.2.2.2 + (n : Int))
def LR.mv (n : Nat) : LR → LR
  | .ok l => .ok (l.map (Go.Proofs.YtlokcmbkkfjlkaaGreatDoor.mv n))
  | .no i e => .no (i + n) e
theorem LR.mv_put (n : Nat) (a : List T4) (r : LR) : (r.put a).mv n = (r.mv n).put (a.map (Go.Proofs.YtlokcmbkkfjlkaaGreatDoor.mv n)) := by cases r <;> simp [LR.mv, LR.put]
theorem lex_mv (n : Nat) : ∀ (f i : Nat) (l : List UInt8), l.length ≤ f → lexL (i + n) l = (lexL i l).mv n
  | f, i, [], _ => by
    rw [lexL_nil, lexL_nil]
    simp [LR.mv, Go.Proofs.YtlokcmbkkfjlkaaGreatDoor.mv]
  | 0, i, c :: r, h => by simp at h
  | f + 1, i, c :: r, h => by
    simp only [List.length_cons] at h
    cases ht : tk1 (c.toNat : Int) (c :: r) with
    | sp =>
      have hs : ∀ j, lexL j (c :: r) = lexL (j + 1) r := fun j => by
        unfold lexL
        rw [List.length_cons]
        simp only [lexF, ht]
      rw [hs, hs, show i + n + 1 = i + 1 + n by omega, lex_mv n f _ r (by omega)]
    | bad e => rw [lexL_bad ht, lexL_bad ht]; rfl
    | tok k t m q =>
      have hq := (tk1_len ht).1
      rw [lexL_tok ht, lexL_tok ht, show i + n + q = i + q + n by omega, lex_mv n f _ _ (by simp; omega), LR.mv_put]
      rfl
theorem lex_pads : ∀ (p r : List UInt8) (i : Nat), (∀ c ∈ p, spc (c.toNat : Int) = true) → lexL i (p ++ r) = lexL (i + p.length) r
  | [], r, i, _ => by simp
  | c :: p, r, i, h => by
    rw [List.cons_append, lexL_sp (h c (by simp)), lex_pads p r _ (fun d hd => h d (by simp [hd])), List.length_cons, show i + 1 + p.length = i + (p.length + 1) by omega]
/-- The answer for a text with n spaces ahead. -/
theorem lexR_pads {s t : ByteArray} {p : List UInt8} (ht : t.data.toList = p ++ s.data.toList) (hp : ∀ c ∈ p, spc (c.toNat : Int) = true) (hs : s.size ≤ 1024) (h2 : t.size ≤ 1024) :
    lexR t = ((lexR s).1.map (mv p.length), (if (lexR s).2.2 = 0 then 0 else (lexR s).2.1 + (p.length : Int)), (lexR s).2.2) ∧ ((lexR s).2.2 = 0 ∨ (lexR s).1 = []) := by
  have e : lexAt t 0 = (lexAt s 0).mv p.length := by
    unfold lexAt
    rw [List.drop_zero, List.drop_zero, ht, lex_pads p _ 0 hp, lex_mv p.length _ 0 _ (Nat.le_refl _)]
  unfold lexR
  rw [if_neg (by omega), if_neg (by omega), e]
  cases h : lexAt s 0 with
  | ok l => simp [LR.mv, lexA]
  | no i m =>
    have hm : m ≠ 0 := by
      have : ∀ (f i : Nat) (l : List UInt8) (j : Nat), l.length ≤ f → lexL i l ≠ .no j 0 := by
        intro f
        induction f with
        | zero =>
          intro i l j hl
          have : l = [] := List.eq_nil_of_length_eq_zero (by omega)
          subst this
          rw [lexL_nil]
          simp
        | succ f ih =>
          intro i l j hl
          cases l with
          | nil => rw [lexL_nil]; simp
          | cons c r =>
            simp only [List.length_cons] at hl
            cases ht : tk1 (c.toNat : Int) (c :: r) with
            | sp =>
              have hs : lexL i (c :: r) = lexL (i + 1) r := by
                unfold lexL
                rw [List.length_cons]
                simp only [lexF, ht]
              rw [hs]
              exact ih _ _ _ (by omega)
            | bad e =>
              rw [lexL_bad ht]
              intro hh
              injection hh with _ hh
              subst hh
              unfold tk1 at ht
              split at ht
              · cases ht
              · split at ht
                · split at ht
                  · injection ht with ht; omega
                  · cases ht
                · split at ht
                  · split at ht
                    · injection ht with ht; omega
                    · cases ht
                  · split at ht
                    · cases hn : numO ((c :: r).take (tw dig (c :: r))) with
                      | none => rw [hn] at ht; injection ht with ht; omega
                      | some v => rw [hn] at ht; cases ht
                    · split at ht
                      · cases ht
                      · injection ht with ht; omega
            | tok k t m q =>
              have hq := (tk1_len ht).1
              rw [lexL_tok ht]
              cases h2 : lexL (i + q) ((c :: r).drop q) with
              | ok y => simp [LR.put]
              | no i2 e2 =>
                intro hh
                simp only [LR.put, LR.no.injEq] at hh
                obtain ⟨rfl, rfl⟩ := hh
                exact ih _ _ _ (by simp; omega) h2
      rintro rfl
      exact this _ 0 _ i (Nat.le_refl _) (by unfold lexAt at h; exact h)
    simp [LR.mv, lexA, hm]
end Go.Proofs.YtlokcmbkkfjlkaaGreatDoor
