/- Tokens of a text, in plain words. Nothing here speaks of a program. -/
import Derived.Test.YtohjllnfnkajjaaGreatCtxt
namespace Go.Proofs.YtohjllnfnkajjaaGreat
open Go.RowKit
set_option linter.unusedVariables false

/-- A token: kind, text, number, place. -/
abbrev T4 := Int × ByteArray × Int × Int

/-! ### Classes of bytes, runs -/
def spc (c : Int) : Bool := decide (c = 9 ∨ c = 10 ∨ c = 13 ∨ c = 32)
def cpl (c : Int) : Bool := decide (65 ≤ c ∧ c ≤ 90)
def dig (c : Int) : Bool := decide (48 ≤ c ∧ c ≤ 57)
def pun (c : Int) : Bool := decide (c = 40 ∨ c = 41 ∨ c = 44 ∨ c = 58 ∨ c = 42)
/-- How many bytes at the front are of a class. -/
def tw (p : Int → Bool) : List UInt8 → Nat
  | [] => 0
  | c :: r => if p (c.toNat : Int) = true then tw p r + 1 else 0
theorem tw_le (p : Int → Bool) : ∀ l, tw p l ≤ l.length
  | [] => Nat.le_refl _
  | c :: r => by
    unfold tw
    have := tw_le p r
    split <;> simp <;> omega
theorem tw_cons {p : Int → Bool} {c : UInt8} (h : p (c.toNat : Int) = true) (r : List UInt8) : tw p (c :: r) = tw p r + 1 := by rw [tw, if_pos h]
theorem tw_stop {p : Int → Bool} {c : UInt8} (h : p (c.toNat : Int) = false) (r : List UInt8) : tw p (c :: r) = 0 := by rw [tw, if_neg (by simp [h])]
theorem tw_mem {p : Int → Bool} : ∀ {l : List UInt8}, ∀ c ∈ l.take (tw p l), p (c.toNat : Int) = true
  | [], c, h => by simp at h
  | d :: r, c, h => by
    by_cases hd : p (d.toNat : Int) = true
    · rw [tw_cons hd, List.take_succ_cons] at h
      rcases List.mem_cons.1 h with rfl | h
      · exact hd
      · exact tw_mem c h
    · rw [tw, if_neg hd] at h
      simp at h
theorem tw_app {p : Int → Bool} : ∀ {x : List UInt8} (r : List UInt8), (∀ c ∈ x, p (c.toNat : Int) = true) → tw p (x ++ r) = x.length + tw p r
  | [], r, _ => by simp
  | c :: x, r, h => by
    rw [List.cons_append, tw_cons (h c (by simp)), tw_app r (fun d hd => h d (by simp [hd]))]
    simp only [List.length_cons]
    omega
theorem byt_drop {s : ByteArray} {i : Nat} (h : i < s.size) : ∃ c, s.data.toList.drop i = c :: s.data.toList.drop (i + 1) ∧ ((c.toNat : Nat) : Int) = byt s i := by
  have hl : i < s.data.toList.length := by simpa using h
  refine ⟨s.data.toList[i], List.drop_eq_getElem_cons hl, ?_⟩
  unfold byt
  rw [List.getD_eq_getElem?_getD, List.getElem?_eq_getElem hl]
  rfl
theorem tw_here {p : Int → Bool} {s : ByteArray} {i : Nat} (h : i < s.size) (hp : p (byt s i) = true) : tw p (s.data.toList.drop i) = tw p (s.data.toList.drop (i + 1)) + 1 := by
  obtain ⟨c, e, hc⟩ := byt_drop h
  rw [e, tw_cons (by rw [hc]; exact hp)]
theorem tw_none {p : Int → Bool} {s : ByteArray} {i : Nat} (h : i < s.size) (hp : p (byt s i) = false) : tw p (s.data.toList.drop i) = 0 := by
  obtain ⟨c, e, hc⟩ := byt_drop h
  rw [e, tw_stop (by rw [hc]; exact hp)]
theorem tw_end {p : Int → Bool} {s : ByteArray} {i : Nat} (h : s.size ≤ i) : tw p (s.data.toList.drop i) = 0 := by
  have : s.data.toList.drop i = [] := List.drop_eq_nil_of_le (by simpa using h)
  rw [this]
  rfl
theorem tw_size (p : Int → Bool) {s : ByteArray} {i : Nat} (h : i ≤ s.size) : i + tw p (s.data.toList.drop i) ≤ s.size := by
  have := tw_le p (s.data.toList.drop i)
  rw [List.length_drop] at this
  have e : s.data.toList.length = s.size := by simp
  omega
/-- The end of the run that a walk has followed from i to j. -/
theorem tw_run {p : Int → Bool} {s : ByteArray} : ∀ {d i : Nat}, i + d ≤ s.size → (∀ q, i ≤ q → q < i + d → p (byt s q) = true) → tw p (s.data.toList.drop i) = d + tw p (s.data.toList.drop (i + d))
  | 0, i, _, _ => by simp
  | d + 1, i, h, hp => by
    rw [tw_here (by omega) (hp i (by omega) (by omega)), tw_run (d := d) (i := i + 1) (by omega) (fun q h1 h2 => hp q (by omega) (by omega)), show i + 1 + d = i + (d + 1) by omega]
    omega

/-! ### One token -/
def mdL (l : List UInt8) : Int := if l = [73, 83] then 1 else if l = [73, 88] then 2 else if l = [83] then 3 else if l = [83, 73, 88] then 4 else if l = [88] then 5 else 0
inductive Tk where
  | sp
  | bad (e : Int)
  | tok (k : Int) (t : List UInt8) (n : Int) (q : Nat)
def tkN (q : Nat) : Option Nat → Tk
  | none => .bad 8
  | some n => .tok 3 [] n q
def tk1 (v : Int) (l : List UInt8) : Tk :=
  if spc v = true then .sp
  else if ltr v = true then (if 12 < tw prt l then .bad 9 else .tok 1 (l.take (tw prt l)) 0 (tw prt l))
  else if cpl v = true then (if mdL (l.take (tw cpl l)) = 0 then .bad 8 else .tok 2 (l.take (tw cpl l)) (mdL (l.take (tw cpl l))) (tw cpl l))
  else if dig v = true then tkN (tw dig l) (numO (l.take (tw dig l)))
  else if pun v = true then .tok 4 (l.take 1) 0 1
  else .bad 8
theorem tk1_len {c : UInt8} {r : List UInt8} {k : Int} {t : List UInt8} {n : Int} {q : Nat} (h : tk1 (c.toNat : Int) (c :: r) = .tok k t n q) : 1 ≤ q ∧ q ≤ (c :: r).length := by
  unfold tk1 at h
  split at h
  · cases h
  · split at h
    · rename_i h1
      have hp : prt (c.toNat : Int) = true := by unfold ltr at h1; unfold prt; simp at *; omega
      split at h
      · cases h
      · injection h with _ _ _ h4
        subst h4
        exact ⟨by rw [tw_cons hp]; omega, tw_le _ _⟩
    · split at h
      · rename_i h1
        split at h
        · cases h
        · injection h with _ _ _ h4
          subst h4
          exact ⟨by rw [tw_cons h1]; omega, tw_le _ _⟩
      · split at h
        · rename_i h1
          cases hn : numO ((c :: r).take (tw dig (c :: r))) with
          | none => rw [hn] at h; cases h
          | some v =>
            rw [hn] at h
            injection h with _ _ _ h4
            subst h4
            exact ⟨by rw [tw_cons h1]; omega, tw_le _ _⟩
        · split at h
          · injection h with _ _ _ h4
            subst h4
            exact ⟨by omega, by simp⟩
          · cases h

/-! ### All tokens -/
inductive LR where
  | ok (l : List T4)
  | no (i : Nat) (e : Int)
def LR.put (a : List T4) : LR → LR
  | .ok l => .ok (a ++ l)
  | .no i e => .no i e
theorem LR.put_nil (r : LR) : r.put [] = r := by cases r <;> rfl
theorem LR.put_put (a b : List T4) (r : LR) : (r.put b).put a = r.put (a ++ b) := by cases r <;> simp [LR.put]
def lexF : Nat → Nat → List UInt8 → LR
  | 0, i, _ => .ok [(5, mkB [], 0, (i : Int))]
  | _ + 1, i, [] => .ok [(5, mkB [], 0, (i : Int))]
  | f + 1, i, c :: r => match tk1 (c.toNat : Int) (c :: r) with
    | .sp => lexF f (i + 1) r
    | .bad e => .no i e
    | .tok k t n q => (lexF f (i + q) ((c :: r).drop q)).put [(k, mkB t, n, (i : Int))]
theorem lexF_more : ∀ (f g i : Nat) (l : List UInt8), l.length ≤ f → l.length ≤ g → lexF f i l = lexF g i l
  | 0, 0, _, _, _, _ => rfl
  | 0, g + 1, i, [], _, _ => rfl
  | 0, _ + 1, _, _ :: _, h, _ => by simp at h
  | f + 1, 0, i, [], _, _ => rfl
  | _ + 1, 0, _, _ :: _, _, h => by simp at h
  | f + 1, g + 1, i, [], _, _ => rfl
  | f + 1, g + 1, i, c :: r, h, k => by
    simp only [List.length_cons] at h k
    cases ht : tk1 (c.toNat : Int) (c :: r) with
    | sp => simp only [lexF, ht]; exact lexF_more f g _ r (by omega) (by omega)
    | bad e => simp only [lexF, ht]
    | tok k t n q =>
      have hq := (tk1_len ht).1
      simp only [lexF, ht]
      rw [lexF_more f g _ _ (by simp; omega) (by simp; omega)]
/-- The tokens of a list of bytes whose first byte has the place i. -/
def lexL (i : Nat) (l : List UInt8) : LR := lexF l.length i l
theorem lexL_nil (i : Nat) : lexL i [] = .ok [(5, mkB [], 0, (i : Int))] := rfl
theorem lexL_sp {c : UInt8} (h : spc (c.toNat : Int) = true) (i : Nat) (r : List UInt8) : lexL i (c :: r) = lexL (i + 1) r := by
  have ht : tk1 (c.toNat : Int) (c :: r) = .sp := by unfold tk1; rw [if_pos h]
  unfold lexL
  rw [List.length_cons]
  simp only [lexF, ht]
theorem lexL_bad {c : UInt8} {r : List UInt8} {e : Int} (h : tk1 (c.toNat : Int) (c :: r) = .bad e) (i : Nat) : lexL i (c :: r) = .no i e := by
  unfold lexL
  rw [List.length_cons]
  simp only [lexF, h]
theorem lexL_tok {c : UInt8} {r : List UInt8} {k : Int} {t : List UInt8} {n : Int} {q : Nat} (h : tk1 (c.toNat : Int) (c :: r) = .tok k t n q) (i : Nat) :
    lexL i (c :: r) = (lexL (i + q) ((c :: r).drop q)).put [(k, mkB t, n, (i : Int))] := by
  have hq := (tk1_len h).1
  unfold lexL
  rw [show (c :: r).length = r.length + 1 from rfl]
  simp only [lexF, h]
  rw [lexF_more r.length ((c :: r).drop q).length _ _ (by simp; omega) (Nat.le_refl _)]
/-- The tokens of a text from the place i on. -/
def lexAt (s : ByteArray) (i : Nat) : LR := lexL i (s.data.toList.drop i)
theorem lex_end (s : ByteArray) : lexAt s s.size = .ok [(5, mkB [], 0, (s.size : Int))] := by
  unfold lexAt
  have : s.data.toList.drop s.size = [] := List.drop_eq_nil_of_le (by simp)
  rw [this, lexL_nil]
theorem lex_sp {s : ByteArray} {i : Nat} (h : i < s.size) (hs : spc (byt s i) = true) : lexAt s i = lexAt s (i + 1) := by
  obtain ⟨c, e, hc⟩ := byt_drop h
  unfold lexAt
  rw [e, lexL_sp (by rw [hc]; exact hs)]
theorem lex_sps {s : ByteArray} : ∀ {d i : Nat}, i + d ≤ s.size → (∀ q, i ≤ q → q < i + d → spc (byt s q) = true) → lexAt s i = lexAt s (i + d)
  | 0, i, _, _ => rfl
  | d + 1, i, h, hp => by
    rw [lex_sp (by omega) (hp i (by omega) (by omega)), lex_sps (d := d) (i := i + 1) (by omega) (fun q h1 h2 => hp q (by omega) (by omega)), show i + 1 + d = i + (d + 1) by omega]
/-- One token at the place i. -/
def tkAt (s : ByteArray) (i : Nat) : Tk := tk1 (byt s i) (s.data.toList.drop i)
theorem lex_bad {s : ByteArray} {i : Nat} {e : Int} (h : i < s.size) (ht : tkAt s i = .bad e) : lexAt s i = .no i e := by
  obtain ⟨c, hd, hc⟩ := byt_drop h
  unfold tkAt at ht
  unfold lexAt
  rw [hd, ← hc] at ht
  rw [hd, lexL_bad ht]
theorem lex_tok {s : ByteArray} {i : Nat} {k : Int} {t : List UInt8} {n : Int} {q : Nat} (h : i < s.size) (ht : tkAt s i = .tok k t n q) : lexAt s i = (lexAt s (i + q)).put [(k, mkB t, n, (i : Int))] := by
  obtain ⟨c, hd, hc⟩ := byt_drop h
  unfold tkAt at ht
  unfold lexAt
  rw [hd, ← hc] at ht
  rw [hd, lexL_tok ht, ← hd, List.drop_drop]
theorem tkAt_len {s : ByteArray} {i : Nat} {k : Int} {t : List UInt8} {n : Int} {q : Nat} (h : i < s.size) (ht : tkAt s i = .tok k t n q) : 1 ≤ q ∧ i + q ≤ s.size := by
  obtain ⟨c, hd, hc⟩ := byt_drop h
  unfold tkAt at ht
  rw [hd, ← hc] at ht
  have := tk1_len ht
  rw [← hd, List.length_drop] at this
  have e : s.data.toList.length = s.size := by simp
  omega
/-- What Tokens answers. -/
def lexA : LR → List T4 × Int × Int
  | .ok l => (l, 0, 0)
  | .no i e => ([], (i : Int), e)
def lexR (s : ByteArray) : List T4 × Int × Int := if 1024 < s.size then ([], 0, 3) else lexA (lexAt s 0)
end Go.Proofs.YtohjllnfnkajjaaGreat
