/- Decimal numerals; texts cut at a byte; the line of a resource, the text of a catalog, and how both are read back. Nothing here speaks of a program. -/
import Derived.Test.YtohjllnfnkajjaaGreatIcut
import Derived.Test.YtohjllnfnkajjaaGreatCd
import Derived.Lib.AtoiAllCases
import Derived.Lib.SpaceU
import Derived.Lib.Fields
namespace Go.Proofs.YtohjllnfnkajjaaGreat
open Go.RowKit
set_option linter.unusedVariables false

def dgt (k : Nat) : UInt8 := UInt8.ofNat (48 + k)
theorem dgt_nat {k : Nat} (h : k < 10) : (dgt k).toNat = 48 + k := by unfold dgt; rw [UInt8.toNat_ofNat']; omega
theorem dgt_of {c : UInt8} (h1 : 48 ≤ c.toNat) (h2 : c.toNat ≤ 57) : dgt (c.toNat - 48) = c := by
  apply UInt8.toNat_inj.1
  rw [dgt_nat (by omega)]
  omega

/-- The decimal numeral of n. -/
abbrev dec (n : Nat) : List UInt8 := Lib.decDigits n
theorem dec_one {k : Nat} (h : k < 10) : dec k = [dgt k] := Lib.decDigits_one h
theorem dec_more {m k : Nat} (hm : 1 ≤ m) (hk : k < 10) : dec (10 * m + k) = dec m ++ [dgt k] := by
  have h : ¬ 10 * m + k < 10 := by omega
  rw [dec, Lib.decDigits, dif_neg h, show (10 * m + k) / 10 = m by omega, show (10 * m + k) % 10 = k by omega]
  rfl
theorem dec_big {n : Nat} (h : 10 ≤ n) : dec n = dec (n / 10) ++ [dgt (n % 10)] := by
  have e := dec_more (m := n / 10) (k := n % 10) (by omega) (by omega)
  rw [show 10 * (n / 10) + n % 10 = n by omega] at e
  exact e
theorem dec_forms {n : Nat} (h : n < 1000) : (n < 10 ∧ dec n = [dgt n]) ∨ (10 ≤ n ∧ n < 100 ∧ dec n = [dgt (n / 10), dgt (n % 10)]) ∨ (100 ≤ n ∧ dec n = [dgt (n / 100), dgt (n / 10 % 10), dgt (n % 10)]) := by
  by_cases h1 : n < 10
  · exact .inl ⟨h1, dec_one h1⟩
  · by_cases h2 : n < 100
    · exact .inr (.inl ⟨by omega, h2, by rw [dec_big (by omega), dec_one (by omega)]; rfl⟩)
    · exact .inr (.inr ⟨by omega, by rw [dec_big (by omega), dec_big (n := n / 10) (by omega), dec_one (by omega), show n / 10 / 10 = n / 100 by omega]; rfl⟩)
theorem dec_len {n : Nat} (h : n < 1000) : 1 ≤ (dec n).length ∧ (dec n).length ≤ 3 := by
  rcases dec_forms h with ⟨_, e⟩ | ⟨_, _, e⟩ | ⟨_, e⟩ <;> rw [e] <;> simp
theorem dgt_ne {k : Nat} (h : k < 10) : dgt k ≠ 46 := fun e => by
  have := congrArg UInt8.toNat e
  rw [dgt_nat h] at this
  have h46 : (46 : UInt8).toNat = 46 := rfl
  omega
theorem dec_free {n : Nat} (h : n < 1000) : 46 ∉ dec n := by
  have h0 := fun {k : Nat} (hk : k < 10) => (dgt_ne hk).symm
  rcases dec_forms h with ⟨h1, e⟩ | ⟨h1, h2, e⟩ | ⟨h1, e⟩ <;> rw [e] <;> simp only [List.mem_cons, List.not_mem_nil, or_false, not_or]
  · exact h0 h1
  · exact ⟨h0 (by omega), h0 (by omega)⟩
  · exact ⟨h0 (by omega), h0 (by omega), h0 (by omega)⟩

/-! ### strconv.Atoi at a numeral -/
theorem parse_step {acc k : Nat} (ha : acc ≤ 10000) (hk : k < 10) (r : List UInt8) : Lib.parseUint10 acc (dgt k :: r) = Lib.parseUint10 (acc * 10 + k) r := by
  rw [Lib.parseUint10, dgt_nat hk, if_pos (by omega), if_neg (by omega), if_neg (by omega), show 48 + k - 48 = k by omega]
theorem atoi_digits {k : Nat} (hk : k < 10) (r : List UInt8) {v : Nat} (hp : Lib.parseUint10 0 (dgt k :: r) = .ok v) (hv : v < 10000) : Lib.atoiAll (dgt k :: r) = .ok (v : Int) := by
  have h1 : ¬ ((dgt k).toNat = 43 ∨ (dgt k).toNat = 45) := by rw [dgt_nat hk]; omega
  have h2 : ¬ (dgt k).toNat = 45 := by rw [dgt_nat hk]; omega
  unfold Lib.atoiAll
  simp only [if_neg h1, if_neg h2, Lib.parseMag, if_neg (List.cons_ne_nil _ _), hp]
  rw [if_neg (by omega), if_neg (fun h => h2 h.1)]
theorem atoi_dec {n : Nat} (h : n < 1000) : Lib.atoiAll (dec n) = .ok (n : Int) := by
  rcases dec_forms h with ⟨h1, e⟩ | ⟨h1, h2, e⟩ | ⟨h1, e⟩ <;> rw [e]
  · exact atoi_digits h1 _ (by rw [parse_step (by omega) h1, Lib.parseUint10]; simp) (by omega)
  · exact atoi_digits (by omega) _ (by rw [parse_step (by omega) (by omega), parse_step (by omega) (by omega), Lib.parseUint10]; congr 1; omega) (by omega)
  · exact atoi_digits (by omega) _ (by rw [parse_step (by omega) (by omega), parse_step (by omega) (by omega), parse_step (by omega) (by omega), Lib.parseUint10]; congr 1; omega) (by omega)
theorem dec_inj {m n : Nat} (hm : m < 1000) (hn : n < 1000) (h : dec m = dec n) : m = n := by
  have h1 := atoi_dec hm
  rw [h, atoi_dec hn] at h1
  injection h1 with h1
  omega

/-! ### The reference's way to read a number -/
def digs : Nat → List UInt8 → Option Nat
  | acc, [] => some acc
  | acc, c :: r => if 48 ≤ c.toNat ∧ c.toNat ≤ 57 then digs (10 * acc + (c.toNat - 48)) r else none
def numO (l : List UInt8) : Option Nat := if l.length < 1 ∨ 4 < l.length ∨ (1 < l.length ∧ l.head? = some 48) then none else digs 0 l
theorem digs_step {acc k : Nat} (hk : k < 10) (r : List UInt8) : digs acc (dgt k :: r) = digs (10 * acc + k) r := by
  rw [digs, dgt_nat hk, if_pos (by omega), show 48 + k - 48 = k by omega]
theorem dgt_pos {k : Nat} (h : k < 10) (h1 : 1 ≤ k) : dgt k ≠ 48 := fun e => by
  have := congrArg UInt8.toNat e
  rw [dgt_nat h] at this
  have h48 : (48 : UInt8).toNat = 48 := rfl
  omega
theorem numO_dec {n : Nat} (h : n < 1000) : numO (dec n) = some n := by
  unfold numO
  rcases dec_forms h with ⟨h1, e⟩ | ⟨h1, h2, e⟩ | ⟨h1, e⟩ <;> rw [e]
  · rw [if_neg (by simp), digs_step h1, digs]; simp
  · have := dgt_pos (k := n / 10) (by omega) (by omega)
    rw [if_neg (by simp [this]), digs_step (by omega), digs_step (by omega), digs]; congr 1; omega
  · have := dgt_pos (k := n / 100) (by omega) (by omega)
    rw [if_neg (by simp [this]), digs_step (by omega), digs_step (by omega), digs_step (by omega), digs]; congr 1; omega
theorem digs_cons {acc : Nat} {c : UInt8} {r : List UInt8} {v : Nat} (h : digs acc (c :: r) = some v) : ∃ k, k < 10 ∧ c = dgt k ∧ digs (10 * acc + k) r = some v := by
  rw [digs] at h
  by_cases hc : 48 ≤ c.toNat ∧ c.toNat ≤ 57
  · rw [if_pos hc] at h
    exact ⟨c.toNat - 48, by omega, (dgt_of hc.1 hc.2).symm, h⟩
  · rw [if_neg hc] at h; cases h
theorem digs_dec : ∀ (r : List UInt8) (acc v : Nat), 1 ≤ acc → digs acc r = some v → dec v = dec acc ++ r
  | [], acc, v, _, h => by
    simp only [digs, Option.some.injEq] at h
    rw [h, List.append_nil]
  | c :: r, acc, v, ha, h => by
    obtain ⟨k, hk, rfl, h'⟩ := digs_cons h
    rw [digs_dec r _ v (by omega) h', dec_more ha hk]
    simp
theorem numO_some {l : List UInt8} {v : Nat} (h : numO l = some v) : l = dec v := by
  unfold numO at h
  split at h
  · cases h
  · rename_i hn
    cases l with
    | nil => simp at hn
    | cons c r =>
      obtain ⟨k, hk, rfl, h'⟩ := digs_cons h
      rw [Nat.mul_zero, Nat.zero_add] at h'
      cases r with
      | nil =>
        simp only [digs, Option.some.injEq] at h'
        rw [← h', dec_one hk]
      | cons d r =>
        have hk1 : 1 ≤ k := by
          rcases Nat.eq_zero_or_pos k with rfl | hp
          · exact absurd (.inr (.inr ⟨by simp, rfl⟩)) hn
          · exact hp
        rw [digs_dec _ _ _ hk1 h', dec_one hk]
        rfl


/-! ### A text cut at a byte -/
/-- The pieces that are done, and the one under way. -/
def stp (d : UInt8) (st : List (List UInt8) × List UInt8) (c : UInt8) : List (List UInt8) × List UInt8 := if c = d then (st.1 ++ [st.2], []) else (st.1, st.2 ++ [c])
def spl (d : UInt8) (l : List UInt8) : List (List UInt8) × List UInt8 := l.foldl (stp d) ([], [])
theorem spl_snoc (d : UInt8) (l : List UInt8) (c : UInt8) : spl d (l ++ [c]) = stp d (spl d l) c := by simp [spl]
def jn (d : UInt8) (st : List (List UInt8) × List UInt8) : List UInt8 := (st.1.map (· ++ [d])).flatten ++ st.2
theorem jn_stp (d : UInt8) (st : List (List UInt8) × List UInt8) (c : UInt8) : jn d (stp d st c) = jn d st ++ [c] := by
  unfold stp jn
  by_cases h : c = d
  · subst h; simp
  · rw [if_neg h]; simp
theorem jn_fold (d : UInt8) : ∀ (l : List UInt8) (st : List (List UInt8) × List UInt8), jn d (l.foldl (stp d) st) = jn d st ++ l
  | [], st => by simp
  | c :: r, st => by rw [List.foldl_cons, jn_fold d r, jn_stp]; simp
theorem jn_spl (d : UInt8) (l : List UInt8) : jn d (spl d l) = l := by rw [spl, jn_fold]; simp [jn]
theorem spl_free (d : UInt8) : ∀ (x r : List UInt8) (i : List (List UInt8)) (c : List UInt8), d ∉ x → (x ++ r).foldl (stp d) (i, c) = r.foldl (stp d) (i, c ++ x)
  | [], r, i, c, _ => by simp
  | b :: x, r, i, c, h => by
    have h1 : ¬ b = d := fun e => h (by simp [e])
    have h2 : d ∉ x := fun e => h (by simp [e])
    rw [List.cons_append, List.foldl_cons, stp, if_neg h1, spl_free d x r i _ h2]
    simp
theorem spl_cut (d : UInt8) (x r : List UInt8) (i : List (List UInt8)) (h : d ∉ x) : (x ++ d :: r).foldl (stp d) (i, []) = r.foldl (stp d) (i ++ [x], []) := by
  rw [spl_free d _ _ _ _ h, List.foldl_cons, stp, if_pos rfl]
  simp
theorem spl_last (d : UInt8) (x : List UInt8) (i : List (List UInt8)) (h : d ∉ x) : x.foldl (stp d) (i, []) = (i, x) := by
  have := spl_free d x [] i [] h
  rw [List.append_nil] at this
  rw [this]
  simp
theorem spl_len (d : UInt8) (l : List UInt8) : (spl d l).1.length ≤ l.length ∧ (spl d l).2.length ≤ l.length := by
  have h := congrArg List.length (jn_spl d l)
  have h2 : ∀ ps : List (List UInt8), ps.length ≤ ((ps.map (· ++ [d])).flatten).length := by
    intro ps
    induction ps with
    | nil => simp
    | cons p r ih => simp at *; omega
  have := h2 (spl d l).1
  unfold jn at h
  rw [List.length_append] at h
  omega

/-! ### The line of a resource -/
def sLock : List UInt8 := [108, 111, 99, 107]
def sPool : List UInt8 := [112, 111, 111, 108]
def sAt : List UInt8 := [97, 116]
/-- The words of the line. -/
def wds (r : P4) : List (List UInt8) := if r.2.1 = 1 then [sLock, r.1.data.toList, sAt, dec r.2.2.2.toNat] else [sPool, r.1.data.toList, dec r.2.2.1.toNat, sAt, dec r.2.2.2.toNat]
/-- The line without its end. -/
def lnL (r : P4) : List UInt8 := if r.2.1 = 1 then sLock ++ 32 :: (r.1.data.toList ++ 32 :: (sAt ++ 32 :: dec r.2.2.2.toNat)) else sPool ++ 32 :: (r.1.data.toList ++ 32 :: (dec r.2.2.1.toNat ++ 32 :: (sAt ++ 32 :: dec r.2.2.2.toNat)))
def lineL (r : P4) : List UInt8 := lnL r ++ [10]
/-- The text of a list of resources. -/
def txtL (l : List P4) : List UInt8 := (l.map lineL).flatten
theorem txtL_snoc (l : List P4) (r : P4) : txtL (l ++ [r]) = txtL l ++ lineL r := by simp [txtL]
theorem txtL_cons (r : P4) (l : List P4) : txtL (r :: l) = lineL r ++ txtL l := by simp [txtL]
/-- What Format answers. -/
def Fmt (l : List P4) (s : ByteArray) : Prop := (Vcat l ∧ s = mkB (txtL l)) ∨ (¬ Vcat l ∧ s = ⟨#[]⟩)
theorem fmt_ex (l : List P4) : ∃ s, Hid (Fmt l s) := by
  by_cases h : Vcat l
  · exact ⟨_, .inl ⟨h, rfl⟩⟩
  · exact ⟨_, .inr ⟨h, rfl⟩⟩
theorem Fmt.uniq {l : List P4} {s t : ByteArray} (h : Fmt l s) (k : Fmt l t) : s = t := by
  rcases h with ⟨h, rfl⟩ | ⟨h, rfl⟩ <;> rcases k with ⟨k, rfl⟩ | ⟨k, rfl⟩
  · rfl
  · exact absurd h k
  · exact absurd k h
  · rfl

/-! ### Bytes of names and numerals -/
theorem digit_range {k : Nat} (h : k < 10) : 48 ≤ (dgt k).toNat ∧ (dgt k).toNat ≤ 57 := by rw [dgt_nat h]; omega
theorem dec_bytes {n : Nat} (h : n < 1000) : ∀ c ∈ dec n, 48 ≤ c.toNat ∧ c.toNat ≤ 57 := by
  intro c hc
  rcases dec_forms h with ⟨h1, e⟩ | ⟨h1, h2, e⟩ | ⟨h1, e⟩ <;> rw [e] at hc <;> simp only [List.mem_cons, List.not_mem_nil, or_false] at hc
  · rw [hc]; exact digit_range h1
  · rcases hc with rfl | rfl <;> exact digit_range (by omega)
  · rcases hc with rfl | rfl | rfl <;> exact digit_range (by omega)
theorem nam_bytes {s : ByteArray} (h : Nam s) : ∀ c ∈ s.data.toList, 45 ≤ c.toNat ∧ c.toNat ≤ 122 := by
  intro c hc
  obtain ⟨i, hi, rfl⟩ := List.getElem_of_mem hc
  have hs : i < s.size := by simpa using hi
  have := h.2.2.2.1 i hs
  unfold prt byt at this
  rw [List.getD_eq_getElem?_getD, List.getElem?_eq_getElem hi] at this
  have := of_decide_eq_true this
  simp at this
  simp
  omega
theorem nam_ne {s : ByteArray} (h : Nam s) : s.data.toList ≠ [] := by
  intro e
  have := h.1
  have h2 : s.data.toList.length = s.size := by simp
  rw [e] at h2
  simp at h2
  omega
/-- A word: not empty, its bytes from '-' to 'z'. -/
def Wrd (x : List UInt8) : Prop := x ≠ [] ∧ ∀ c ∈ x, 45 ≤ c.toNat ∧ c.toNat ≤ 122
theorem Wrd.free {x : List UInt8} (h : Wrd x) {d : UInt8} (hd : d.toNat < 45) : d ∉ x := fun hm => by have := h.2 d hm; omega
theorem wrd_dec {n : Nat} (h : n < 1000) : Wrd (dec n) := ⟨fun e => by have := dec_len h; rw [e] at this; simp at this, fun c hc => by have := dec_bytes h c hc; omega⟩
theorem wrd_nam {s : ByteArray} (h : Nam s) : Wrd s.data.toList := ⟨nam_ne h, nam_bytes h⟩
theorem wrd_lock : Wrd sLock := ⟨by decide, by decide⟩
theorem wrd_pool : Wrd sPool := ⟨by decide, by decide⟩
theorem wrd_at : Wrd sAt := ⟨by decide, by decide⟩
/-- The numbers of a valid resource. -/
theorem RsR.nums {r : P4} (h : RsR r) : (r.2.1 = 1 ∧ r.2.2.1 = 1 ∨ r.2.1 = 2 ∧ 1 ≤ r.2.2.1 ∧ r.2.2.1 ≤ 8) ∧ 0 ≤ r.2.2.2 ∧ r.2.2.2 < 4 := by
  obtain ⟨_, h2, h3, h4⟩ := h
  have := of_decide_eq_true (by simpa [shp] using h2)
  omega

/-! ### Reading a line -/
def numW (x : List UInt8) : Int := match Lib.atoiAll x with | .ok v => v | _ => -1
theorem numW_dec {n : Nat} (h : n < 1000) : numW (dec n) = n := by unfold numW; rw [atoi_dec h]
/-- The resource of a list of words. -/
def plW (w : List (List UInt8)) : P4 := match w with
  | [_, b, _, d] => (mkB b, 1, 1, numW d)
  | [_, b, c, _, e] => (mkB b, 2, numW c, numW e)
  | _ => (⟨#[]⟩, 0, 0, 0)
def plF (x : List UInt8) : P4 := plW (Lib.fieldsD x)
theorem not_sp {c : UInt8} (h : 45 ≤ c.toNat) : Lib.isSp c = false := by
  have ne : ∀ d : UInt8, d.toNat < 45 → c ≠ d := fun d hd e => by rw [e] at h; omega
  unfold Lib.isSp
  simp [ne 9 (by decide), ne 10 (by decide), ne 11 (by decide), ne 12 (by decide), ne 13 (by decide), ne 32 (by decide)]
theorem fgo_word : ∀ (x cur r : List UInt8), (∀ c ∈ x, 45 ≤ c.toNat ∧ c.toNat ≤ 122) → Lib.fieldsGo cur (x ++ r) = Lib.fieldsGo (cur ++ x) r
  | [], cur, r, _ => by simp
  | b :: x, cur, r, h => by
    rw [List.cons_append, Lib.fieldsGo_more _ _ _ (not_sp (h b (by simp)).1), fgo_word x _ r (fun c hc => h c (by simp [hc]))]
    simp
theorem fgo_sp {x : List UInt8} (h : Wrd x) {d : UInt8} (hd : Lib.isSp d = true) (r : List UInt8) : Lib.fieldsGo [] (x ++ d :: r) = x :: Lib.fieldsGo [] r := by
  rw [fgo_word x [] _ h.2, List.nil_append, Lib.fieldsGo_end _ _ _ hd h.1]
theorem fields_line {r : P4} (h : RsR r) : Lib.fields (lineL r) = wds r := by
  obtain ⟨hk, h0, h4⟩ := h.nums
  have wn := wrd_nam h.1
  have wh := wrd_dec (n := r.2.2.2.toNat) (by omega)
  unfold Lib.fields lineL lnL wds
  rcases hk with ⟨hk, hu⟩ | ⟨hk, hu⟩
  · rw [if_pos hk, if_pos hk]
    simp only [List.append_assoc, List.cons_append]
    rw [fgo_sp wrd_lock rfl, fgo_sp wn rfl, fgo_sp wrd_at rfl, fgo_sp wh rfl]
    rfl
  · rw [if_neg (by omega), if_neg (by omega)]
    have wu := wrd_dec (n := r.2.2.1.toNat) (by omega)
    simp only [List.append_assoc, List.cons_append]
    rw [fgo_sp wrd_pool rfl, fgo_sp wn rfl, fgo_sp wu rfl, fgo_sp wrd_at rfl, fgo_sp wh rfl]
    rfl
theorem plW_wds {r : P4} (h : RsR r) : plW (wds r) = r := by
  obtain ⟨hk, h0, h4⟩ := h.nums
  obtain ⟨s, k, u, hm⟩ := r
  simp only at hk h0 h4
  rcases hk with ⟨rfl, rfl⟩ | ⟨rfl, hu⟩
  · simp only [wds, if_pos, plW, mkB_self, numW_dec (show hm.toNat < 1000 by omega)]
    congr 3
    omega
  · simp only [wds, show ¬ (2 : Int) = 1 by omega, if_false, plW, mkB_self, numW_dec (show hm.toNat < 1000 by omega), numW_dec (show u.toNat < 1000 by omega)]
    congr 3 <;> omega

/-! ### The lines of a text -/
theorem lnL_free {r : P4} (h : RsR r) : (10 : UInt8) ∉ lnL r := by
  obtain ⟨hk, h0, h4⟩ := h.nums
  have wn := (wrd_nam h.1).free (d := 10) (by decide)
  have wh := (wrd_dec (n := r.2.2.2.toNat) (by omega)).free (d := 10) (by decide)
  have w1 := wrd_lock.free (d := 10) (by decide)
  have w2 := wrd_pool.free (d := 10) (by decide)
  have w3 := wrd_at.free (d := 10) (by decide)
  have h32 : ¬ (10 : UInt8) = 32 := by decide
  unfold lnL
  rcases hk with ⟨hk, hu⟩ | ⟨hk, hu⟩
  · rw [if_pos hk]
    simp only [List.mem_append, List.mem_cons, not_or]
    exact ⟨w1, h32, wn, h32, w3, h32, wh⟩
  · rw [if_neg (by omega)]
    have wu := (wrd_dec (n := r.2.2.1.toNat) (by omega)).free (d := 10) (by decide)
    simp only [List.mem_append, List.mem_cons, not_or]
    exact ⟨w2, h32, wn, h32, wu, h32, w3, h32, wh⟩
theorem spl_txt_aux : ∀ (l : List P4) (i : List (List UInt8)), (∀ r ∈ l, RsR r) → (txtL l).foldl (stp 10) (i, []) = (i ++ l.map lnL, [])
  | [], i, _ => by simp [txtL]
  | r :: l, i, h => by
    rw [txtL_cons, lineL, List.append_assoc, List.singleton_append, spl_cut 10 _ _ _ (lnL_free (h r (by simp))), spl_txt_aux l _ (fun q hq => h q (by simp [hq]))]
    simp
theorem spl_txt {l : List P4} (h : Vcat l) : spl 10 (txtL l) = (l.map lnL, []) := by
  have := spl_txt_aux l [] (fun r hr => h.res hr)
  simpa [spl] using this
/-- The words of a line, cut at single spaces. -/
theorem spl_line {r : P4} (h : RsR r) : (spl 32 (lnL r)).1 ++ [(spl 32 (lnL r)).2] = wds r := by
  obtain ⟨hk, h0, h4⟩ := h.nums
  have wn := (wrd_nam h.1).free (d := 32) (by decide)
  have wh := (wrd_dec (n := r.2.2.2.toNat) (by omega)).free (d := 32) (by decide)
  have w1 := wrd_lock.free (d := 32) (by decide)
  have w2 := wrd_pool.free (d := 32) (by decide)
  have w3 := wrd_at.free (d := 32) (by decide)
  unfold spl lnL wds
  rcases hk with ⟨hk, hu⟩ | ⟨hk, hu⟩
  · rw [if_pos hk, if_pos hk, spl_cut 32 _ _ _ w1, spl_cut 32 _ _ _ wn, spl_cut 32 _ _ _ w3, spl_last 32 _ _ wh]
    rfl
  · rw [if_neg (by omega), if_neg (by omega)]
    have wu := (wrd_dec (n := r.2.2.1.toNat) (by omega)).free (d := 32) (by decide)
    rw [spl_cut 32 _ _ _ w2, spl_cut 32 _ _ _ wn, spl_cut 32 _ _ _ wu, spl_cut 32 _ _ _ w3, spl_last 32 _ _ wh]
    rfl
end Go.Proofs.YtohjllnfnkajjaaGreat
