/- Texts cut at points; decimal numerals; the text of a process. Nothing here speaks of a program. -/
import Derived.Lib.Split
import Derived.Lib.Bytealg
import Derived.Lib.ItoaNum
import Derived.Lib.AtoiAll
namespace Go.Proofs.YtohjllnfnkajjaaGreat

/-- A text cut at its first point. -/
def cutDot : List UInt8 → Option (List UInt8 × List UInt8)
  | [] => none
  | b :: r => if b = 46 then some ([], r) else match cutDot r with | none => none | some (x, y) => some (b :: x, y)

theorem cutDot_none {l : List UInt8} (h : cutDot l = none) : 46 ∉ l ∧ Lib.indexByte l 46 = -1 := by
  induction l with
  | nil => exact ⟨by simp, rfl⟩
  | cons b r ih =>
    unfold cutDot at h
    by_cases hb : b = 46
    · rw [if_pos hb] at h; cases h
    · rw [if_neg hb] at h
      cases hr : cutDot r with
      | some p => rw [hr] at h; cases h
      | none =>
        obtain ⟨h1, h2⟩ := ih hr
        refine ⟨by simp [h1]; exact fun e => hb e.symm, ?_⟩
        unfold Lib.indexByte
        rw [if_neg (by simpa using hb), h2]
        rfl
theorem cutDot_some {l x y : List UInt8} (h : cutDot l = some (x, y)) : l = x ++ 46 :: y ∧ 46 ∉ x ∧ Lib.indexByte l 46 = x.length := by
  induction l generalizing x with
  | nil => cases h
  | cons b r ih =>
    unfold cutDot at h
    by_cases hb : b = 46
    · rw [if_pos hb] at h
      simp only [Option.some.injEq, Prod.mk.injEq] at h
      obtain ⟨rfl, rfl⟩ := h
      subst hb
      exact ⟨rfl, by simp, by unfold Lib.indexByte; simp⟩
    · rw [if_neg hb] at h
      cases hr : cutDot r with
      | none => rw [hr] at h; cases h
      | some p =>
        obtain ⟨x', y'⟩ := p
        rw [hr] at h
        simp only [Option.some.injEq, Prod.mk.injEq] at h
        obtain ⟨rfl, rfl⟩ := h
        obtain ⟨h1, h2, h3⟩ := ih hr
        refine ⟨by rw [h1]; rfl, by simp [h2]; exact fun e => hb e.symm, ?_⟩
        unfold Lib.indexByte
        rw [if_neg (by simpa using hb), h3]
        have : ¬ ((x'.length : Int) == -1) = true := by intro e; have := beq_iff_eq.1 e; omega
        rw [if_neg this]
        simp
theorem cutDot_at {x : List UInt8} (h : 46 ∉ x) (y : List UInt8) : cutDot (x ++ 46 :: y) = some (x, y) := by
  induction x with
  | nil => simp [cutDot]
  | cons b r ih =>
    have hb : b ≠ 46 := fun e => h (by simp [e])
    rw [List.cons_append, cutDot, if_neg hb, ih (fun e => h (by simp [e]))]
theorem cutDot_free {x : List UInt8} (h : 46 ∉ x) : cutDot x = none := by
  cases hx : cutDot x with
  | none => rfl
  | some p => exact absurd (by rw [(cutDot_some (x := p.1) (y := p.2) hx).1]; simp) h

/-- A text cut at its first k points at most. -/
def cutN : Nat → List UInt8 → List (List UInt8)
  | 0, l => [l]
  | k + 1, l => match cutDot l with | none => [l] | some (x, y) => x :: cutN k y
theorem cutN_none {k : Nat} {l : List UInt8} (h : cutDot l = none) : cutN k l = [l] := by
  cases k with
  | zero => rfl
  | succ k => rw [cutN, h]
theorem cutN_some {k : Nat} {l x y : List UInt8} (h : cutDot l = some (x, y)) : cutN (k + 1) l = x :: cutN k y := by rw [cutN, h]
theorem cutN_len : ∀ (k : Nat) (l : List UInt8), 1 ≤ (cutN k l).length ∧ (cutN k l).length ≤ k + 1
  | 0, _ => by simp [cutN]
  | k + 1, l => by
    cases h : cutDot l with
    | none => rw [cutN_none h]; simp
    | some p =>
      obtain ⟨x, y⟩ := p
      rw [cutN_some h]
      have := cutN_len k y
      simp; omega
theorem cutN_sizes : ∀ (k : Nat) (l p : List UInt8), p ∈ cutN k l → p.length ≤ l.length
  | 0, l, p, h => by simp [cutN] at h; rw [h]; exact Nat.le_refl _
  | k + 1, l, p, h => by
    cases hc : cutDot l with
    | none => rw [cutN_none hc] at h; simp at h; rw [h]; exact Nat.le_refl _
    | some q =>
      obtain ⟨x, y⟩ := q
      rw [cutN_some hc] at h
      have e := congrArg List.length (cutDot_some hc).1
      simp at e
      rcases List.mem_cons.1 h with rfl | h
      · omega
      · have := cutN_sizes k y p h; omega
/-- Fewer points than cuts: then more cuts change nothing. -/
theorem cutN_three {x y z : List UInt8} (hx : 46 ∉ x) (hy : 46 ∉ y) (hz : 46 ∉ z) (k : Nat) : cutN (k + 2) (x ++ 46 :: (y ++ 46 :: z)) = [x, y, z] := by
  rw [cutN_some (cutDot_at hx _), cutN_some (cutDot_at hy _), cutN_none (cutDot_free hz)]

/-! ### Bytes of lists -/
def mkB (l : List UInt8) : ByteArray := ⟨l.toArray⟩
theorem mkB_toList (l : List UInt8) : (mkB l).toList = l := by rw [ByteArray.toList_eq]; simp [mkB]
theorem mkB_data (l : List UInt8) : (mkB l).data.toList = l := by simp [mkB]
theorem mkB_size (l : List UInt8) : (mkB l).size = l.length := by simp [mkB, ByteArray.size]
theorem mkB_self (s : ByteArray) : mkB s.data.toList = s := by cases s; simp [mkB]
theorem mkB_front {s : ByteArray} {x y : List UInt8} (h : s.data.toList = x ++ 46 :: y) : s.extract 0 x.length = mkB x := by
  apply ByteArray.ext
  apply Array.toList_inj.1
  simp [mkB, h]
theorem mkB_back {s : ByteArray} {x y : List UInt8} (h : s.data.toList = x ++ 46 :: y) : s.extract (x.length + 1) s.size = mkB y := by
  have hs : s.size = x.length + 1 + y.length := by
    have := congrArg List.length h
    simp at this
    omega
  apply ByteArray.ext
  apply Array.toList_inj.1
  simp [mkB, h, hs]
end Go.Proofs.YtohjllnfnkajjaaGreat
