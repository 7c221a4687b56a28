/- A region of many reads: that its operations may be taken in the text's order, asked once a pair. Nothing here speaks of a program. -/
import Derived.Deep.Quiet
import Derived.WalkKit
namespace Go.Proofs.YtgigibdnhpachaaDoor
open Go
set_option linter.unusedVariables false

/-- Each operation waits for earlier ones alone, and bears whatever later one does not wait for it. -/
def pairB (md : Region.Mode) (ops : Array Oper) : Nat → List Oper → Bool
  | _, [] => true
  | k, o :: rest => (o.after.toList.all fun e => !Region.binds md e || Nat.blt e.on k) && (rest.all fun oj => oj.after.toList.any (fun e => Region.binds md e && Nat.beq e.on k) || o.apart ops oj) && pairB md ops (k + 1) rest
def noSel : List Oper → Bool
  | [] => true
  | o :: rest => (match o.op with | .select .. => false | _ => true) && noSel rest
theorem noSel_all : ∀ {l : List Oper}, noSel l = true → ∀ o ∈ l, (match o.op with | .select .. => false | _ => true) = true
  | [], _, o, h => by cases h
  | p :: l, hs, o, h => by
    simp only [noSel, Bool.and_eq_true] at hs
    rcases List.mem_cons.1 h with rfl | h
    · exact hs.1
    · exact noSel_all hs.2 o h
/-- The first k are listed. -/
def Lst (N k : Nat) (listed : Array Bool) : Prop := listed.size = N ∧ ∀ j, j < N → listed[j]? = some (decide (j < k))
theorem Lst.zero (N : Nat) : Lst N 0 (Array.replicate N false) := ⟨by simp, fun j hj => by simp [hj]⟩
theorem Lst.step {N k : Nat} {listed : Array Bool} (h : Lst N k listed) : Lst N (k + 1) (listed.setIfInBounds k true) := by
  refine ⟨by simpa using h.1, fun j hj => ?_⟩
  rw [Array.getElem?_setIfInBounds]
  by_cases e : k = j
  · subst e
    rw [if_pos rfl, if_pos (by rw [h.1]; exact hj)]
    simp
  · rw [if_neg e, h.2 j hj]
    congr 1
    rw [decide_eq_decide]
    omega
theorem Lst.yes {N k : Nat} {listed : Array Bool} (h : Lst N k listed) {j : Nat} (hj : j < N) (b : Bool) : listed.getD j b = decide (j < k) := by
  have hs : j < listed.size := by rw [h.1]; exact hj
  have h2 := h.2 j hj
  rw [Array.getElem?_eq_getElem hs] at h2
  rw [Array.getD, dif_pos hs]
  exact Option.some.inj h2
theorem lexFrom_of {md : Region.Mode} {ops : Array Oper} : ∀ (l : List Oper) (k : Nat) (listed : Array Bool), k + l.length = ops.size → (∀ j, l[j]? = ops[k + j]?) → Lst ops.size k listed → pairB md ops k l = true →
    Region.lexFrom md ops l.length k listed = true
  | [], k, listed, hk, hl, hL, _ => by
    simp only [List.length_nil, Nat.add_zero] at hk
    simp only [List.length_nil, Region.lexFrom, Region.ready, List.isEmpty_iff]
    rw [List.filter_eq_nil_iff]
    intro i hi
    rw [List.mem_range] at hi
    rw [hL.yes hi]
    simp
    omega
  | o :: l, k, listed, hk, hl, hL, hB => by
    simp only [List.length_cons] at hk
    have h0 : ops[k]? = some o := by simpa using (hl 0).symm
    have hkN : k < ops.size := by omega
    simp only [pairB, Bool.and_eq_true] at hB
    obtain ⟨⟨h1, h2⟩, h3⟩ := hB
    have hrec := lexFrom_of (md := md) (ops := ops) l (k + 1) _ (by omega) (fun j => by have := hl (j + 1); simpa [Nat.add_assoc, Nat.add_comm 1 j] using this) hL.step h3
    simp only [List.length_cons, Region.lexFrom, Bool.and_eq_true]
    refine ⟨⟨?_, ?_⟩, hrec⟩
    · rw [List.contains_iff_mem]
      unfold Region.ready
      rw [List.mem_filter, List.mem_range]
      refine ⟨hkN, ?_⟩
      rw [hL.yes hkN, h0]
      simp only [Nat.lt_irrefl, decide_false, Bool.not_false, Option.map_some, Option.getD_some, Bool.true_and]
      rw [Array.all_eq_true_iff_forall_mem]
      intro e he
      have := List.all_eq_true.1 h1 e (Array.mem_toList_iff.2 he)
      simp only [Bool.or_eq_true] at this ⊢
      rcases this with h | h
      · exact .inl h
      · right
        have hlt : e.on < k := by rwa [Nat.blt_eq] at h
        rw [hL.yes (by omega)]
        simpa using hlt
    · unfold Region.free
      rw [h0]
      simp only [List.all_eq_true, List.mem_range]
      intro j hj
      simp only [Bool.or_eq_true]
      by_cases hjk : j ≤ k
      · left
        rcases Nat.lt_or_eq_of_le hjk with h | h
        · right
          rw [hL.yes hj]
          simpa using h
        · left
          simpa using h
      · right
        obtain ⟨m, rfl⟩ : ∃ m, j = k + (m + 1) := ⟨j - k - 1, by omega⟩
        have hm := hl (m + 1)
        rw [List.getElem?_cons_succ] at hm
        cases hq : ops[k + (m + 1)]? with
        | none => rfl
        | some oj =>
          rw [hq] at hm
          have := List.all_eq_true.1 h2 oj (List.mem_of_getElem? hm)
          simp only [Bool.or_eq_true] at this ⊢
          rcases this with h | h
          · left
            rw [Array.any_eq_true']
            obtain ⟨e, he, hb⟩ := List.any_eq_true.1 h
            simp only [Bool.and_eq_true] at hb
            exact ⟨e, Array.mem_toList_iff.1 he, by simp [hb.1, Nat.eq_of_beq_eq_true hb.2]⟩
          · exact .inr h
theorem lexB_of {md : Region.Mode} {l : List Oper} (h1 : noSel l = true) (h2 : pairB md l.toArray 0 l = true) : Region.lexB md l.toArray = true := by
  unfold Region.lexB
  rw [Bool.and_eq_true]
  refine ⟨?_, ?_⟩
  · unfold Region.noSelect
    rw [Array.all_eq_true_iff_forall_mem]
    intro o ho
    exact noSel_all h1 o (by simpa using ho)
  · have := lexFrom_of (md := md) (ops := l.toArray) l 0 (Array.replicate l.toArray.size false) (by simp) (by simp) (Lst.zero _) h2
    simpa using this
section
variable {P : Program}
theorem wp_region_quiet_pairs {id : Nat} {Q : Exit → Act → World → Prop} {a : Act} {w : World} {l : List Oper} (hm : P.follows .mixedOrders = true) (h1 : noSel l = true) (h2 : pairB .any l.toArray 0 l = true)
    (h : wpQuiet P l.toArray (fun w' => ∃ n, w' = w.drewN n) (fun a' => ∀ w', (∃ n, w' = w.drewN n) → Q .normal a' w') l a) : (Code.region id l.toArray true).wp P Q a w :=
  wp_region_quiet_lit hm (lexB_of h1 h2) h
end
end Go.Proofs.YtgigibdnhpachaaDoor
