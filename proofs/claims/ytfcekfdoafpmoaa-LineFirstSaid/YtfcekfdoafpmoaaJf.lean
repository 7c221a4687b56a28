/- What LineFair and LineFirst keep beside the line: a count for each of the eight processes. -/
import Derived.Test.YtfcekfdoafpmoaaJs
import Derived.Test.YtfcekfdoafpmoaaHq
namespace Go.Proofs.Ytfcekfdoafpmoaa
open Go.RowKit
set_option linter.unusedVariables false
set_option linter.unusedSimpArgs false

theorem light_yesJ (A : Option Addr) (n c : Nat) (w : World) (h : (n : Int) ≤ 300) : Calls Try.prog 25 #[.slice A n c] w fun e w' => e = .returned (.bool true) ∧ w = w' := by
  have := light_is A n c w
  rwa [decide_eq_true h] at this
theorem light_noJ (A : Option Addr) (n c : Nat) (w : World) (h : ¬ (n : Int) ≤ 300) : Calls Try.prog 25 #[.slice A n c] w fun e w' => e = .returned (.bool false) ∧ w = w' := by
  have := light_is A n c w
  rwa [decide_eq_false h] at this
/-- The cells of an array of integers. -/
def ivL (F : List Int) : List Value := F.map fun x => .int .i64 x
theorem ivL_at {F : List Int} {k : Nat} (h : k < F.length) : (ivL F)[k]? = some (.int .i64 (F.getD k 0)) := by
  simp [ivL, List.getElem?_map, List.getD_eq_getElem?_getD, List.getElem?_eq_getElem h]
theorem ivL_set (F : List Int) (k : Nat) (x : Int) : (ivL F).set k (.int .i64 x) = ivL (F.set k x) := by
  simp [ivL, List.map_set]
theorem Blk.iv {w : World} {g : Nat} {F : List Int} (h : Blk w g (ivL F)) {k : Nat} (hk : k < F.length) : w.cell? ⟨g, k, none⟩ = some (.int .i64 (F.getD k 0)) := h.cell k (ivL_at hk)
theorem Blk.ivset {w : World} {g : Nat} {F : List Int} (h : Blk w g (ivL F)) (k : Nat) (x : Int) : Blk (w.setCell ⟨g, k, none⟩ (.int .i64 x)) g (ivL (F.set k x)) := by
  rw [← ivL_set]
  exact h.set k _
theorem Blk.aside {w : World} {g a : Nat} {cs : List Value} (h : Blk w g cs) (hn : g ≠ a) (o : Nat) (v : Value) : Blk (w.setCell ⟨a, o, none⟩ v) g cs := h.of (block_set w o v hn)
/-- What the array says of a process. -/
def fL (F : List Int) (q : Pr3) : Int := F.getD (nuP q).toNat 0
theorem fL_pcN (F : List Int) {k : Nat} (hk : k < 8) : fL F (pcN (k : Int)) = F.getD k 0 := by
  unfold fL
  rw [nuP_pcN, Int.emod_eq_of_lt (by omega) (by omega)]
  rfl
theorem getD_set (F : List Int) (k j : Nat) (x : Int) (hk : k < F.length) : (F.set k x).getD j 0 = if k = j then x else F.getD j 0 := by
  simp only [List.getD_eq_getElem?_getD, List.getElem?_set]
  by_cases h : k = j
  · rw [if_pos h, if_pos h, if_pos hk]; rfl
  · rw [if_neg h, if_neg h]
/-! ### Overtakings -/
/-- The array when k processes have been looked at. -/
def stF (L X : List Wt) (w : Wt) (F : List Int) (k : Nat) : List Int := (List.range 8).map fun j => if j < k then countW L X w (fL F) (pcN (j : Int)) else F.getD j 0
theorem stF_len (L X : List Wt) (w : Wt) (F : List Int) (k : Nat) : (stF L X w F k).length = 8 := by simp [stF]
theorem stF_at {L X : List Wt} {w : Wt} {F : List Int} {k j : Nat} (hj : j < 8) : (stF L X w F k).getD j 0 = if j < k then countW L X w (fL F) (pcN (j : Int)) else F.getD j 0 := by
  simp [stF, List.getD_eq_getElem?_getD, List.getElem?_map, List.getElem?_range hj]
theorem ext8 {F G : List Int} (hF : F.length = 8) (hG : G.length = 8) (h : ∀ j, j < 8 → F.getD j 0 = G.getD j 0) : F = G := by
  apply List.ext_getElem (by rw [hF, hG])
  intro j h1 h2
  have := h j (by omega)
  simpa [List.getD_eq_getElem?_getD, List.getElem?_eq_getElem h1, List.getElem?_eq_getElem h2] using this
theorem stF_zero {L X : List Wt} {w : Wt} {F : List Int} (hF : F.length = 8) : stF L X w F 0 = F := ext8 (stF_len _ _ _ _ _) hF fun j hj => by rw [stF_at hj, if_neg (by omega)]
theorem stF_succ {L X : List Wt} {w : Wt} {F : List Int} {k : Nat} (hk : k < 8) : stF L X w F (k + 1) = (stF L X w F k).set k (countW L X w (fL F) (pcN (k : Int))) := ext8 (stF_len _ _ _ _ _) (by rw [List.length_set, stF_len]) fun j hj => by
  rw [stF_at hj, getD_set _ _ _ _ (by rw [stF_len]; exact hk), stF_at hj]
  by_cases h1 : k = j
  · subst h1
    rw [if_pos (by omega), if_pos rfl]
  · rw [if_neg h1]
    by_cases h2 : j < k
    · rw [if_pos (by omega), if_pos h2]
    · rw [if_neg (by omega), if_neg h2]
theorem stF_same {L X : List Wt} {w : Wt} {F : List Int} {k : Nat} (hk : k < 8) (h : countW L X w (fL F) (pcN (k : Int)) = F.getD k 0) : stF L X w F (k + 1) = stF L X w F k := by
  rw [stF_succ hk, h]
  refine ext8 (by rw [List.length_set, stF_len]) (stF_len _ _ _ _ _) fun j hj => ?_
  rw [getD_set _ _ _ _ (by rw [stF_len]; exact hk)]
  by_cases h1 : k = j
  · subst h1
    rw [if_pos rfl, stF_at hk, if_neg (by omega)]
  · rw [if_neg h1]
/-- What holds between two steps: the line, and how often each was overtaken. -/
structure Fa (L : List Wt) (F : List Int) : Prop where
  vl : VL L
  mem : ∀ x ∈ L, x.1 ∈ pcs
  fair : FairW L (fL F)
  len : F.length = 8
  bd : ∀ k, k < 8 → 0 ≤ F.getD k 0 ∧ F.getD k 0 ≤ 3
theorem Fa.start : Fa [] [0, 0, 0, 0, 0, 0, 0, 0] := ⟨⟨by decide, (fun x h => by cases h), List.Pairwise.nil⟩, (fun x h => by cases h), (fun x h => by cases h), rfl, (fun k h => by
  have hc : k = 0 ∨ k = 1 ∨ k = 2 ∨ k = 3 ∨ k = 4 ∨ k = 5 ∨ k = 6 ∨ k = 7 := by omega
  rcases hc with rfl | rfl | rfl | rfl | rfl | rfl | rfl | rfl <;> decide)⟩
theorem mem_stp {L : List Wt} (h : ∀ x ∈ L, x.1 ∈ pcs) (n : Int) : ∀ x ∈ (stpW L n).1, x.1 ∈ pcs := fun x hx => by
  unfold stpW at hx
  split at hx
  · exact h x (delW_mem.1 hx).1
  · split at hx
    · rcases putW_mem.1 hx with hx | rfl | ⟨y, hy, rfl⟩
      · exact h x (List.mem_of_mem_take hx)
      · exact pcN_mem _
      · exact h y (List.mem_of_mem_drop hy)
    · exact h x hx
theorem stp_no {L X : List Wt} {n : Int} (h : stpW L n = (X, false)) : X = delW L (pcN (n / 5)) ∨ X = L := by
  unfold stpW at h
  split at h
  · exact .inl (congrArg Prod.fst h).symm
  · split at h
    · cases congrArg Prod.snd h
    · exact .inr (congrArg Prod.fst h).symm
theorem stp_yes {L X : List Wt} {n : Int} (h : stpW L n = (X, true)) : inC L (clW n) = 0 ∧ X = insW L (clW n) := by
  unfold stpW at h
  split at h
  · cases congrArg Prod.snd h
  · split at h
    · rename_i hc
      exact ⟨hc, (congrArg Prod.fst h).symm⟩
    · cases congrArg Prod.snd h
theorem Fa.no {L X : List Wt} {F : List Int} (h : Fa L F) {n : Int} (hX : stpW L n = (X, false)) : Fa X F := by
  have h1 := h.vl.stp n
  have h2 := mem_stp h.mem n
  rw [hX] at h1 h2
  refine ⟨h1, h2, ?_, h.len, h.bd⟩
  rcases stp_no hX with rfl | rfl
  · exact h.fair.del _
  · exact h.fair
theorem Fa.yes {L X : List Wt} {F : List Int} (h : Fa L F) {n : Int} (hX : stpW L n = (X, true)) : Fa X (stF L X (clW n) F 8) := by
  have h1 := h.vl.stp n
  have h2 := mem_stp h.mem n
  rw [hX] at h1 h2
  obtain ⟨hc, rfl⟩ := stp_yes hX
  obtain ⟨g1, g2, g3, g4, g5⟩ := inC_0 hc
  have hn : ∀ x ∈ L, x.1 ≠ (clW n).1 := findW_neg.1 (by omega)
  have hf : FairW (insW L (clW n)) (countW L (insW L (clW n)) (clW n) (fL F)) := h.fair.ins g1.2.2 hn g3 (posW_le _ _)
  have hfl : ∀ q, q ∈ pcs → fL (stF L (insW L (clW n)) (clW n) F 8) q = countW L (insW L (clW n)) (clW n) (fL F) q := fun q hq => by
    have hr := nuP_range hq
    have e1 : (((nuP q).toNat : Nat) : Int) = nuP q := by omega
    unfold fL
    rw [stF_at (by omega), if_pos (by omega), e1, pcN_nuP hq]
    rfl
  have hfair : FairW (insW L (clW n)) (fL (stF L (insW L (clW n)) (clW n) F 8)) := fun x hx => by rw [hfl _ (h2 x hx)]; exact hf x hx
  refine ⟨h1, h2, hfair, stF_len _ _ _ _ _, fun k hk => ?_⟩
  rw [stF_at hk, if_pos hk]
  have hin : ∀ q, (∃ x ∈ insW L (clW n), x.1 = q) → 0 ≤ countW L (insW L (clW n)) (clW n) (fL F) q ∧ countW L (insW L (clW n)) (clW n) (fL F) q ≤ 3 := fun q ⟨x, hx, e⟩ => by
    have h3 := hf x hx
    rw [e] at h3
    rw [h3]
    exact (vW_num (h1.2.1 x hx)).2.2
  by_cases e1 : pcN (k : Int) = (clW n).1
  · exact hin _ ⟨clW n, putW_mem.2 (.inr (.inl rfl)), e1.symm⟩
  · by_cases e2 : findW (insW L (clW n)) (clW n).1 < findW (insW L (clW n)) (pcN (k : Int)) ∧ 0 ≤ findW L (pcN (k : Int))
    · refine hin _ ?_
      have h4 := findW_neg (l := insW L (clW n)) (p := pcN (k : Int))
      refine Decidable.byContradiction fun hno => ?_
      have h5 := h4.2 fun x hx e => hno ⟨x, hx, e⟩
      have h6 := (findW_ge (insW L (clW n)) (clW n).1).1
      have h7 := e2.1
      have h8 := (findW_ge (insW L (clW n)) (pcN (k : Int))).1
      omega
    · unfold countW
      rw [if_neg e1, if_neg e2, fL_pcN F hk]
      exact h.bd k hk
/-- The check behind a step. -/
theorem Fa.check {L : List Wt} {F : List Int} (h : Fa L F) {j m : Nat} (hj : j < L.length) (hm : m < 8) (e : (L.getD j default).1 = pcN (m : Int)) : (L.getD j default).2.2.2 = F.getD m 0 ∧ F.getD m 0 ≤ 3 := by
  have h1 := h.fair _ (getD_memW hj)
  rw [e, fL_pcN F hm] at h1
  exact ⟨h1.symm, (h.bd m hm).2⟩
end Go.Proofs.Ytfcekfdoafpmoaa
