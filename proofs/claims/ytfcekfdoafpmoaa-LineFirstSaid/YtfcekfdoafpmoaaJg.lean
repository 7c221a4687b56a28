/- What LineFirst keeps beside the line: when each process came. -/
import Derived.Test.YtfcekfdoafpmoaaJf
namespace Go.Proofs.Ytfcekfdoafpmoaa
open Go.RowKit
set_option linter.unusedVariables false
set_option linter.unusedSimpArgs false

/-- What holds before step i. -/
structure Ca (L : List Wt) (F : List Int) (i : Nat) : Prop where
  vl : VL L
  mem : ∀ x ∈ L, x.1 ∈ pcs
  fst : FirstW L (fL F)
  len : F.length = 8
  bd : ∀ k, k < 8 → F.getD k 0 ≤ (i : Int)
theorem Ca.start : Ca [] [0, 0, 0, 0, 0, 0, 0, 0] 0 := ⟨⟨by decide, (fun x h => by cases h), List.Pairwise.nil⟩, (fun x h => by cases h), List.Pairwise.nil, rfl, (fun k h => by
  have hc : k = 0 ∨ k = 1 ∨ k = 2 ∨ k = 3 ∨ k = 4 ∨ k = 5 ∨ k = 6 ∨ k = 7 := by omega
  rcases hc with rfl | rfl | rfl | rfl | rfl | rfl | rfl | rfl <;> decide)⟩
theorem Ca.no {L X : List Wt} {F : List Int} {i : Nat} (h : Ca L F i) {n : Int} (hX : stpW L n = (X, false)) : Ca X F (i + 1) := by
  have h1 := h.vl.stp n
  have h2 := mem_stp h.mem n
  rw [hX] at h1 h2
  refine ⟨h1, h2, ?_, h.len, fun k hk => by have := h.bd k hk; omega⟩
  rcases stp_no hX with rfl | rfl
  · exact h.fst.del _
  · exact h.fst
theorem Ca.yes {L X : List Wt} {F : List Int} {i : Nat} (h : Ca L F i) {n : Int} (hX : stpW L n = (X, true)) {k : Nat} (hk : n / 5 % 8 = (k : Int)) : Ca X (F.set k (i : Int)) (i + 1) := by
  have h1 := h.vl.stp n
  have h2 := mem_stp h.mem n
  rw [hX] at h1 h2
  obtain ⟨hc, rfl⟩ := stp_yes hX
  obtain ⟨g1, g2, g3, g4, g5⟩ := inC_0 hc
  have hn : ∀ x ∈ L, x.1 ≠ (clW n).1 := findW_neg.1 (by omega)
  have hk8 : k < 8 := by omega
  have hnu : nuP (clW n).1 = (k : Int) := by rw [show (clW n).1 = pcN (n / 5) from rfl, nuP_pcN, hk]
  have hgx : ∀ x ∈ L, fL (F.set k (i : Int)) x.1 = fL F x.1 := fun x hx => by
    have hp := h.mem x hx
    have hr := nuP_range hp
    have hne : ¬ k = (nuP x.1).toNat := fun e => hn x hx (nuP_inj hp (pcN_mem _) (by rw [hnu]; omega))
    unfold fL
    rw [getD_set _ _ _ _ (by rw [h.len]; exact hk8), if_neg hne]
  have hgw : fL (F.set k (i : Int)) (clW n).1 = (i : Int) := by
    unfold fL
    rw [hnu, getD_set _ _ _ _ (by rw [h.len]; exact hk8), if_pos (by omega)]
  have hL : FirstW L (fL (F.set k (i : Int))) := List.Pairwise.imp_of_mem (fun ha hb hab e => by rw [hgx _ ha, hgx _ hb]; exact hab e) h.fst
  refine ⟨h1, h2, hL.ins hn (fun q _ => rfl) (fun x hx => ?_), by rw [List.length_set]; exact h.len, fun m hm => ?_⟩
  · rw [hgx x hx, hgw]
    have hr := nuP_range (h.mem x hx)
    exact h.bd _ (by omega)
  · rw [getD_set _ _ _ _ (by rw [h.len]; exact hk8)]
    split
    · omega
    · have := h.bd m hm
      omega
/-- The check behind a step. -/
theorem Ca.check {L : List Wt} {F : List Int} {i : Nat} (h : Ca L F i) {a b : Nat} (hab : a < b) (hb : b < L.length) (e : (L.getD a default).2.2.1 = (L.getD b default).2.2.1) {k1 k2 : Nat} (h1 : nuP (L.getD a default).1 = (k1 : Int)) (h2 : nuP (L.getD b default).1 = (k2 : Int)) : F.getD k1 0 ≤ F.getD k2 0 := by
  have h3 := List.pairwise_iff_getElem.1 h.fst a b (by omega) hb hab
  have ea : L.getD a default = L[a] := by rw [List.getD_eq_getElem?_getD, List.getElem?_eq_getElem (by omega)]; rfl
  have eb : L.getD b default = L[b] := by rw [List.getD_eq_getElem?_getD, List.getElem?_eq_getElem hb]; rfl
  rw [ea] at e h1
  rw [eb] at e h2
  have h4 := h3 e
  unfold fL at h4
  rw [h1, h2] at h4
  exact h4
theorem Ca.nu {L : List Wt} {F : List Int} {i : Nat} (h : Ca L F i) {a : Nat} (ha : a < L.length) : ∃ k : Nat, nuP (L.getD a default).1 = (k : Int) ∧ k < 8 := by
  have hr := nuP_range (h.mem _ (getD_memW ha))
  exact ⟨(nuP (L.getD a default).1).toNat, by omega, by omega⟩
end Go.Proofs.Ytfcekfdoafpmoaa
