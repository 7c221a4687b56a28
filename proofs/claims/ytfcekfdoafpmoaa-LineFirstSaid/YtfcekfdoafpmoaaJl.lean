/- Scripts on a waiting line in plain words: who was overtaken how often, who came first. Nothing here speaks of a program. -/
import Derived.Test.YtfcekfdoafpmoaaJd
namespace Go.Proofs.Ytfcekfdoafpmoaa
open Go.RowKit
set_option linter.unusedVariables false

/-- Each claim's number of times passed is what f counts. -/
def FairW (l : List Wt) (f : Pr3 → Int) : Prop := ∀ x ∈ l, f x.1 = x.2.2.2
theorem FairW.del {l : List Wt} {f : Pr3 → Int} (h : FairW l f) (p : Pr3) : FairW (delW l p) f := fun x hx => h x (delW_mem.1 hx).1
/-- What the count becomes behind an insertion of w: 0 for w, one more for who stands behind w and stood there before. -/
def countW (l X : List Wt) (w : Wt) (f : Pr3 → Int) (q : Pr3) : Int := if q = w.1 then 0 else if findW X w.1 < findW X q ∧ 0 ≤ findW l q then f q + 1 else f q
theorem FairW.ins {l : List Wt} {w : Wt} {f : Pr3 → Int} (h : FairW l f) (hA : ApW l) (hn : ∀ x ∈ l, x.1 ≠ w.1) (hw : w.2.2.2 = 0) {k : Nat} (hk : k ≤ l.length) : FairW (putW l w k) (countW l (putW l w k) w f) := fun y hy => by
  unfold countW
  have hF := findW_put (l := l) (w := w) hk hn
  have hsp : ApW (l.take k ++ l.drop k) := by rw [List.take_append_drop]; exact hA
  rw [ApW, List.pairwise_append] at hsp
  rcases putW_mem.1 hy with hy | rfl | ⟨x, hx, rfl⟩
  · have hl := List.mem_of_mem_take hy
    rw [if_neg (hn y hl), if_neg]
    · exact h y hl
    · rintro ⟨h1, _⟩
      have h2 := findW_front (l := l) (w := w) (k := k) (p := y.1) ⟨y, hy, rfl⟩
      omega
  · rw [if_pos rfl]
    exact hw.symm
  · have hl := List.mem_of_mem_drop hx
    rw [if_neg (show (bump x).1 ≠ w.1 from hn x hl), if_pos]
    · rw [show (bump x).1 = x.1 from rfl, h x hl]
      rfl
    · refine ⟨?_, ?_⟩
      · rw [hF]
        exact findW_behind hk (fun e => hn x hl e.symm) (fun z hz e => hsp.2.2 z hz x hx e) ⟨x, hx, rfl⟩
      · rw [show (bump x).1 = x.1 from rfl, findW_some ⟨x, hl, rfl⟩]
        omega
/-- Who came first stands first, among claims of one priority. -/
def FirstW (l : List Wt) (f : Pr3 → Int) : Prop := l.Pairwise fun a b => a.2.2.1 = b.2.2.1 → f a.1 ≤ f b.1
theorem FirstW.del {l : List Wt} {f : Pr3 → Int} (h : FirstW l f) (p : Pr3) : FirstW (delW l p) f := List.Pairwise.filter _ h
theorem FirstW.ins {l : List Wt} {w : Wt} {f g : Pr3 → Int} (h : FirstW l f) (hn : ∀ x ∈ l, x.1 ≠ w.1) (hg : ∀ q, q ≠ w.1 → g q = f q) (hi : ∀ x ∈ l, f x.1 ≤ g w.1) : FirstW (insW l w) g := by
  have hsp : FirstW (l.take (posW l w) ++ l.drop (posW l w)) f := by rw [List.take_append_drop]; exact h
  unfold FirstW at hsp
  rw [List.pairwise_append] at hsp
  unfold FirstW insW putW
  rw [List.pairwise_append, List.pairwise_cons, List.pairwise_map]
  refine ⟨?_, ⟨?_, ?_⟩, ?_⟩
  · exact hsp.1.imp_of_mem fun ha hb hab e => by
      rw [hg _ (hn _ (List.mem_of_mem_take ha)), hg _ (hn _ (List.mem_of_mem_take hb))]
      exact hab e
  · intro y hy e
    obtain ⟨x, hx, rfl⟩ := List.mem_map.1 hy
    have h1 := (of_decide_eq_true (drop_over hx)).1
    have h2 : w.2.2.1 = x.2.2.1 := e
    omega
  · exact hsp.2.1.imp_of_mem fun ha hb hab e => by
      have ea := hg _ (hn _ (List.mem_of_mem_drop ha))
      have eb := hg _ (hn _ (List.mem_of_mem_drop hb))
      have := hab e
      show g _ ≤ g _
      unfold bump
      dsimp only
      rw [ea, eb]
      exact this
  · intro a ha b hb e
    have hal := List.mem_of_mem_take ha
    rw [hg _ (hn _ hal)]
    rcases List.mem_cons.1 hb with rfl | hb
    · exact hi a hal
    · obtain ⟨x, hx, rfl⟩ := List.mem_map.1 hb
      rw [show (bump x).1 = x.1 from rfl, hg _ (hn _ (List.mem_of_mem_drop hx))]
      exact hsp.2.2 a ha x hx e
/-! ### Claims of one priority, none ahead: a queue -/
theorem posW_end {l : List Wt} {w : Wt} (h : ∀ x ∈ l, w.2.2.1 ≤ x.2.2.1) : posW l w = l.length := by
  unfold posW
  cases hl : l.length with
  | zero => rfl
  | succ n =>
    rw [back, if_neg]
    intro ho
    have hm : l.getD n default ∈ l := by
      rw [List.getD_eq_getElem?_getD, List.getElem?_eq_getElem (show n < l.length by omega)]
      exact List.getElem_mem _
    have h1 := (of_decide_eq_true ho).1
    have h2 := h _ hm
    omega
theorem insW_end {l : List Wt} {w : Wt} (h : ∀ x ∈ l, w.2.2.1 ≤ x.2.2.1) : insW l w = l ++ [w] := by
  unfold insW putW
  rw [posW_end h, List.take_length, List.drop_length]
  rfl
/-! ### What an insertion keeps -/
theorem keep_at {l : List Wt} {k i : Nat} (hi : i < l.length) : (l.take k ++ (l.drop k).map bump).getD i default = if i < k then l.getD i default else bump (l.getD i default) := by
  by_cases h : i < k
  · rw [if_pos h, List.getD_eq_getElem?_getD, List.getElem?_append_left (by rw [List.length_take]; omega), List.getElem?_take, if_pos h, List.getD_eq_getElem?_getD]
  · rw [if_neg h, List.getD_eq_getElem?_getD, List.getElem?_append_right (by rw [List.length_take]; omega), List.length_take, Nat.min_eq_left (by omega), List.getElem?_map, List.getElem?_drop, show k + (i - k) = i by omega, List.getElem?_eq_getElem hi, List.getD_eq_getElem?_getD, List.getElem?_eq_getElem hi]
    rfl
theorem keep_len {l : List Wt} {k : Nat} (hk : k ≤ l.length) : (l.take k ++ (l.drop k).map bump).length = l.length := by
  rw [List.length_append, List.length_take, List.length_map, List.length_drop]; omega
end Go.Proofs.Ytfcekfdoafpmoaa
