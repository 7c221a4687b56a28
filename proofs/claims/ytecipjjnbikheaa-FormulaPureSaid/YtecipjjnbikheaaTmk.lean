/- Requests that are made of numbers, in plain words. Nothing here speaks of a program. -/
import Derived.Test.YtecipjjnbikheaaRpp
namespace Go.Proofs.Ytecipjjnbikheaa
open Go.RowKit
set_option linter.unusedVariables false

/-- What the mill makes of a list of atoms, so many levels deep at most. -/
inductive Mk (L : List A3) : Nat → Ex → Prop
  | atom (d : Nat) (a : A3) (h : a ∈ L) : Mk L d (.nd 0 a [])
  | group (d : Nat) (k : Int) (l : List Ex) (h1 : 1 ≤ k) (hk : k ≤ (l.length : Int)) (h3 : l.length ≤ 3) (h : ∀ e ∈ l, Mk L d e) : Mk L (d + 1) (.nd k z3 l)
def cntM : Nat → Nat
  | 0 => 1
  | d + 1 => 1 + 3 * cntM d
theorem cntM_pos : ∀ d, 1 ≤ cntM d
  | 0 => Nat.le_refl _
  | d + 1 => by rw [cntM]; omega
theorem dpL_max : ∀ {l : List Ex} {m : Nat}, (∀ e ∈ l, e.dp ≤ m) → dpL l ≤ m
  | [], m, _ => by rw [dpL]; omega
  | e :: r, m, h => by
    rw [dpL]
    have h1 := h e (by simp)
    have h2 := dpL_max (l := r) (m := m) (fun f hf => h f (by simp [hf]))
    omega
theorem cntL_max : ∀ {l : List Ex} {m : Nat}, (∀ e ∈ l, e.cnt ≤ m) → cntL l ≤ l.length * m
  | [], m, _ => by rw [cntL]; omega
  | e :: r, m, h => by
    rw [cntL, List.length_cons, Nat.succ_mul]
    have h1 := h e (by simp)
    have h2 := cntL_max (l := r) (m := m) (fun f hf => h f (by simp [hf]))
    omega
theorem Mk.bnd {L : List A3} {d : Nat} {e : Ex} (h : Mk L d e) : e.dp ≤ d + 1 ∧ e.cnt ≤ cntM d := by
  induction h with
  | atom d a h =>
    have := cntM_pos d
    rw [Ex.dp, Ex.cnt, dpL, cntL]
    omega
  | group d k l h1 hk h3 h ih =>
    have a1 := dpL_max (l := l) (m := d + 1) (fun e he => (ih e he).1)
    have a2 := cntL_max (l := l) (m := cntM d) (fun e he => (ih e he).2)
    have a3 : l.length * cntM d ≤ 3 * cntM d := Nat.mul_le_mul_right _ h3
    rw [Ex.dp, Ex.cnt, cntM]
    omega
theorem dist_len : ∀ {l L : List A3}, Dist l → (∀ a ∈ l, a ∈ L) → l.length ≤ L.length
  | [], L, _, _ => Nat.zero_le _
  | a :: l, L, hd, h => by
    have h' := List.pairwise_cons.1 hd
    have h1 := h a (by simp)
    obtain ⟨x, y, rfl⟩ := List.append_of_mem h1
    have h2 := dist_len (l := l) (L := x ++ y) h'.2 (fun b hb => by
      have hn := h'.1 b hb
      have hm := h b (by simp [hb])
      simp only [List.mem_append, List.mem_cons] at hm ⊢
      rcases hm with hm | hm | hm
      · exact .inl hm
      · rw [hm] at hn; exact absurd rfl hn
      · exact .inr hm)
    rw [List.length_append] at h2
    rw [List.length_append, List.length_cons, List.length_cons]
    omega
/-- Atoms that can be asked for together. -/
structure AtL (L : List A3) : Prop where
  dist : Dist L
  use : ∀ a ∈ L, Nam a.1 ∧ usb a.2.1 a.2.2 = true
  len : L.length < 8
def GoV (L : List A3) (x : List Ex) : Prop := ∀ l, (∀ a ∈ l, a ∈ L) → Dist l → ∃ l', vld x l = some l' ∧ (∀ a ∈ l', a ∈ L) ∧ Dist l'
theorem GoV.list {L : List A3} : ∀ {l : List Ex}, (∀ e ∈ l, GoV L e.pre) → GoV L (preL l)
  | [], _ => fun l h1 h2 => ⟨l, by rw [preL]; rfl, h1, h2⟩
  | e :: r, h => fun l h1 h2 => by
    obtain ⟨l1, g1, g2, g3⟩ := h e (by simp) l h1 h2
    obtain ⟨l2, k1, k2, k3⟩ := GoV.list (l := r) (fun f hf => h f (by simp [hf])) l1 g2 g3
    exact ⟨l2, by rw [preL, vld_append, g1]; exact k1, k2, k3⟩
theorem Mk.go {L : List A3} (hL : AtL L) {d : Nat} {e : Ex} (h : Mk L d e) : GoV L e.pre := by
  induction h with
  | atom d a h =>
    intro l h1 h2
    obtain ⟨hn, hu⟩ := hL.use a h
    have hlen := dist_len h2 h1
    have h8 := hL.len
    rcases scan_cases l a with ⟨g1, g2⟩ | ⟨g1, b, g2, g3, g4⟩ | ⟨g1, g2⟩
    · have hi : incl l a = (l, 0) := by unfold incl; rw [g1]
      refine ⟨l, ?_, h1, h2⟩
      rw [vld_atom hn hu (by rw [hi]), hi]
    · exact absurd (hL.dist.mem (h1 b g2) h g3) g4
    · have h9 : ¬ l.length = 8 := by omega
      have hi : incl l a = (l ++ [a], 0) := by unfold incl; rw [g1]; simp [h9]
      refine ⟨l ++ [a], by rw [vld_atom hn hu (by rw [hi]), hi], fun b hb => ?_, ?_⟩
      · rcases List.mem_append.1 hb with hb | hb
        · exact h1 b hb
        · rw [List.mem_singleton] at hb; rw [hb]; exact h
      · unfold Dist
        rw [List.pairwise_append]
        exact ⟨h2, by simp, fun c c1 b c2 => by rw [List.mem_singleton] at c2; subst c2; exact g2 c c1⟩
  | group d k l h1 hk h3 h ih =>
    intro m g1 g2
    obtain ⟨m', k1, k2, k3⟩ := GoV.list ih m g1 g2
    exact ⟨m', vld_grp h1 hk k1, k2, k3⟩
theorem Mk.vex {L : List A3} (hL : AtL L) {e : Ex} (h : Mk L 2 e) : Vex e := by
  obtain ⟨h1, h2⟩ := h.bnd
  obtain ⟨l, g1, _, _⟩ := h.go hL [] (fun a ha => by cases ha) List.Pairwise.nil
  exact ⟨by omega, Nat.le_trans h2 (by decide), l, g1⟩
end Go.Proofs.Ytecipjjnbikheaa
