/- ident.SortProcs. -/
import Derived.Test.YtchffamnamhcdaaDoorIcompact
namespace Go.Proofs.YtchffamnamhcdaaDoor
set_option linter.unusedVariables false
open Go.RowKit

theorem clone_zero (A : Option Addr) (c : Nat) (w : World) :
    Calls Tryd.prog 50 #[.slice A 0 c] w fun e w' => ∃ A' c', e = .returned (.slice A' 0 c') ∧ Below w.heap.size w w' :=
  (clone_procs A 0 c [] w (fun h => absurd rfl h) rfl (by show _ ≤ _; omega)).mono fun e w' ⟨V, he, hr, hb⟩ => by
    rcases hr with ⟨_, A', c', rfl⟩ | ⟨g, cap, _, h0, _⟩
    · exact ⟨A', c', he, hb⟩
    · simp at h0
theorem clone_pos (A : Option Addr) (n c : Nat) (ps : List P3) (w : World) (h : PRd w A ps) (hn : Hid (ps.length = n)) (hm : Hid (n ≤ 100)) (hp : 0 < n) :
    Calls Tryd.prog 50 #[.slice A n c] w fun e w' => ∃ g cap, e = .returned (.slice (some ⟨g, 0, none⟩) n cap) ∧ n ≤ cap ∧ w.heap.size ≤ g ∧ g < w'.heap.size ∧ Hid (Row3 w' g ps.toArray) ∧ Below w.heap.size w w' :=
  (clone_procs A n c ps w h hn hm).mono fun e w' ⟨V, he, hr, hb⟩ => by
    have hn' := hn.out
    rcases hr with ⟨h0, _⟩ | ⟨g, cap, hV, h0, h1, h2, h3, h4⟩
    · rw [h0] at hn'
      simp at hn'
      omega
    · rw [hn'] at hV h1
      subst hV
      exact ⟨g, cap, he, h1, h2, h3, h4, hb⟩
theorem sort_pos (g cap n : Nat) (ps : List P3) (w : World) (hH : Hid (Row3 w g ps.toArray)) (hg : g < w.heap.size) (hn : Hid (ps.length = n)) (hm : Hid (n ≤ 100)) :
    Calls Tryd.prog 51 #[.slice (some ⟨g, 0, none⟩) n cap, .func (.func 19) #[] #[]] w fun e w' =>
      e = .returned (.tuple #[]) ∧ ∃ qs : List P3, Hid (qs.length = n) ∧ Hid (∀ x, x ∈ qs ↔ x ∈ ps) ∧ Hid (qs.Pairwise (fun a b => lt3 b a = false)) ∧ Hid (Row3 w' g qs.toArray) ∧ Below g w w' ∧ g < w'.heap.size := by
  have hn' := hn.out
  subst hn'
  exact (sort_row g cap ps w hH.out hg hm.out).mono fun e w' ⟨he, qs, h1, h2, h3, h4, h5⟩ => ⟨he, qs, h1.length_eq, fun x => h1.mem_iff, h2, h3, h4, h5⟩
theorem compact_none (A : Option Addr) (c : Nat) (w : World) :
    Calls Tryd.prog 52 #[.slice A 0 c] w fun e w' => e = .returned (.slice A 0 c) ∧ Below w.heap.size w w' := by
  go_enter Tryd.func52, Tryd.ntmps52
  go_wp2
  go_ret
  exact ⟨rfl, Below.refl _ _⟩

def Sorts (n : Nat) (ps : List P3) (w : World) (e : Ending) (w' : World) : Prop :=
  ∃ (A : Option Addr) (m c : Nat) (qs : List P3), e = .returned (.slice A m c) ∧ Hid (qs.length = m) ∧ m ≤ n ∧ Hid (PRd w' A qs) ∧ Hid (∀ x, x ∈ qs ↔ x ∈ ps) ∧ Hid (qs.Pairwise (fun a b => lt3 a b = true)) ∧ Below w.heap.size w w'
set_option maxHeartbeats 1000000 in
theorem sorted_any (A : Option Addr) (n c : Nat) (ps : List P3) (w : World) (h : PRd w A ps) (hn : Hid (ps.length = n)) (hm : Hid (n ≤ 100)) :
    Calls Tryd.prog 27 #[.slice A n c] w (Sorts n ps w) := by
  have HR := Lib.hid h
  clear h
  rcases Nat.eq_zero_or_pos n with h0 | hp
  · have hz : Hid (ps = []) := by
      have := hn.out
      exact List.eq_nil_of_length_eq_zero (by omega)
    subst h0
    go_enter Tryd.func27, Tryd.ntmps27
    go_wp2_with (first
      | (go_at_call 50; refine (clone_zero _ _ _).mono ?_; rintro e W1 ⟨A1, c1, rfl, hb1⟩)
      | (go_at_call 51; refine (sort_none _ _ _ _).mono ?_; rintro e W2 ⟨rfl, rfl⟩)
      | (go_at_call 52; refine (compact_none _ _ _).mono ?_; rintro e W3 ⟨rfl, hb3⟩))
    go_ret
    exact ⟨A1, 0, c1, [], rfl, rfl, Nat.le_refl _, fun h => absurd rfl h, by rw [hz.out]; exact fun x => Iff.rfl, List.Pairwise.nil, nx hb1 hb3⟩
  · go_enter Tryd.func27, Tryd.ntmps27
    go_wp2_with (first
      | (go_at_call 50; refine (clone_pos _ _ _ _ _ HR.out hn hm hp).mono ?_; rintro e W1 ⟨g, cap, rfl, hcap, hgb, hgs, hrow, hb1⟩)
      | (go_at_call 51; refine (sort_pos _ _ _ _ _ hrow hgs hn hm).mono ?_; rintro e W2 ⟨rfl, qs, hq1, hq2, hq3, hq4, hb2, hg2⟩)
      | (go_at_call 52; refine (compact_row _ _ _ _ _ hq4 hg2 hq1 hcap hm hq3 hp).mono ?_; rintro e W3 ⟨rs, m, c3, rfl, hr1, hr2, hr3, hr4, hr5, hb3, _⟩))
    go_ret
    exact ⟨_, m, c3, rs, rfl, hr1, by have := hq1.out; omega, hr3, fun x => (hr4 x).trans (hq2.out x), hr5, (hb1.trans (hb2.mono hgb)).trans (hb3.mono hgb)⟩
end Go.Proofs.YtchffamnamhcdaaDoor
