/- slices.SortFunc at a row of processes, by the library's contract. -/
import Derived.Test.YtchffamnamhcdaaDoorIclone
import Derived.Shelf.SlSortCmp.WholeK
import Derived.Shelf.SlSortCmp.NoneTotal
import Derived.Lib.OwnBridge
import Derived.Ground.SlsfProg
import Derived.Test.YtchffamnamhcdaaDoorIslay
namespace Go.Proofs.YtchffamnamhcdaaDoor
set_option linter.unusedVariables false
open Go.RowKit
open Go.Sort (grow SWO SortedIn PermIn HoldsK)

theorem cmp3_cases (a b c x y z : Int) : ((a < x ∨ (a = x ∧ (b < y ∨ (b = y ∧ c < z)))) ∧ cmp3 a b c x y z = -1) ∨ ((x < a ∨ (a = x ∧ (y < b ∨ (b = y ∧ z < c)))) ∧ cmp3 a b c x y z = 1) ∨ ((a = x ∧ b = y ∧ c = z) ∧ cmp3 a b c x y z = 0) := by
  unfold cmp3
  rcases ord_cases a x with ⟨h1, e1⟩ | ⟨h1, e1⟩ | ⟨h1, e1⟩ <;> rcases ord_cases b y with ⟨h2, e2⟩ | ⟨h2, e2⟩ | ⟨h2, e2⟩ <;> rcases ord_cases c z with ⟨h3, e3⟩ | ⟨h3, e3⟩ | ⟨h3, e3⟩ <;> rw [e1, e2, e3] <;> simp <;> omega
def cp (p q : P3) : Int := cmp3 p.1 p.2.1 p.2.2 q.1 q.2.1 q.2.2
abbrev lt3 : P3 → P3 → Bool := ltOf cp
theorem lt3_iff (p q : P3) : lt3 p q = true ↔ (p.1 < q.1 ∨ (p.1 = q.1 ∧ (p.2.1 < q.2.1 ∨ (p.2.1 = q.2.1 ∧ p.2.2 < q.2.2)))) := by
  unfold lt3 ltOf cp
  rw [decide_eq_true_eq]
  rcases cmp3_cases p.1 p.2.1 p.2.2 q.1 q.2.1 q.2.2 with ⟨h, e⟩ | ⟨h, e⟩ | ⟨h, e⟩ <;> rw [e] <;> constructor <;> intro h' <;> omega
theorem lt3_no (p q : P3) : lt3 p q = false ↔ ¬ (p.1 < q.1 ∨ (p.1 = q.1 ∧ (p.2.1 < q.2.1 ∨ (p.2.1 = q.2.1 ∧ p.2.2 < q.2.2)))) := by
  rw [← lt3_iff, Bool.not_eq_true]
theorem lt3_swo : SWO lt3 :=
  ⟨fun x => by rw [lt3_no]; omega, fun x y z h1 h2 => by rw [lt3_iff] at *; omega, fun x y z h1 h2 => by rw [lt3_no] at *; omega⟩

theorem cmpLays (blk off size : Nat) (w : World) : CmpLays Tryd.prog 19 #[] enc3 3 cp blk off size w :=
  fun _ _ _ _ x y => compareProc_any _ _ _ _ _ _ _

theorem sort_row (g cap : Nat) (ps : List P3) (w : World) (hH : Row3 w g ps.toArray) (hg : g < w.heap.size) (hn : ps.length ≤ 100) :
    Calls Tryd.prog 51 #[.slice (some ⟨g, 0, none⟩) ps.length cap, .func (.func 19) #[] #[]] w fun e w' =>
      e = .returned (.tuple #[]) ∧ ∃ qs : List P3, qs.Perm ps ∧ qs.Pairwise (fun a b => lt3 b a = false) ∧ Row3 w' g qs.toArray ∧ Below g w w' ∧ g < w'.heap.size := by
  have eg : ∀ args w, (callFunc 19 args).run Tryd.prog w = .ok (.enter 19 args) w := enters_of Tryd.func19 (by kernel_rfl) rfl
  have hcon := AnyQ.slices_SortFunc Tryd.sortProcsL 3 Tryd.isAgg23 Tryd.sizeOf23 enc3 (fun _ => rfl) (fun x v hv => by simp [enc3] at hv; rcases hv with rfl | rfl | rfl <;> rfl) cp lt3_swo 19 #[] g 0 cap ps.toArray w eg (cmpLays g 0 _ w) hH hg (by simp; omega)
  change Calls Tryd.prog 51 _ _ _ at hcon
  rw [List.size_toArray] at hcon
  refine hcon.mono ?_
  rintro e w' ⟨he, d', n, os, ⟨hsz, _, hp⟩, hs, hw⟩
  have hsz' : d'.size = ps.length := by simpa using hsz
  refine ⟨he, d'.toList, ?_, ?_, ?_, ?_, ?_⟩
  · have e1 : d'.extract 0 ps.length = d' := by rw [← hsz']; simp
    have e2 : ps.toArray.extract 0 ps.length = ps.toArray := by
      simp
    rw [e1, e2] at hp
    simpa using hp
  · rw [List.pairwise_iff_getElem]
    intro i j hi hj hij
    have := hs i j (Nat.zero_le _) hij (by rw [← hsz']; simpa using hj)
    rw [getElem!_pos d' j (by simpa using hj), getElem!_pos d' i (by simpa using hi)] at this
    simpa using this
  · have := SWK.holds (enc := enc3) (k := 3) (w0 := w) (blk := g) (off := 0) (dk := d') (W := w') ⟨n, os, hw⟩ hg hH (by simpa using hsz')
    simpa using this
  · rw [hw]
    have h1 : Below g w (Go.Sort.putRow id (Go.Sort.ahead w n) g 0 (Go.Sort.flatK enc3 3 d')) := Lib.below_putRow (Below.refl _ _) (Nat.le_refl _)
    exact h1.trans ((below_grow _ os).mono (by have := h1.size; omega))
  · have := SWK.lt (enc := enc3) (k := 3) (w0 := w) (blk := g) (off := 0) (dk := d') (W := w') ⟨n, os, hw⟩ hg
    exact this
theorem sort_none (A : Option Addr) (cap : Nat) (fv : Value) (w : World) :
    Calls Tryd.prog 51 #[.slice A 0 cap, fv] w fun e w' => e = .returned (.tuple #[]) ∧ w' = w :=
  AnyF.slices_SortFunc_none Tryd.sortProcsL A cap fv w
end Go.Proofs.YtchffamnamhcdaaDoor
