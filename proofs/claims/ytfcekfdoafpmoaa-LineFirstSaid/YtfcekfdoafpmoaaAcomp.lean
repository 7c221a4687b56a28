/- Contracts: whether the amounts of a list may be held together. -/
import Derived.Test.YtfcekfdoafpmoaaAagree
namespace Go.Proofs.Ytfcekfdoafpmoaa
open Go.RowKit
set_option linter.unusedVariables false
set_option linter.unusedSimpArgs false

theorem not_iff_false {p : Prop} {r : Bool} (h : p ↔ r = true) (hp : ¬ p) : r = false := by
  cases r with
  | false => rfl
  | true => exact absurd (h.2 rfl) hp
theorem allP_off {k u : Int} {l : List P2} {r : Bool} (hr : Cmp k u l ↔ r = true) (h : allP k u l = false) : r = false :=
  not_iff_false hr (fun c => by rw [allP_iff.2 ⟨c.1, c.2.1⟩] at h; cases h)
end Go.Proofs.Ytfcekfdoafpmoaa
