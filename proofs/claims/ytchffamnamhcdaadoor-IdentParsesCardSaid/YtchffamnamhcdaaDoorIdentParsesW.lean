/- IdentParses walked. -/
import Derived.Test.YtchffamnamhcdaaDoorIrparse
namespace Go.Proofs.YtchffamnamhcdaaDoor
set_option linter.unusedVariables false
open Go.RowKit

theorem res_ex (l : List UInt8) : ∃ a b c r, Hid (Res l a b c r) := by
  by_cases h : ∃ a b c, PText l a b c
  · obtain ⟨a, b, c, h⟩ := h
    exact ⟨a, b, c, true, .inl ⟨rfl, h⟩⟩
  · exact ⟨0, 0, 0, false, .inr ⟨rfl, rfl, rfl, rfl, fun x y z k => h ⟨x, y, z, k⟩⟩⟩
theorem Res.uniq {l : List UInt8} {a b c x y z : Int} {r q : Bool} (h : Res l a b c r) (k : Res l x y z q) : a = x ∧ b = y ∧ c = z ∧ r = q := by
  rcases h with ⟨rfl, h⟩ | ⟨rfl, rfl, rfl, rfl, h⟩ <;> rcases k with ⟨rfl, k⟩ | ⟨rfl, rfl, rfl, rfl, k⟩
  · obtain ⟨h1, h2, h3⟩ := h.inj k
    exact ⟨h1, h2, h3, rfl⟩
  · exact absurd h (k _ _ _)
  · exact absurd k (h _ _ _)
  · exact ⟨rfl, rfl, rfl, rfl⟩
theorem Parses.named {l : List UInt8} {w w' : World} {e : Ending} {a b c : Int} {r : Bool} (h : Parses l w e w') (k : Hid (Res l a b c r)) : e = .returned (.tuple #[.agg #[.int .i64 a, .int .i64 b, .int .i64 c], .bool r]) ∧ Below w.heap.size w w' := by
  obtain ⟨x, y, z, q, he, hr, hb⟩ := h
  obtain ⟨rfl, rfl, rfl, rfl⟩ := hr.uniq k.out
  exact ⟨he, hb⟩

set_option maxHeartbeats 1000000 in
theorem IdentParses_walk (s0 : ByteArray) (w : World) (hV : Vars w) (u0 : s0.size ≤ 140737488351232) :
    Calls Tryd.prog 7 #[.string s0] w fun e w' => e = .returned (.bool true) ∧ Below w.heap.size w w' := by
  obtain ⟨a, b, c, r, hr⟩ := res_ex s0.data.toList
  have HV := Lib.hid hV
  have HS := Lib.hid u0
  clear hV u0
  go_enter Tryd.func7, Tryd.ntmps7
  go_wp2_with (first
    | (go_at_call 24; refine ((parse_any _ HS.out _ HV.out).mono fun _ _ h => h.named hr).mono ?_; rintro e W1 ⟨rfl, hb1⟩)
    | (go_at_call 26; refine ((refParse_any _ _).mono fun _ _ h => h.named hr).mono ?_; rintro e W2 ⟨rfl, hb2⟩; have hW2 := nx (nxA hb1 _) hb2; have x2 := Lib.hid ((B3.new W1 _ _ _ _).below hb2); obtain ⟨i0, i1, i2, i3⟩ := x2.out)
    | (go_at_call 14; refine (awake_any _ (HV.out.below (nxA hW2 _))).mono ?_; rintro e W3 ⟨rfl, hb3⟩; have hW3 := nx (nxA hW2 _) hb3; have x3 := Lib.hid ((x2.out.up _).below hb3); have y3 := Lib.hid ((B3.new W2 _ _ _ _).below hb3); clear i0 i1 i2 i3; obtain ⟨i0, i1, i2, i3⟩ := x3.out; obtain ⟨j0, j1, j2, j3⟩ := y3.out))
  go_ret
  exact ⟨rfl, hW3⟩
end Go.Proofs.YtchffamnamhcdaaDoor
