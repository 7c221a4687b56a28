/- Contracts in the form that a drawn region takes: a named answer, and the frame; blocks that stand at a region's beginning. -/
import Derived.Test.YtchffamnamhcdaaDoorIawake
namespace Go.Proofs.YtchffamnamhcdaaDoor
open Go.RowKit

theorem valid_b (a b c : Int) (w : World) {r : Bool} (h : Hid (vpB a b c = r)) :
    Calls Tryd.prog 15 #[.agg #[.int .i64 a, .int .i64 b, .int .i64 c]] w fun e w' => e = .returned (.bool r) ∧ Below w.heap.size w w' := (valid_is a b c w h).mono fun _ _ h => ⟨h.1, h.2.below⟩
theorem refValid_b (a b c : Int) (w : World) {r : Bool} (h : Hid (vpB a b c = r)) :
    Calls Tryd.prog 16 #[.agg #[.int .i64 a, .int .i64 b, .int .i64 c]] w fun e w' => e = .returned (.bool r) ∧ Below w.heap.size w w' := (refValid_is a b c w h).mono fun _ _ h => ⟨h.1, h.2.below⟩
theorem vstamp_b (t s : Int) (w : World) {r : Bool} (h : Hid (vsB t s = r)) :
    Calls Tryd.prog 17 #[.agg #[.int .i64 t, .int .i64 s]] w fun e w' => e = .returned (.bool r) ∧ Below w.heap.size w w' := (vstamp_is t s w h).mono fun _ _ h => ⟨h.1, h.2.below⟩
theorem refVstamp_b (t s : Int) (w : World) {r : Bool} (h : Hid (vsB t s = r)) :
    Calls Tryd.prog 18 #[.agg #[.int .i64 t, .int .i64 s]] w fun e w' => e = .returned (.bool r) ∧ Below w.heap.size w w' := (refVstamp_is t s w h).mono fun _ _ h => ⟨h.1, h.2.below⟩
theorem refCompareProc_is (a b c x y z : Int) (w : World) {r : Int} (h : Hid (cmp3 a b c x y z = r)) :
    Calls Tryd.prog 20 #[.agg #[.int .i64 a, .int .i64 b, .int .i64 c], .agg #[.int .i64 x, .int .i64 y, .int .i64 z]] w fun e w' => e = .returned (.int .i64 r) ∧ Below w.heap.size w w' := by
  have h' := h.out
  subst h'
  exact (refCompareProc_any a b c x y z w).mono fun _ _ h => ⟨h.1, h.2.below⟩
theorem compareStamp_is (t s u v : Int) (w : World) {r : Int} (h : Hid (cmp2 t s u v = r)) :
    Calls Tryd.prog 21 #[.agg #[.int .i64 t, .int .i64 s], .agg #[.int .i64 u, .int .i64 v]] w fun e w' => e = .returned (.int .i64 r) ∧ Below w.heap.size w w' := by
  have h' := h.out
  subst h'
  exact (compareStamp_any t s u v w).mono fun _ _ h => ⟨h.1, h.2.below⟩
theorem refCompareStamp_is (t s u v : Int) (w : World) {r : Int} (h : Hid (cmp2 t s u v = r)) :
    Calls Tryd.prog 22 #[.agg #[.int .i64 t, .int .i64 s], .agg #[.int .i64 u, .int .i64 v]] w fun e w' => e = .returned (.int .i64 r) ∧ Below w.heap.size w w' := by
  have h' := h.out
  subst h'
  exact (refCompareStamp_any t s u v w).mono fun _ _ h => ⟨h.1, h.2.below⟩

/-- Three cells of block k, two cells of block k. -/
abbrev C3 (W : World) (k : Nat) (a b c : Value) : Prop := W.cell? ⟨k, 0, none⟩ = some a ∧ W.cell? ⟨k, 1, none⟩ = some b ∧ W.cell? ⟨k, 2, none⟩ = some c
abbrev C2 (W : World) (k : Nat) (a b : Value) : Prop := W.cell? ⟨k, 0, none⟩ = some a ∧ W.cell? ⟨k, 1, none⟩ = some b
theorem C3.of {w W : World} {k : Nat} {a b c : Value} (h : Below w.heap.size w W) (hk : k < w.heap.size) (hc : C3 w k a b c) : C3 W k a b c :=
  ⟨(h.cell (p := ⟨k, 0, none⟩) hk).trans hc.1, (h.cell (p := ⟨k, 1, none⟩) hk).trans hc.2.1, (h.cell (p := ⟨k, 2, none⟩) hk).trans hc.2.2⟩
theorem C2.of {w W : World} {k : Nat} {a b : Value} (h : Below w.heap.size w W) (hk : k < w.heap.size) (hc : C2 w k a b) : C2 W k a b :=
  ⟨(h.cell (p := ⟨k, 0, none⟩) hk).trans hc.1, (h.cell (p := ⟨k, 1, none⟩) hk).trans hc.2⟩
theorem C3.up {W : World} {k : Nat} {a b c : Value} (h : C3 W k a b c) (hk : k < W.heap.size) (o : Obj) : C3 (W.alloc o) k a b c := C3.of (newB W o) hk h
theorem C2.up {W : World} {k : Nat} {a b : Value} (h : C2 W k a b) (hk : k < W.heap.size) (o : Obj) : C2 (W.alloc o) k a b := C2.of (newB W o) hk h
theorem C3.new (W : World) (T : TypeId) (a b c : Value) {k : Nat} (hk : W.heap.size = k) : C3 (W.alloc (.cells #[a, b, c] T)) k a b c := by
  subst hk
  exact ⟨by simp, by simp, by simp⟩
theorem C2.new (W : World) (T : TypeId) (a b : Value) {k : Nat} (hk : W.heap.size = k) : C2 (W.alloc (.cells #[a, b] T)) k a b := by
  subst hk
  exact ⟨by simp, by simp⟩
theorem B3.at_ (W : World) (T : TypeId) (a b c : Value) {k : Nat} (hk : W.heap.size = k) : B3 (W.alloc (.cells #[a, b, c] T)) k a b c := by
  subst hk
  exact B3.new W T a b c
theorem B2.at_ (W : World) (T : TypeId) (a b : Value) {k : Nat} (hk : W.heap.size = k) : B2 (W.alloc (.cells #[a, b] T)) k a b := by
  subst hk
  exact B2.new W T a b
theorem B3.up {W : World} {k : Nat} {a b c : Value} (h : B3 W k a b c) (o : Obj) : B3 (W.alloc o) k a b c := h.below (newB W o)
theorem B2.up {W : World} {k : Nat} {a b : Value} (h : B2 W k a b) (o : Obj) : B2 (W.alloc o) k a b := h.below (newB W o)
/-- A block of three cells that may be written. -/
def R3 (W : World) (k : Nat) (a b c : Value) : Prop := B3 W k a b c ∧ ∀ o, W.frozen? ⟨k, o, none⟩ = false
theorem R3.new (W : World) (T : TypeId) (a b c : Value) : R3 (W.alloc (.cells #[a, b, c] T)) W.heap.size a b c := ⟨B3.new W T a b c, fun o => by simp⟩
theorem R3.below {W W' : World} {k : Nat} {a b c : Value} (h : R3 W k a b c) (hb : Below W.heap.size W W') : R3 W' k a b c := ⟨h.1.below hb, fun o => (hb.frozen (p := ⟨k, o, none⟩) h.1.1).trans (h.2 o)⟩
theorem R3.up {W : World} {k : Nat} {a b c : Value} (h : R3 W k a b c) (o : Obj) : R3 (W.alloc o) k a b c := h.below (newB W o)
end Go.Proofs.YtchffamnamhcdaaDoor
