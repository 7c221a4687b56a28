/- Contracts: the scanner's add; its state as one word. -/
import Derived.Test.YtlokcmbkkfjlkaaGreatDoorLcur
import Derived.Deep.RegionLaw
namespace Go.Proofs.YtlokcmbkkfjlkaaGreatDoor
open Go.RowKit
open Go.Sort (grow)
set_option linter.unusedVariables false
set_option linter.unusedSimpArgs false

/-- append of tokens at a step of a region that draws. -/
theorem step_app_tok {w : World} {ops : Array Oper} {o : Oper} {a : Act} {K : Act → World → Prop} {Q : Exit → Act → World → Prop} {E : Prop} (hgd : o.guard = none) (s y : Operand)
    (ho : o.op = .call { callee := .builtin .append, args := #[s, y], argTypes := #[49, 49] })
    (base : Nat) (V : Value) (xs : List T4) (A : Option Addr) (ys : List T4) (n c : Nat) (hn : Hid (ys.length = n)) (hv : a.eval s = V) (hx : a.eval y = .slice A n c)
    (hd : OwnT w base V xs) (hs : TRd w A ys) (hlen : Hid (xs.length + n ≤ 1000000)) (hbase : base ≤ w.heap.size)
    (h : ∀ V' w', OwnT w' base V' (xs ++ ys) → Below base w w' → K (a.put o.dst V') w') :
    if Region.wanted o (yielded ops a.tmps) = true then Oper.wp Tryz.prog o a w K Q else E := by
  have hw : Region.wanted o (yielded ops a.tmps) = true := by simp [Region.wanted, hgd]
  rw [if_pos hw]
  have hn' := hn.out
  subst hn'
  obtain ⟨i0, hi, hz0, hz1, hz2⟩ := info_parts tok_info
  have hl := hlen.out
  obtain ⟨v', w', hr, h2, h3, h4, _⟩ := run_app (P := Tryz.prog) w base 49 49 o.type 53 i0 _ 4 40 Tryz.underlying49 hi hz0 hz1 hz2 rfl V xs.length (tvs xs) _ ys.length (tvs ys) (.inl hd)
    (Src.toks Tryz.underlying49 c hs) (by simp only [maxLen]; omega) (fits_half (by omega)) hbase
  unfold Oper.wp execOp
  simp only [ho, resolve, invoke, builtin, Sem.run_bind, Sem.run_pure, Result.andThen_ok, List.map_toArray, List.map_cons, List.map_nil, hv, hx, hr]
  refine h v' w' ?_ h3
  unfold OwnT
  rw [List.length_append, tvs_append]
  exact h2
/-- The scanner in box b: text, place, start, the tokens that it has collected (blocks from base on). -/
def Sc (w : World) (b base : Nat) (s : ByteArray) (i st : Nat) (acc : List T4) : Prop := b < base ∧ base ≤ w.heap.size ∧ ∃ V, Scn w b s i st V ∧ OwnT w base V acc
theorem Scn.below {w w' : World} {b : Nat} {s : ByteArray} {i st : Nat} {V : Value} (h : Scn w b s i st V) {B : Nat} (hb : Below B w w') (hB : b < B) : Scn w' b s i st V := by
  obtain ⟨h0, h1, h2, h3, h4, h5⟩ := h
  exact ⟨Nat.lt_of_lt_of_le h0 hb.size, (hb.cell (p := ⟨b, 0, none⟩) hB).trans h1, (hb.cell (p := ⟨b, 1, none⟩) hB).trans h2, (hb.cell (p := ⟨b, 2, none⟩) hB).trans h3, (hb.cell (p := ⟨b, 3, none⟩) hB).trans h4, fun o => (hb.frozen (p := ⟨b, o, none⟩) hB).trans (h5 o)⟩
theorem Scn.toks {w : World} {b : Nat} {s : ByteArray} {i st : Nat} {V : Value} (h : Scn w b s i st V) (V' : Value) : Scn (w.setCell ⟨b, 3, none⟩ V') b s i st V' := by
  obtain ⟨h0, h1, h2, h3, h4, h5⟩ := h
  refine ⟨by simpa using h0, ?_, ?_, ?_, ?_, fun o => ?_⟩ <;> simp [go_sem, h1, h2, h3, h4, h5]
theorem TRd.one (w : World) (T : TypeId) (k : Int) (t : ByteArray) (n a : Int) : TRd (w.alloc (.cells #[.int .i64 k, .string t, .int .i64 n, .int .i64 a] T)) (some ⟨w.heap.size, 0, none⟩) [(k, t, n, a)] := fun _ =>
  ⟨_, 0, rfl, by simp, fun i hi => by
    obtain rfl : i = 0 := by simpa using hi
    exact ⟨by simp, by simp, by simp, by simp⟩⟩
set_option maxHeartbeats 2000000 in
theorem add_is (b base : Nat) (s : ByteArray) (i st : Nat) (acc : List T4) (w : World) (hS : Sc w b base s i st acc) (hlen : Hid (acc.length ≤ 2000)) (k : Int) (t : ByteArray) (n : Int) :
    Calls Tryz.prog 82 #[.pointer (some ⟨b, 0, none⟩), .int .i64 k, .string t, .int .i64 n] w fun e w' => e = .returned (.int .i64 0) ∧ Sc w' b base s i st (acc ++ [(k, t, n, (st : Int))]) ∧ Below b w w' := by
  obtain ⟨hb, hbase, V, hs, ho⟩ := hS
  have HS := Lib.hid hs
  have HO := Lib.hid ho
  obtain ⟨g0, c0, c1, c2, c3, fz⟩ := hs
  clear ho
  have h1 : Hid ([(k, t, n, (st : Int))].length = 1) := rfl
  have hl2 : Hid (acc.length + 1 ≤ 1000000) := by have := hlen.out; show _ ≤ _; omega
  go_enter Tryz.func82, Tryz.ntmps82
  go_wp2
  go_region_law (refine step_app_tok rfl (.tmp 13) (.tmp 22) rfl base V acc _ [(k, t, n, (st : Int))] 1 1 h1 (by simp [Act.eval, Act.put]) (by simp [Act.eval, Act.put]) (HO.out.below (nxA (bdD (Below.refl _ _)) _)) (TRd.one _ _ _ _ _ _) hl2 (by simp; omega) ?_; intro V2 w2 ho2 hb2; obtain ⟨A2, m2, rfl, -⟩ := ho2.form; have HO2 := Lib.hid ho2; have hs2 := (HS.out.below (nxA (bdD (Below.refl _ _)) _) g0).below hb2 hb; have HS2 := Lib.hid hs2; have HB2 := Lib.hid hb2; clear ho2 hb2 c0 c1 c2 c3 fz; obtain ⟨g0', c0, c1, c2, c3, fz⟩ := hs2)
  all_goals (
    go_wp2
    go_ret
    have ho3 := HO2.out.frm ((Frm.refl b w2).set 3 (.slice A2 (acc ++ [(k, t, n, (st : Int))]).length m2)) hb
    rw [List.length_append, List.length_singleton] at ho3
    exact ⟨rfl, ⟨hb, Nat.le_trans hbase (Nat.le_trans (Nat.le_succ _) (by have := HB2.out.size; simpa using this)), _, HS2.out.toks _, ho3⟩, (((nxA (bdD (Below.refl _ _)) _).mono (B' := b) (by omega)).trans (HB2.out.mono (B' := b) (by omega))).setCell (p := ⟨b, 3, none⟩) (Nat.le_refl _) _⟩)
end Go.Proofs.YtlokcmbkkfjlkaaGreatDoor
