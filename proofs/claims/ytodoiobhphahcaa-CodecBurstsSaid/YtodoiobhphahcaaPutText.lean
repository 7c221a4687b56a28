/- Contracts of codec.PutText and of the reference's PutText. -/
import Derived.Test.YtodoiobhphahcaaPut
import Derived.Test.YtodoiobhphahcaaSpan
namespace Go.Proofs.Ytodoiobhphahcaa
open Go.RowKit

/-- A string's bytes. -/
def sb (s : ByteArray) : List Int := s.data.toList.map fun u => (u.toNat : Int)
theorem sb_byt (s : ByteArray) : Byt (sb s) := by
  intro x hx
  obtain ⟨u, _, rfl⟩ := List.mem_map.1 hx
  have := u.toNat_lt
  exact ⟨by omega, by omega⟩
theorem sb_length (s : ByteArray) : (sb s).length = s.size := by
  unfold sb
  rw [List.length_map, Array.length_toList]
  rfl
theorem sb_cells (s : ByteArray) : byteCells s = bv (sb s) := by simp [byteCells, bv, sb, List.map_map]
theorem sb_back (s : ByteArray) : strOfNums (sb s) = s := by
  refine Go.WideShapes.bytes_inj ?_
  rw [strOfNums_data, sb, List.map_map]
  refine (List.map_congr_left fun u _ => ?_).trans (List.map_id _)
  simp

theorem app_string {w : World} {ops : Array Oper} {rest : List Oper} {o : Oper} {a : Act} {Q : Exit → Act → World → Prop} (hgd : Region.wanted o (yielded ops a.tmps) = true) (x y : Operand)
    (ho : o.op = .call { callee := .builtin .append, args := #[x, y], argTypes := #[23, 9] })
    (base : Nat) (V : Value) (xs : List Int) (s : ByteArray) (hv : a.eval x = V) (hx : a.eval y = .string s)
    (hd : OwnB w base V xs) (hlen : xs.length + s.size ≤ 225179981368000) (hbase : base ≤ w.heap.size)
    (h : ∀ V' w', OwnB w' base V' (xs ++ sb s) → Below base w w' → wpList Try.prog ops Q rest (a.put o.dst V') w') :
    wpList Try.prog ops Q (o :: rest) a w := by
  obtain ⟨i0, hi, hz0, hz1, hz2⟩ := info_parts u8_info
  refine wpList_app w hgd x y 23 9 ho base 5 i0 _ 1 1 Try.underlying23 hi hz0 hz1 hz2 rfl V xs.length (bv xs) _ s.size (byteCells s) hv hx (.inl hd) (Src.ofString w Try.underlying9 s)
    (by simp only [maxLen]; omega) (fits_bytes hlen) hbase (fun V' w' h1 h2 _ _ => h V' w' ?_ h2)
  unfold OwnB Own
  rw [bv_append, List.length_append, sb_length, ← sb_cells]
  exact h1

set_option maxHeartbeats 400000 in
theorem putText_any (A : Option Addr) (c : Nat) (xs : List Int) (s : ByteArray) (w : World) (h : Rd w A xs) (hl : xs.length ≤ 140737488351232) (hs : s.size ≤ 84442493016000) (hc : xs.length ≤ c) :
    Calls Try.prog 21 #[.slice A xs.length c, .string s] w (Gives w (xs ++ vint s.size ++ sb s)) := by
  have hp := Lib.hid (put_any A c xs (s.size : Int) w h hl (by omega) (by omega) hc)
  have hk := (vint_len (s.size : Int)).2
  go_enter Try.func21, Try.ntmps21
  go_wp2_with (first
    | (go_at_call 15; refine hp.out.mono ?_; rintro e w1 ⟨V, rfl, ho, hb⟩)
    | (at_builtin; (refine app_string rfl (.tmp 9) (.tmp 10) rfl w.heap.size _ (xs ++ vint s.size) s rfl rfl ho (by simp; omega) hb.size ?_); intro V' w' ho' hb'))
  go_ret
  exact ⟨V', rfl, ho', hb.trans hb'⟩

set_option maxHeartbeats 400000 in
theorem refPutText_any (A : Option Addr) (c : Nat) (xs : List Int) (s : ByteArray) (w : World) (h : Rd w A xs) (hl : xs.length ≤ 140737488351232) (hs : s.size ≤ 84442493016000) :
    Calls Try.prog 22 #[.slice A xs.length c, .string s] w (Gives w (xs ++ vint s.size ++ sb s)) := by
  have hp := Lib.hid (refPut_any A c xs (s.size : Int) w h hl (by omega) (by omega))
  have hk := (vint_len (s.size : Int)).2
  go_enter Try.func22, Try.ntmps22
  go_wp2_with (first
    | (go_at_call 16; refine hp.out.mono ?_; rintro e w1 ⟨V, rfl, ho, hb⟩)
    | (at_builtin; (refine app_string rfl (.tmp 9) (.tmp 10) rfl w.heap.size _ (xs ++ vint s.size) s rfl rfl ho (by simp; omega) hb.size ?_); intro V' w' ho' hb'))
  go_ret
  exact ⟨V', rfl, ho', hb.trans hb'⟩
end Go.Proofs.Ytodoiobhphahcaa
