/- Bytes turned into a string, bytes.Equal, and the reading of the checks' own examples. -/
import Derived.Test.YtchffamnamhcdaaDoorBase
import Derived.Test.YtchffamnamhcdaaDoorUint
namespace Go.Proofs.YtchffamnamhcdaaDoor
open Go.RowKit

theorem conv_bytes {P : Program} {w : World} (src e dst : TypeId) (hs : P.underlying src = some (.slice e)) (he : P.underlying e = some (.int .u8)) (hd : P.underlying dst = some .string)
    (A : Option Addr) (c : Nat) (xs : List Int) (h : Rd w A xs) : (convert src dst (.slice A xs.length c)).run P w = .ok (.string (strOfNums xs)) w := by
  rcases xs with _ | ⟨x, r⟩
  · cases A with
    | none => exact run_convert_bytes_nil w src e hs he 0 c dst hd
    | some a =>
      have h0 := run_bytesToString (P := P) w a 0 c [] (run_loadCells_list w a [] (fun j u hj => by simp at hj))
      rw [run_convert_bytes_string w src dst e _ _ c hs he hd]
      exact h0
  · obtain ⟨b, o, rfl, _, hc⟩ := h (by simp)
    exact run_convert_bytes_arg w src e hs he b o _ c (x :: r) rfl hc dst hd

theorem str_back {xs : List Int} (h : Byt xs) : (strOfNums xs).toList.map (fun u => (u.toNat : Int)) = xs := by
  rw [ByteArray.toList_eq, strOfNums_data, List.map_map]
  refine (List.map_congr_left fun n hn => ?_).trans (List.map_id xs)
  have := h n hn
  simp only [Function.comp_apply, UInt8.toNat_ofNat', id_eq]
  omega
theorem str_eq {xs ys : List Int} (hx : Byt xs) (hy : Byt ys) : ((strOfNums xs).toList == (strOfNums ys).toList) = decide (xs = ys) := by
  by_cases h : xs = ys
  · subst h; simp
  · rw [decide_eq_false h]
    exact beq_eq_false_iff_ne.2 fun e => h (by rw [← str_back hx, e, str_back hy])

set_option maxHeartbeats 400000 in
theorem equal_any (A B : Option Addr) (c d : Nat) (xs ys : List Int) (w : World) (h1 : Rd w A xs) (h2 : Rd w B ys) (hx : Byt xs) (hy : Byt ys) :
    Calls Tryd.prog 31 #[.slice A xs.length c, .slice B ys.length d] w fun e w' => e = .returned (.bool (decide (xs = ys))) ∧ w = w' := by
  have k1 := conv_bytes (P := Tryd.prog) 41 5 9 Tryd.underlying41 Tryd.underlying5 Tryd.underlying9 A c xs h1
  have k2 := conv_bytes (P := Tryd.prog) 41 5 9 Tryd.underlying41 Tryd.underlying5 Tryd.underlying9 B d ys h2
  have E := Lib.hid (str_eq hx hy)
  go_enter Tryd.func31, Tryd.ntmps31
  go_wp2
  go_ret
  exact ⟨by rw [← E.out]; rfl, rfl⟩
end Go.Proofs.YtchffamnamhcdaaDoor
