/- Contract of strings.SplitN at a point and at most four pieces. -/
import Derived.Test.YtchffamnamhcdaaDoorIval
import Derived.Test.YtchffamnamhcdaaDoorIcut
import Derived.Deep.OwnRows
import Derived.Deep.LoopGhost
import Derived.Laws.Strings3
namespace Go.Proofs.YtchffamnamhcdaaDoor
open Go.RowKit

theorem str_info : (Tryd.prog.info? 9).map (fun i => (i.zero, i.size, i.bytes)) = some (some (.string ByteArray.empty), 1, 16) := by kernel_rfl

theorem index_is (s : ByteArray) (w : World) {i : Int} (h : Hid (Lib.indexByte s.data.toList 46 = i)) : Calls Tryd.prog 71 #[.string s, .string ⟨#[46]⟩] w fun e w' => e = .returned (.int .i64 i) ∧ w = w' := by
  have h' := h.out
  subst h'
  exact (Tryd.strings_Index_one s 46 w).mono fun _ _ h => ⟨h.1, h.2.symm⟩

/-- The cells of a new slice of strings, some of them laid. -/
abbrev rowS (l : List (List UInt8)) (N : Nat) : Array Value := Lib.cellsOf (l.map mkB) N

set_option maxHeartbeats 1000000 in
theorem genSplit_dot (s : ByteArray) (hs : s.size ≤ 140737488351232) (w : World) (N : Nat) (hN : N = min 4 (s.size + 1)) :
    Calls Tryd.prog 61 #[.string s, .string ⟨#[46]⟩, .int .i64 0, .int .i64 4] w fun e w' =>
      e = .returned (.slice (some ⟨w.heap.size, 0, none⟩) (cutN (N - 1) s.data.toList).length N) ∧ w' = w.alloc (.cells (rowS (cutN (N - 1) s.data.toList) N) 9) := by
  have n1 : 1 ≤ N := by omega
  have n4 : N ≤ 4 := by omega
  have eN : min (4 : Int) ((s.size : Int) + 1) = (N : Int) := by omega
  have hmk := run_make_row' (P := Tryd.prog) 60 9 (.string ByteArray.empty) 16 Tryd.underlying60 str_info rfl .i64 .i64 N (by omega) (by omega)
  obtain ⟨M, hM⟩ : ∃ M, Hid (N = M + 1) := ⟨N - 1, by show N = _; omega⟩
  rw [show N - 1 = M by have := hM.out; omega]
  have dM : (N : Int) - 1 = (M : Int) := by have := hM.out; omega
  clear hN
  go_enter Tryd.func61, Tryd.ntmps61
  go_wp2
  clear hmk eN dM
  go_loopg [0, 10] M (fun g s0 s10 wr => ∃ (done : List (List UInt8)) (rest : ByteArray), s0 = .string rest ∧ s10 = .int .i64 done.length ∧ done.length ≤ M ∧ g = M - done.length ∧ rest.size ≤ s.size ∧
      wr = w.alloc (.cells (rowS done N) 9) ∧ Hid (done ++ cutN (M - done.length) rest.data.toList = cutN M s.data.toList))
  case atStart => exact ⟨[], s, rfl, rfl, Nat.zero_le _, rfl, Nat.le_refl _, by rw [rowS, List.map_nil, Lib.cellsOf_nil], rfl⟩
  case round =>
    obtain ⟨done, rest, rfl, rfl, hd, rfl, hrs, rfl, hsp⟩ := hrel
    have hroom : done.length < N := by have := hM.out; omega
    have hnext : (rowS done N)[done.length]? = some (.string ByteArray.empty) := by
      have := Lib.cellsOf_next (done := done.map mkB) (N := N) (by simpa using hroom)
      simpa using this
    have hset : ∀ x : List UInt8, (rowS done N).setIfInBounds done.length (.string (mkB x)) = rowS (done ++ [x]) N := fun x => by
      have := Lib.cellsOf_set (done := done.map mkB) (N := N) (by simpa using hroom) (mkB x)
      simpa [rowS] using this
    have fin : cutN (M - done.length) rest.data.toList = [rest.data.toList] → (cutN M s.data.toList).length = done.length + 1 ∧ rowS (cutN M s.data.toList) N = (rowS done N).setIfInBounds done.length (.string rest) := fun h => by
      have e := hsp.out
      rw [h] at e
      rw [← e]
      exact ⟨by simp, by have := hset rest.data.toList; rw [mkB_self] at this; exact this.symm⟩
    have FIN := Lib.hid fin
    have HSET := Lib.hid hset
    clear fin hset
    by_cases hlt : done.length < M
    · have hltz : (done.length : Int) < (M : Int) := by omega
      cases hcd : cutDot rest.data.toList with
      | none =>
        have hix := Lib.hid (cutDot_none hcd).2
        have hone := FIN.out (cutN_none hcd)
        have HONE := Lib.hid hone
        clear hcd hone
        go_wp2_with (go_at_call 71; refine (index_is _ _ hix).mono ?_; rintro e w' ⟨rfl, rfl⟩)
        go_ret
        obtain ⟨f1, f2⟩ := HONE.out
        rw [f1, f2]
        exact ⟨by first | rfl | (congr 2 <;> omega), rfl⟩
      | some p =>
        obtain ⟨x, y⟩ := p
        obtain ⟨hxy, _, hix⟩ := cutDot_some hcd
        have hsz : rest.size = x.length + 1 + y.length := by
          have := congrArg List.length hxy
          simp at this
          omega
        have HIX := Lib.hid hix
        have HSP : Hid (done ++ [x] ++ cutN (M - (done.length + 1)) y = cutN M s.data.toList) := by
          show _ = _
          rw [← hsp.out, show M - done.length = M - (done.length + 1) + 1 by omega, cutN_some hcd]
          simp
        have hf := Lib.hid (mkB_front hxy)
        have hbk := Lib.hid (mkB_back hxy)
        have c0 : ¬ ((x.length : Int) < 0) := by omega
        have c2 : (x.length : Int) ≤ (rest.size : Int) := by omega
        have c3 : (0 : Int) ≤ (x.length : Int) + 1 := by omega
        have c4 : (x.length : Int) + 1 ≤ (rest.size : Int) := by omega
        have c5 : y.length ≤ s.size := by omega
        clear hcd hxy hix hsz
        go_wp2_with (go_at_call 71; refine (index_is _ _ HIX).mono ?_; rintro e w' ⟨rfl, rfl⟩)
        go_roundg (M - (done.length + 1))
        case measure => omega
        case rel =>
          refine ⟨done ++ [x], mkB y, by rw [← hbk.out], by simp, by simp; omega, by simp, by rw [mkB_size]; exact c5, by rw [← HSET.out x, ← hf.out], ?_⟩
          show _ = _
          rw [mkB_data, List.length_append, List.length_singleton]
          exact HSP.out
    · have hltz : ¬ ((done.length : Int) < (M : Int)) := by omega
      have hone := FIN.out (by rw [show M - done.length = 0 by omega]; rfl)
      have HONE := Lib.hid hone
      clear hone
      go_wp2
      go_ret
      obtain ⟨f1, f2⟩ := HONE.out
      rw [f1, f2]
      exact ⟨by first | rfl | (congr 2 <;> omega), rfl⟩

theorem splitN_dot (s : ByteArray) (hs : s.size ≤ 140737488351232) (w : World) (N : Nat) (hN : N = min 4 (s.size + 1)) :
    Calls Tryd.prog 44 #[.string s, .string ⟨#[46]⟩, .int .i64 4] w fun e w' =>
      e = .returned (.slice (some ⟨w.heap.size, 0, none⟩) (cutN (N - 1) s.data.toList).length N) ∧ w' = w.alloc (.cells (rowS (cutN (N - 1) s.data.toList) N) 9) := by
  have h := genSplit_dot s hs w N hN
  have H := Lib.hid h
  clear h hN
  go_enter Tryd.func44, Tryd.ntmps44
  go_wp2_with (go_at_call 61; refine H.out.mono ?_; rintro e w' ⟨rfl, rfl⟩)
  go_ret
  exact ⟨rfl, rfl⟩
end Go.Proofs.YtchffamnamhcdaaDoor
