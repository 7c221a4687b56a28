/- Contracts of codec.putChecksum and codec.readChecksum. -/
import Derived.Test.YtodoiobhphahcaaSum
import Derived.Test.YtodoiobhphahcaaPutText
import Derived.BigQuiet
import Derived.Deep.QuietTactic
namespace Go.Proofs.Ytodoiobhphahcaa
open Go.RowKit

/-- What a call gives that appends to a row of its caller's. -/
def Grows (base : Nat) (w : World) (xs : List Int) (e : Ending) (w' : World) : Prop := ∃ V, e = .returned V ∧ OwnB w' base V xs ∧ Below base w w'

theorem rd_four (w : World) (a b c d : Int) : Rd (w.alloc (.cells #[.int .u8 a, .int .u8 b, .int .u8 c, .int .u8 d] 5)) (some ⟨w.heap.size, 0, none⟩) [a, b, c, d] :=
  rd_new w [a, b, c, d] 5

set_option maxHeartbeats 400000 in
theorem putSum_any (base : Nat) (V : Value) (xs : List Int) (s : Nat) (w : World) (ho : OwnB w base V xs) (hbase : base ≤ w.heap.size) (hl : xs.length ≤ 140737488351232) :
    Calls Try.prog 32 #[V, .int .u32 s] w (Grows base w (xs ++ be4 s)) := by
  obtain ⟨A, c, rfl, _⟩ := Own.form ho
  go_enter Try.func32, Try.ntmps32
  go_wp2_with (at_builtin; (refine app_bytes rfl (.tmp 5) (.tmp 17) rfl base _ xs (some ⟨w.heap.size, 0, none⟩) [_, _, _, _] 4 rfl rfl (.inl (ho.below (below_new _ _))) (.inr (by simp)) (rd_four _ _ _ _ _) (by simp; omega) (by simp; omega) ?_); intro V' w' ho' hb' _ _)
  go_ret
  refine ⟨V', rfl, ?_, (((Below.refl _ _).alloc hbase _).trans hb')⟩
  have e : be4 s = [(s : Int) / 16777216 % 256, (s : Int) / 65536 % 256, (s : Int) / 256 % 256, (s : Int) % 256] := by simp [be4]
  rw [e]
  exact ho'

/-- The number in four bytes, the highest first. -/
def rd4 (xs : List Int) : Int := xs.getD 0 0 * 16777216 + xs.getD 1 0 * 65536 + xs.getD 2 0 * 256 + xs.getD 3 0

theorem or_join (i : Nat) {a b : Int} (ha : 0 ≤ a) (ha1 : a < 4294967296) (hb : 0 ≤ b) (hb1 : b < 4294967296) (hm : a.toNat % 2 ^ i = 0) (hl : b.toNat < 2 ^ i) : bits .or .u32 a b = a + b := by
  rw [u32_or a b ha ha1 hb hb1, nat_join i _ _ hm hl]
  omega
theorem or_four {a b c d : Int} (a0 : 0 ≤ a) (a1 : a < 256) (b0 : 0 ≤ b) (b1 : b < 256) (c0 : 0 ≤ c) (c1 : c < 256) (d0 : 0 ≤ d) (d1 : d < 256) :
    bits .or .u32 (bits .or .u32 (bits .or .u32 (a * 16777216) (b * 65536)) (c * 256)) d = a * 16777216 + b * 65536 + c * 256 + d := by
  have h1 : bits .or .u32 (a * 16777216) (b * 65536) = a * 16777216 + b * 65536 := or_join 24 (by omega) (by omega) (by omega) (by omega) (by omega) (by omega)
  have h2 : bits .or .u32 (a * 16777216 + b * 65536) (c * 256) = a * 16777216 + b * 65536 + c * 256 := or_join 16 (by omega) (by omega) (by omega) (by omega) (by omega) (by omega)
  have h3 : bits .or .u32 (a * 16777216 + b * 65536 + c * 256) d = a * 16777216 + b * 65536 + c * 256 + d := or_join 8 (by omega) (by omega) (by omega) (by omega) (by omega) (by omega)
  rw [h1, h2, h3]
theorem below_drewN {B : Nat} {a w : World} (h : Below B a w) (n : Nat) : Below B a (w.drewN n) := ⟨h.os, h.tape, h.output, h.size, h.block⟩

set_option maxHeartbeats 400000 in
theorem readSum_any (b o c : Nat) (xs : List Int) (w : World) (hc : ∀ i, i < 4 → w.cell? ⟨b, o + i, none⟩ = some (.int .u8 (xs.getD i 0))) (hb : Byt xs) (h4 : 4 ≤ xs.length) :
    Calls Try.prog 33 #[.slice (some ⟨b, o, none⟩) xs.length c] w fun e w' => e = .returned (.int .u32 (rd4 xs)) ∧ Below w.heap.size w w' := by
  unfold rd4
  have c0 := hc 0 (by omega)
  have c1 := hc 1 (by omega)
  have c2 := hc 2 (by omega)
  have c3 := hc 3 (by omega)
  clear hc
  rw [Nat.add_zero] at c0
  obtain ⟨a0, a1⟩ := hb.getD 0
  obtain ⟨b0, b1⟩ := hb.getD 1
  obtain ⟨d0, d1⟩ := hb.getD 2
  obtain ⟨e0, e1⟩ := hb.getD 3
  generalize xs.getD 0 0 = x0 at *
  generalize xs.getD 1 0 = x1 at *
  generalize xs.getD 2 0 = x2 at *
  generalize xs.getD 3 0 = x3 at *
  have l0 : (0 : Int) < (xs.length : Int) := by omega
  have l1 : (1 : Int) < (xs.length : Int) := by omega
  have l2 : (2 : Int) < (xs.length : Int) := by omega
  have l3 : (3 : Int) < (xs.length : Int) := by omega
  go_enter Try.func33, Try.ntmps33
  go_wp2
  go_quiet (fail)
  go_wp2
  go_ret
  refine ⟨?_, below_drewN (Below.refl _ _) _⟩
  rw [← or_four a0 a1 b0 b1 d0 d1 e0 e1]
  rfl

/-- A frame. -/
def frameB (xs : List Int) : List Int := vint xs.length ++ xs ++ be4 (crc xs)

theorem sum_is (A : Option Addr) (c : Nat) (xs : List Int) (w : World) (h : Rd w A xs) (hb : Byt xs) (hm : xs.length ≤ maxLen) {s : Nat} (hs : Hid (crc xs = s)) :
    Calls Try.prog 25 #[.slice A xs.length c] w fun e w' => e = .returned (.int .u32 (s : Int)) ∧ w = w' :=
  (sum_any A c xs w h hb hm).mono fun _ _ ⟨h1, h2⟩ => ⟨by rw [h1, hs.out], h2⟩
theorem refSum_is (A : Option Addr) (c : Nat) (xs : List Int) (w : World) (h : Rd w A xs) (hb : Byt xs) (hm : xs.length ≤ maxLen) {s : Nat} (hs : Hid (crc xs = s)) :
    Calls Try.prog 26 #[.slice A xs.length c] w fun e w' => e = .returned (.int .u32 (s : Int)) ∧ w = w' :=
  (refSum_any A c xs w h hb hm).mono fun _ _ ⟨h1, h2⟩ => ⟨by rw [h1, hs.out], h2⟩

/-- A frame that is made. -/
def Framed (w : World) (xs : List Int) (e : Ending) (w' : World) : Prop := ∃ V, e = .returned (.tuple #[V, .int .i64 0]) ∧ OwnB w' w.heap.size V xs ∧ Below w.heap.size w w'
/-- One that is refused. -/
def Refused (w : World) (e : Ending) (w' : World) : Prop := e = .returned (.tuple #[.slice none 0 0, .int .i64 3]) ∧ w = w'

theorem put_nil (v : Int) (w : World) (hv0 : 0 ≤ v) (hv1 : v < 18446744073709551616) : Calls Try.prog 15 #[.slice none 0 0, .int .u64 v] w (Gives w (vint v)) :=
  put_any none 0 [] v w (Rd.nil _ _) (by simp) hv0 hv1 (by simp)
theorem refPut_nil (v : Int) (w : World) (hv0 : 0 ≤ v) (hv1 : v < 18446744073709551616) : Calls Try.prog 16 #[.slice none 0 0, .int .u64 v] w (Gives w (vint v)) :=
  refPut_any none 0 [] v w (Rd.nil _ _) (by simp) hv0 hv1

set_option maxHeartbeats 400000 in
theorem frame_no (A : Option Addr) (c : Nat) (xs : List Int) (w : World) (hl : 4096 < xs.length) : Calls Try.prog 27 #[.slice A xs.length c] w (Refused w) := by
  have hl' : (4096 : Int) < (xs.length : Int) := by omega
  go_enter Try.func27, Try.ntmps27
  go_wp2
  go_ret2
  exact ⟨rfl, rfl⟩
set_option maxHeartbeats 400000 in
theorem refFrame_no (A : Option Addr) (c : Nat) (xs : List Int) (w : World) (hl : 4096 < xs.length) : Calls Try.prog 28 #[.slice A xs.length c] w (Refused w) := by
  have hl' : (4096 : Int) < (xs.length : Int) := by omega
  go_enter Try.func28, Try.ntmps28
  go_wp2
  go_ret2
  exact ⟨rfl, rfl⟩

set_option maxHeartbeats 400000 in
theorem frame_yes (A : Option Addr) (c : Nat) (xs : List Int) (w : World) (h : Rd w A xs) (hb : Byt xs) (hl : xs.length ≤ 4096) : Calls Try.prog 27 #[.slice A xs.length c] w (Framed w (frameB xs)) := by
  have hl' : ¬ (4096 : Int) < (xs.length : Int) := by omega
  have hp := Lib.hid (put_nil (xs.length : Int) w (by omega) (by omega))
  have hk := (vint_len (xs.length : Int)).2
  obtain ⟨s, HS⟩ : ∃ s, Hid (crc xs = s) := ⟨_, rfl⟩
  go_enter Try.func27, Try.ntmps27
  go_wp2_with (first
    | (go_at_call 15; refine hp.out.mono ?_; rintro e w1 ⟨V, rfl, ho, hb1⟩)
    | (at_builtin; (refine app_bytes rfl (.tmp 12) (.tmp 13) rfl w.heap.size _ (vint xs.length) A xs c rfl rfl (.inl ho) (.inl ho) (h.below hb1) (by omega) hb1.size ?_); intro V2 w2 ho2 hb2 _ _)
    | (go_at_call 25; refine (sum_is A c xs w2 (h.below (hb1.trans hb2)) hb (by simp only [maxLen]; omega) HS).mono ?_; rintro e w3 ⟨rfl, rfl⟩)
    | (go_at_call 32; refine (putSum_any w.heap.size V2 (vint xs.length ++ xs) s w2 ho2 (hb1.trans hb2).size (by simp; omega)).mono ?_; rintro e w4 ⟨V4, rfl, ho4, hb4⟩))
  go_ret2
  refine ⟨V4, rfl, ?_, (hb1.trans hb2).trans hb4⟩
  unfold frameB
  rw [HS.out]
  exact ho4

set_option maxHeartbeats 400000 in
theorem refFrame_yes (A : Option Addr) (c : Nat) (xs : List Int) (w : World) (h : Rd w A xs) (hb : Byt xs) (hl : xs.length ≤ 4096) : Calls Try.prog 28 #[.slice A xs.length c] w (Framed w (frameB xs)) := by
  have hl' : ¬ (4096 : Int) < (xs.length : Int) := by omega
  have hp := Lib.hid (refPut_nil (xs.length : Int) w (by omega) (by omega))
  have hk := (vint_len (xs.length : Int)).2
  obtain ⟨s, HS⟩ : ∃ s, Hid (crc xs = s) := ⟨_, rfl⟩
  go_enter Try.func28, Try.ntmps28
  go_wp2_with (first
    | (go_at_call 16; refine hp.out.mono ?_; rintro e w1 ⟨V, rfl, ho, hb1⟩)
    | (at_builtin; (refine app_bytes rfl (.tmp 12) (.tmp 13) rfl w.heap.size _ (vint xs.length) A xs c rfl rfl (.inl ho) (.inl ho) (h.below hb1) (by omega) hb1.size ?_); intro V2 w2 ho2 hb2 _ _)
    | (go_at_call 26; refine (refSum_is A c xs w2 (h.below (hb1.trans hb2)) hb (by simp only [maxLen]; omega) HS).mono ?_; rintro e w3 ⟨rfl, rfl⟩)
    | (at_builtin; (refine app_bytes rfl (.tmp 17) (.tmp 29) rfl w.heap.size _ (vint xs.length ++ xs) (some ⟨w2.heap.size, 0, none⟩) [_, _, _, _] 4 rfl rfl (.inl (ho2.below (below_new _ _))) (.inr (by simp)) (rd_four _ _ _ _ _) (by simp; omega) (by have := (hb1.trans hb2).size; simp; omega) ?_); intro V' w' ho' hb' _ _))
  go_ret2
  refine ⟨V', rfl, ?_, (((hb1.trans hb2).alloc (hb1.trans hb2).size _).trans hb')⟩
  have e : be4 s = [(s : Int) / 16777216 % 256, (s : Int) / 65536 % 256, (s : Int) / 256 % 256, (s : Int) % 256] := by simp [be4]
  unfold frameB
  rw [HS.out, e]
  exact ho'
end Go.Proofs.Ytodoiobhphahcaa
