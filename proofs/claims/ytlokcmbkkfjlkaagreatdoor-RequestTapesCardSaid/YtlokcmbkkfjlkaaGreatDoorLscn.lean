/- Contracts: the scanner: word, capitals, digits, next. -/
import Derived.Test.YtlokcmbkkfjlkaaGreatDoorLadd
import Derived.Test.YtlokcmbkkfjlkaaGreatDoorLmod
import Derived.Test.YtlokcmbkkfjlkaaGreatDoorLnum
import Derived.Test.YtlokcmbkkfjlkaaGreatDoorShelf
namespace Go.Proofs.YtlokcmbkkfjlkaaGreatDoor
open Go.RowKit
open Go.Sort (grow)
set_option linter.unusedVariables false
set_option linter.unusedSimpArgs false

/-- The package variables that a call may read: the names of the modes, two errors. -/
def VX (w : World) : Prop := VN w ∧ (∃ tp p, w.var? Tryz.prog "strconv.ErrSyntax" = some #[.iface tp p]) ∧ ∃ tp p, w.var? Tryz.prog "strconv.ErrRange" = some #[.iface tp p]
theorem var_below {P : Program} {w w' : World} {name : String} {cs : Array Value} (h : w.var? P name = some cs) (hb : Below w.heap.size w w') : w'.var? P name = some cs := by
  unfold World.var? at *
  cases hg : P.globalNamed name with
  | none => simp [hg] at h
  | some g =>
    simp only [hg, Option.bind_some] at h ⊢
    have hlt : g < w.heap.size := by
      rcases Nat.lt_or_ge g w.heap.size with h' | h'
      · exact h'
      · rw [Array.getElem?_eq_none h'] at h; cases h
    rw [hb.block g hlt]
    exact h
theorem VX.below {w w' : World} (h : VX w) (hb : Below w.heap.size w w') : VX w' := by
  obtain ⟨h1, ⟨tp, p, h2⟩, tq, q, h3⟩ := h
  exact ⟨h1.below hb, ⟨tp, p, var_below h2 hb⟩, tq, q, var_below h3 hb⟩
/-- They stay as they are whatever is written from block b on. -/
def VB (b : Nat) (w : World) : Prop := ∀ w', Below b w w' → VX w'
theorem VB.below {b : Nat} {w w' : World} (h : VB b w) (hb : Below b w w') : VB b w' := fun v hv => h v (hb.trans hv)
theorem VB.here {b : Nat} {w : World} (h : VB b w) : VX w := h w (Below.refl _ _)
theorem VX.all {w : World} (h : VX w) : VB w.heap.size w := fun _ hv => h.below hv

/-- The end of strconv.Atoi with an error. -/
def AtoiErr (w : World) (e : Ending) (w' : World) : Prop := ∃ (m : Int) (k : Nat), e = .returned (.tuple #[.int .i64 m, .iface 155 (.pointer (some ⟨k, 0, none⟩))]) ∧ Below w.heap.size w w'
theorem atoi_ok (s : ByteArray) (hs : s.size ≤ 140737488351232) (w : World) {v : Int} (h : Hid (Lib.atoiAll s.data.toList = .ok v)) :
    Calls Tryz.prog 119 #[.string s] w fun e w' => e = .returned (.tuple #[.int .i64 v, .nilIface]) ∧ Below w.heap.size w w' :=
  (Tryz.strconv_Atoi_ok s (by omega) v h.out w).mono fun _ _ ⟨he, hw⟩ => ⟨he, by
    rcases hw with rfl | ⟨t, rfl⟩
    · exact Below.refl _ _
    · exact Lib.bytesWorld_below _ _ _⟩
theorem atoi_bad (s : ByteArray) (hs : s.size ≤ 140737488351232) (w : World) (hV : VX w) (h : Hid (∀ v, ¬ Lib.atoiAll s.data.toList = .ok v)) :
    Calls Tryz.prog 119 #[.string s] w (AtoiErr w) := by
  obtain ⟨_, ⟨tp, p, h2⟩, tq, q, h3⟩ := hV
  cases ha : Lib.atoiAll s.data.toList
  · exact absurd ha (h.out _)
  · exact (Tryz.strconv_Atoi_syntax_var s (by omega) ha tp p w h2).mono fun _ _ ⟨N, he, _, _, hb⟩ => ⟨_, N, he, hb⟩
  · exact (Tryz.strconv_Atoi_range_var s (by omega) ha tq q w h3).mono fun _ _ ⟨N, he, _, _, hb⟩ => ⟨_, N, he, hb⟩

theorem Sc.lt {w : World} {b base : Nat} {s : ByteArray} {i st : Nat} {acc : List T4} (h : Sc w b base s i st acc) : b < w.heap.size := Nat.lt_of_lt_of_le h.1 h.2.1
theorem Sc.up {w w' : World} {b base : Nat} {s : ByteArray} {i st : Nat} {acc : List T4} (h : Sc w b base s i st acc) (hb : Below w.heap.size w w') : Sc w' b base s i st acc := by
  have hlt := h.lt
  obtain ⟨h1, h2, V, h3, h4⟩ := h
  exact ⟨h1, Nat.le_trans h2 hb.size, V, h3.below hb hlt, h4.below hb⟩
theorem run_sc (p : Int → Bool) (K : Nat) (b base : Nat) (s : ByteArray) (i st : Nat) (acc : List T4) (w : World) (hS : Sc w b base s i st acc) (hi : i ≤ s.size) (hs : s.size ≤ 1024)
    (eg : ∀ args w, (callFunc K args).run Tryz.prog w = .ok (.enter K args) w)
    (HK : Hid (∀ c W r, Hid (p c = r) → Calls Tryz.prog K #[.int .u8 c] W fun e w' => e = .returned (.bool r) ∧ W = w')) {k : Nat} (hk : Hid (i + tw p (s.data.toList.drop i) = k)) {T : ByteArray} (hT : Hid (cutB s i k = T)) :
    Calls Tryz.prog 79 #[.pointer (some ⟨b, 0, none⟩), .func (.func K) #[] #[]] w fun e w' => e = .returned (.string T) ∧ Sc w' b base s k st acc ∧ Below b w w' := by
  obtain ⟨h1, h2, V, h3, h4⟩ := hS
  rw [← hT.out]
  exact (run_is p K b s i st V w h3 hi hs eg HK hk).mono fun e w' ⟨he, hw, hf⟩ => ⟨he, ⟨h1, Nat.le_trans h2 hf.size, V, hw, h4.frm hf h1⟩, hf.below (by omega)⟩
theorem egSpace : ∀ args w, (callFunc 80 args).run Tryz.prog w = .ok (.enter 80 args) w := enters_of Tryz.func80 (by kernel_rfl) rfl
theorem egWord : ∀ args w, (callFunc 117 args).run Tryz.prog w = .ok (.enter 117 args) w := enters_of Tryz.func117 (by kernel_rfl) rfl
theorem egCap : ∀ args w, (callFunc 102 args).run Tryz.prog w = .ok (.enter 102 args) w := enters_of Tryz.func102 (by kernel_rfl) rfl
theorem egDig : ∀ args w, (callFunc 104 args).run Tryz.prog w = .ok (.enter 104 args) w := enters_of Tryz.func104 (by kernel_rfl) rfl
theorem HKw : Hid (∀ c W r, Hid (prt c = r) → Calls Tryz.prog 117 #[.int .u8 c] W fun e w' => e = .returned (.bool r) ∧ W = w') := fun c W r hr => by rw [← hr.out]; exact prt_any c W
theorem HKs : Hid (∀ c W r, Hid (spc c = r) → Calls Tryz.prog 80 #[.int .u8 c] W fun e w' => e = .returned (.bool r) ∧ W = w') := fun c W r hr => spc_is c W hr
theorem HKc : Hid (∀ c W r, Hid (cpl c = r) → Calls Tryz.prog 102 #[.int .u8 c] W fun e w' => e = .returned (.bool r) ∧ W = w') := fun c W r hr => cpl_is c W hr
theorem HKd : Hid (∀ c W r, Hid (dig c = r) → Calls Tryz.prog 104 #[.int .u8 c] W fun e w' => e = .returned (.bool r) ∧ W = w') := fun c W r hr => dig_is c W hr
theorem cutB_size {s : ByteArray} {i k : Nat} (h : i ≤ k) (hk : k ≤ s.size) : (cutB s i k).size = k - i := by
  unfold cutB
  rw [mkB_size, List.length_take, List.length_drop]
  have e : s.data.toList.length = s.size := by simp
  omega
theorem cutB_tw {p : Int → Bool} {s : ByteArray} {i k : Nat} (hk : Hid (i + tw p (s.data.toList.drop i) = k)) : cutB s i k = mkB ((s.data.toList.drop i).take (tw p (s.data.toList.drop i))) := by
  unfold cutB
  rw [← hk.out, show i + tw p (s.data.toList.drop i) - i = tw p (s.data.toList.drop i) by omega]

set_option maxHeartbeats 1000000 in
theorem word_bad (b base : Nat) (s : ByteArray) (i st : Nat) (acc : List T4) (w : World) (hS : Sc w b base s i st acc) (hi : i ≤ s.size) (hs : s.size ≤ 1024) {k : Nat} (hk : Hid (i + tw prt (s.data.toList.drop i) = k)) (h12 : 12 < k - i) :
    Calls Tryz.prog 101 #[.pointer (some ⟨b, 0, none⟩)] w fun e w' => e = .returned (.int .i64 9) ∧ Sc w' b base s k st acc ∧ Below b w w' := by
  have HS := Lib.hid hS
  obtain ⟨T, hT⟩ : ∃ T, Hid (cutB s i k = T) := ⟨_, rfl⟩
  have hz : 12 < (T.size : Int) := by rw [← hT.out, cutB_size (by have := hk.out; omega) (by have := hk.out; have := tw_size prt hi; omega)]; omega
  clear hS
  go_enter Tryz.func101, Tryz.ntmps101
  go_wp2_with (first
    | (go_at_call 79; refine (run_sc prt _ b base s i st acc _ HS.out hi hs egWord HKw hk hT).mono ?_; rintro e W1 ⟨rfl, hs1, hb1⟩; have HS1 := Lib.hid hs1; have HB1 := Lib.hid hb1; clear hs1 hb1))
  go_ret
  exact ⟨rfl, HS1.out, HB1.out⟩
set_option maxHeartbeats 1000000 in
theorem word_ok (b base : Nat) (s : ByteArray) (i st : Nat) (acc : List T4) (w : World) (hS : Sc w b base s i st acc) (hi : i ≤ s.size) (hs : s.size ≤ 1024) (hlen : Hid (acc.length ≤ 2000)) {k : Nat} (hk : Hid (i + tw prt (s.data.toList.drop i) = k)) (h12 : k - i ≤ 12) :
    Calls Tryz.prog 101 #[.pointer (some ⟨b, 0, none⟩)] w fun e w' => e = .returned (.int .i64 0) ∧ Sc w' b base s k st (acc ++ [(1, cutB s i k, 0, (st : Int))]) ∧ Below b w w' := by
  have HS := Lib.hid hS
  obtain ⟨T, hT⟩ : ∃ T, Hid (cutB s i k = T) := ⟨_, rfl⟩
  have hz : ¬ 12 < (T.size : Int) := by rw [← hT.out, cutB_size (by have := hk.out; omega) (by have := hk.out; have := tw_size prt hi; omega)]; omega
  clear hS
  rw [hT.out]
  go_enter Tryz.func101, Tryz.ntmps101
  go_wp2_with (first
    | (go_at_call 79; refine (run_sc prt _ b base s i st acc _ HS.out hi hs egWord HKw hk hT).mono ?_; rintro e W1 ⟨rfl, hs1, hb1⟩; have HS1 := Lib.hid hs1; have HB1 := Lib.hid hb1; clear hs1 hb1)
    | (go_at_call 82; refine (add_is b base s k st acc _ HS1.out hlen _ _ _).mono ?_; rintro e W2 ⟨rfl, hs2, hb2⟩; have HS2 := Lib.hid hs2; have HB2 := Lib.hid hb2; clear hs2 hb2))
  go_ret
  exact ⟨rfl, HS2.out, HB1.out.trans HB2.out⟩
set_option maxHeartbeats 1000000 in
theorem caps_bad (b base : Nat) (s : ByteArray) (i st : Nat) (acc : List T4) (w : World) (hV : VB b w) (hS : Sc w b base s i st acc) (hi : i ≤ s.size) (hs : s.size ≤ 1024) {k : Nat} (hk : Hid (i + tw cpl (s.data.toList.drop i) = k)) (hm : Hid (prs (cutB s i k) = 0)) :
    Calls Tryz.prog 103 #[.pointer (some ⟨b, 0, none⟩)] w fun e w' => e = .returned (.int .i64 8) ∧ Sc w' b base s k st acc ∧ Below b w w' := by
  have HS := Lib.hid hS
  have HV := Lib.hid hV
  obtain ⟨T, hT⟩ : ∃ T, Hid (cutB s i k = T) := ⟨_, rfl⟩
  have hp : Hid (prs T = 0) := by show _ = _; rw [← hT.out]; exact hm.out
  clear hS hV
  go_enter Tryz.func103, Tryz.ntmps103
  go_wp2_with (first
    | (go_at_call 79; refine (run_sc cpl _ b base s i st acc _ HS.out hi hs egCap HKc hk hT).mono ?_; rintro e W1 ⟨rfl, hs1, hb1⟩; have HS1 := Lib.hid hs1; have HB1 := Lib.hid hb1; clear hs1 hb1)
    | (go_at_call 118; refine (parse_no T _ (HV.out.below HB1.out).here.1 hp).mono ?_; rintro e W2 ⟨rfl, rfl⟩))
  go_ret
  exact ⟨rfl, HS1.out, HB1.out⟩
set_option maxHeartbeats 1000000 in
theorem caps_ok (b base : Nat) (s : ByteArray) (i st : Nat) (acc : List T4) (w : World) (hV : VB b w) (hS : Sc w b base s i st acc) (hi : i ≤ s.size) (hs : s.size ≤ 1024) (hlen : Hid (acc.length ≤ 2000)) {k : Nat} (hk : Hid (i + tw cpl (s.data.toList.drop i) = k)) {m : Int} (hm : Hid (prs (cutB s i k) = m)) (hm1 : Hid (1 ≤ m)) :
    Calls Tryz.prog 103 #[.pointer (some ⟨b, 0, none⟩)] w fun e w' => e = .returned (.int .i64 0) ∧ Sc w' b base s k st (acc ++ [(2, cutB s i k, m, (st : Int))]) ∧ Below b w w' := by
  have HS := Lib.hid hS
  have HV := Lib.hid hV
  obtain ⟨T, hT⟩ : ∃ T, Hid (cutB s i k = T) := ⟨_, rfl⟩
  have hp : Hid (prs T = m) := by show _ = _; rw [← hT.out]; exact hm.out
  clear hS hV
  rw [hT.out]
  go_enter Tryz.func103, Tryz.ntmps103
  go_wp2_with (first
    | (go_at_call 79; refine (run_sc cpl _ b base s i st acc _ HS.out hi hs egCap HKc hk hT).mono ?_; rintro e W1 ⟨rfl, hs1, hb1⟩; have HS1 := Lib.hid hs1; have HB1 := Lib.hid hb1; clear hs1 hb1)
    | (go_at_call 118; refine (parse_yes T _ (HV.out.below HB1.out).here.1 hp hm1).mono ?_; rintro e W2 ⟨rfl, rfl⟩)
    | (go_at_call 82; refine (add_is b base s k st acc _ HS1.out hlen _ _ _).mono ?_; rintro e W3 ⟨rfl, hs2, hb2⟩; have HS2 := Lib.hid hs2; have HB2 := Lib.hid hb2; clear hs2 hb2))
  go_ret
  exact ⟨rfl, HS2.out, HB1.out.trans HB2.out⟩
end Go.Proofs.YtlokcmbkkfjlkaaGreatDoor
