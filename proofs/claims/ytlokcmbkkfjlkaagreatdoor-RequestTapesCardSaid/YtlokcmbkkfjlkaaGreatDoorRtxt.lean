/- Contracts: rows of strings; strconv.Itoa, strings.Join; the texts of modes, amounts, atoms, settings, words of groups. -/
import Derived.Test.YtlokcmbkkfjlkaaGreatDoorRvx
import Derived.Test.YtlokcmbkkfjlkaaGreatDoorRtx
import Derived.Test.YtlokcmbkkfjlkaaGreatDoorLscn
import Derived.Test.YtlokcmbkkfjlkaaGreatDoorShelf
namespace Go.Proofs.YtlokcmbkkfjlkaaGreatDoor
open Go.RowKit
set_option linter.unusedVariables false
set_option linter.unusedSimpArgs false

def sv (xs : List ByteArray) : List Value := xs.map Value.string
theorem sv_at {xs : List ByteArray} {j : Nat} {x : ByteArray} (h : xs[j]? = some x) : (sv xs)[j]? = some (.string x) := by simp [sv, h]
theorem sv_get {xs : List ByteArray} {j : Nat} {u : Value} (h : (sv xs)[j]? = some u) : ∃ x, xs[j]? = some x ∧ u = .string x := by
  simp only [sv, List.getElem?_map, Option.map_eq_some_iff] at h
  obtain ⟨x, hx, rfl⟩ := h
  exact ⟨x, hx, rfl⟩
/-- The slice at A reads as the strings xs. -/
def SRd (w : World) (A : Option Addr) (xs : List ByteArray) : Prop :=
  xs ≠ [] → ∃ b o, A = some ⟨b, o, none⟩ ∧ b < w.heap.size ∧ ∀ (i : Nat) x, xs[i]? = some x → w.cell? ⟨b, o + i, none⟩ = some (.string x)
theorem SRd.nil (w : World) (A : Option Addr) : SRd w A [] := fun h => absurd rfl h
theorem SRd.below {w w' : World} {A : Option Addr} {xs : List ByteArray} (h : SRd w A xs) (hb : Below w.heap.size w w') : SRd w' A xs := fun hx => by
  obtain ⟨b, o, hA, hlt, hc⟩ := h hx
  exact ⟨b, o, hA, Nat.lt_of_lt_of_le hlt hb.size, fun i x hi => (hb.cell (p := ⟨b, o + i, none⟩) hlt).trans (hc i x hi)⟩
abbrev OwnS (w : World) (base : Nat) (v : Value) (xs : List ByteArray) : Prop := w.ownsRow base 9 1 v xs.length (sv xs)
theorem OwnS.form {w : World} {base : Nat} {v : Value} {xs : List ByteArray} (h : OwnS w base v xs) :
    ∃ A c, v = .slice A xs.length c ∧ xs.length ≤ c ∧ SRd w A xs := by
  rcases h.2 with ⟨rfl, hn⟩ | ⟨g, cap, cur, rfl, hb, hg, hnc, hcm, _, _⟩
  · exact ⟨none, 0, by rw [hn], by omega, fun hx => absurd (List.eq_nil_of_length_eq_zero hn) hx⟩
  · have hlt : g < w.heap.size := (Array.getElem?_eq_some_iff.1 hg).1
    refine ⟨_, cap, rfl, hnc, fun _ => ⟨g, 0, rfl, hlt, fun i x hi => ?_⟩⟩
    have := h.cellAt i (by rw [Nat.mul_one]; exact (List.getElem?_eq_some_iff.1 hi).1)
    rw [Nat.zero_add, this, sv_at hi]
theorem OwnS.below {w w' : World} {base : Nat} {v : Value} {xs : List ByteArray} (h : OwnS w base v xs) (hb : Below w.heap.size w w') : OwnS w' base v xs := by
  refine ⟨h.1, ?_⟩
  rcases h.2 with hn | ⟨g, cap, cur, rfl, hbg, hg, rest⟩
  · exact .inl hn
  · exact .inr ⟨g, cap, cur, rfl, hbg, by rw [hb.block g (Array.getElem?_eq_some_iff.1 hg).1]; exact hg, rest⟩
theorem OwnS.nil (w : World) (base : Nat) : OwnS w base (.slice none 0 0) [] := World.ownsRow_nil w base 9 1
theorem OwnS.lit (w : World) (xs : List ByteArray) {base : Nat} (hb : base ≤ w.heap.size) (hl : xs.length ≤ 1000) : OwnS (w.alloc (.cells (sv xs).toArray 9)) base (.slice (some ⟨w.heap.size, 0, none⟩) xs.length xs.length) xs := by
  have := World.ownsRow_lit (base := base) (e := 9) (size := 1) w (sv xs).toArray xs.length hb (by simp only [maxLen]; omega) (by simp [sv])
  simpa using this
theorem OwnS.lit_at (w : World) (xs : List ByteArray) {base g : Nat} (hg : w.heap.size = g) (hb : base ≤ g) (hl : xs.length ≤ 1000) : OwnS (w.alloc (.cells (sv xs).toArray 9)) base (.slice (some ⟨g, 0, none⟩) xs.length xs.length) xs := by
  subst hg
  exact OwnS.lit w xs hb hl
theorem SRd.lit_at (w : World) (T : TypeId) (xs : List ByteArray) {g : Nat} (hg : w.heap.size = g) : SRd (w.alloc (.cells (sv xs).toArray T)) (some ⟨g, 0, none⟩) xs := by
  subst hg
  refine fun _ => ⟨_, 0, rfl, by simp, fun i x hi => ?_⟩
  have h1 := sv_at hi
  rw [Nat.zero_add]
  have : (w.alloc (.cells (sv xs).toArray T)).cell? ⟨w.heap.size, i, none⟩ = (sv xs).toArray[i]? := by
    have hb := heap_alloc_new w (.cells (sv xs).toArray T)
    simp only [World.cell?, hb]
    rfl
  rw [this]
  simpa using h1
theorem Src.strs {w : World} {tx e' : TypeId} (hk : Tryz.prog.underlying tx = some (.slice e')) {A : Option Addr} {ys : List ByteArray} (c : Nat) (h : SRd w A ys) : Src Tryz.prog 1 tx (.slice A ys.length c) ys.length (sv ys) w := by
  cases A with
  | none =>
    have hx : ys = [] := by
      rcases ys with _ | ⟨x, r⟩
      · rfl
      · obtain ⟨_, _, h, _⟩ := h (by simp)
        cases h
    subst hx
    exact Src.ofNil w hk c
  | some a =>
    rcases ys with _ | ⟨x, r⟩
    · exact Src.ofSlice w hk a 0 c [] rfl (fun j u h => by simp at h) (fun u h => by cases h)
    · obtain ⟨b, o, hA, _, hc⟩ := h (by simp)
      injection hA with hA
      subst hA
      refine Src.ofSlice w hk _ _ c _ (by simp [sv]) (fun j u hu => ?_) (fun u hu => ?_)
      · obtain ⟨y, hy, rfl⟩ := sv_get hu
        rw [add_at]
        exact hc j y hy
      · simp only [sv, List.mem_map] at hu
        obtain ⟨y, _, rfl⟩ := hu
        rfl
theorem str_info : (Tryz.prog.info? 9).map (fun i => (i.zero, i.size, i.bytes)) = some (some (.string ⟨#[]⟩), 1, 16) := by kernel_rfl
theorem app_strs {w : World} {ops : Array Oper} {rest : List Oper} {o : Oper} {a : Act} {Q : Exit → Act → World → Prop} (hgd : Region.wanted o (yielded ops a.tmps) = true) (s y : Operand)
    (ho : o.op = .call { callee := .builtin .append, args := #[s, y], argTypes := #[82, 82] })
    (base : Nat) (V : Value) (xs : List ByteArray) (A : Option Addr) (ys : List ByteArray) (n c : Nat) (hn : Hid (ys.length = n)) (hv : a.eval s = V) (hx : a.eval y = .slice A n c)
    (hd : OwnS w base V xs) (hs : SRd w A ys) (hlen : Hid (xs.length + n ≤ 1000000)) (hbase : base ≤ w.heap.size)
    (h : ∀ V' w', OwnS w' base V' (xs ++ ys) → Below base w w' → wpList Tryz.prog ops Q rest (a.put o.dst V') w') :
    wpList Tryz.prog ops Q (o :: rest) a w := by
  have hn' := hn.out
  subst hn'
  obtain ⟨i0, hi, hz0, hz1, hz2⟩ := info_parts str_info
  have hl := hlen.out
  refine wpList_app w hgd s y 82 82 ho base 9 i0 _ 1 16 Tryz.underlying82 hi hz0 hz1 hz2 rfl V xs.length (sv xs) _ ys.length (sv ys) hv hx (.inl hd)
    (Src.strs Tryz.underlying82 c hs) (by simp only [maxLen]; omega) (fits_half (by omega)) hbase (fun V' w' h1 h2 h3 h4 => h V' w' ?_ h2)
  unfold OwnS
  rw [List.length_append]
  simpa [sv] using h1


/-! ### The library's functions -/
/-- The library's table of powers of ten, as its initialiser lays it. -/
def Tab (w : World) : Prop := Lib.TabIs Tryz.prog w "internal/strconv.uint64pow10" .u64 Lib.pow10Tab
theorem Tab.below {w w' : World} (h : Tab w) (hb : Below w.heap.size w w') : Tab w' := var_below h hb
/-- The variables that the program reads. -/
def VR (w : World) : Prop := VX w ∧ Tab w
theorem VR.below {w w' : World} (h : VR w) (hb : Below w.heap.size w w') : VR w' := ⟨h.1.below hb, h.2.below hb⟩
theorem itoa_b (n : Int) (w : World) (h0 : 0 ≤ n) (h1 : n < 100) {r : ByteArray} (hr : Hid (mkB (dec n.toNat) = r)) : Calls Tryz.prog 66 #[.int .i64 n] w fun e w' => e = .returned (.string r) ∧ w = w' := by
  rw [← hr.out]
  obtain ⟨m, rfl⟩ := Int.eq_ofNat_of_zero_le h0
  exact (Tryz.strconv_Itoa_small m (by omega) w).mono fun _ _ ⟨he, hw⟩ => ⟨he, hw.symm⟩
theorem itoa_r (n : Int) (w : World) (h0 : 0 ≤ n) (h1 : n ≤ 100000) (hT : Tab w) {r : ByteArray} (hr : Hid (mkB (dec n.toNat) = r)) : Calls Tryz.prog 66 #[.int .i64 n] w fun e w' => e = .returned (.string r) ∧ Below w.heap.size w w' := by
  rw [← hr.out]
  refine (Tryz.strconv_Itoa n (by omega) (by omega) w hT).mono fun e w' h => ?_
  obtain ⟨he, hw⟩ := h
  refine ⟨he.trans ?_, ?_⟩
  · rw [Lib.itoa, if_neg (by omega)]
    rfl
  · exact Gro.below hw
theorem join_r (A : Option Addr) (n c : Nat) (xs : List ByteArray) (w : World) (hl : SRd w A xs) (hn : Hid (xs.length = n)) (h0 : Hid (xs ≠ [])) (hc : n ≤ c) (hn9 : n ≤ 1000) {r : ByteArray} (hr : Hid (mkB (Lib.join (xs.map (·.data.toList)) [44, 32]) = r)) (hs : r.size ≤ 100000) :
    Calls Tryz.prog 65 #[.slice A n c, .string ⟨#[44, 32]⟩] w fun e w' => e = .returned (.string r) ∧ Below w.heap.size w w' := by
  obtain ⟨b, o, rfl, hb, hcells⟩ := hl h0.out
  have hn' := hn.out
  subst hn'
  have hz : (Lib.join (xs.map (·.data.toList)) [44, 32]).length ≤ 100000 := by rw [← hr.out, mkB_size] at hs; exact hs
  have := Tryz.strings_Join b o c xs ⟨#[44, 32]⟩ w (fun j x hj => hcells j x hj) hb (by omega) hc (by show (Lib.join (xs.map (·.data.toList)) [44, 32]).length ≤ _; omega)
  refine this.mono fun e w' ⟨he, hw⟩ => ⟨?_, hw⟩
  rw [he, ← hr.out]
  rfl

/-! ### Small texts -/
theorem format_any (a : Int) (w : World) (hV : VN w) : Calls Tryz.prog 112 #[.int .i64 a] w fun e w' => e = .returned (.string (nmB a)) ∧ w = w' := by
  by_cases h : 1 ≤ a ∧ a ≤ 5
  · have e0 : w.cell? ⟨0, 0, none⟩ = some (.string ⟨#[73, 83]⟩) := hV.names 0 (by omega)
    have e1 : w.cell? ⟨0, 1, none⟩ = some (.string ⟨#[73, 88]⟩) := hV.names 1 (by omega)
    have e2 : w.cell? ⟨0, 2, none⟩ = some (.string ⟨#[83]⟩) := hV.names 2 (by omega)
    have e3 : w.cell? ⟨0, 3, none⟩ = some (.string ⟨#[83, 73, 88]⟩) := hV.names 3 (by omega)
    have e4 : w.cell? ⟨0, 4, none⟩ = some (.string ⟨#[88]⟩) := hV.names 4 (by omega)
    clear hV
    rcases md_cases h with rfl | rfl | rfl | rfl | rfl
    all_goals (
      clear h
      go_enter Tryz.func112, Tryz.ntmps112
      go_wp2_with (first | (go_at_call 98; refine (valid_any _ _).mono ?_; rintro e W1 ⟨rfl, rfl⟩))
      go_ret
      exact ⟨rfl, rfl⟩)
  · rw [nmB_no h]
    have ha : vmd a = false := by unfold vmd; simp; omega
    clear h
    go_enter Tryz.func112, Tryz.ntmps112
    go_wp2_with (first | (go_at_call 98; refine (valid_any _ _).mono ?_; rintro e W1 ⟨rfl, rfl⟩))
    go_ret
    exact ⟨rfl, rfl⟩

theorem nmB_mdT (m : Int) : nmB m = mkB (mdT m) := by
  unfold nmB mdT
  repeat (first | rfl | split)
theorem ba_data (a b : ByteArray) : (a ++ b).data.toList = a.data.toList ++ b.data.toList := by simp
theorem eqAm (x y a b : Int) (w : World) : (binOp .eql 23 (.agg #[.int .i64 x, .int .i64 y]) (.agg #[.int .i64 a, .int .i64 b])).run Tryz.prog w = .ok (.bool (decide (x = a ∧ y = b))) w := by
  have u3 := Tryz.underlying3
  have hS : Tryz.prog.underlying 23 = some (.struct (Tryz.prog.fieldsOf 23)) := by kernel_rfl
  have hp : Tryz.prog.stoodInHeld 23 = false := by kernel_rfl
  rw [run_eql_struct, show (10000 : Nat) = 9999 + 1 from rfl, run_equalIn_agg w 9999 23 _ _ hS hp]
  simp only [Program.fieldsOf, Tryz.underlying23]
  go_simp
  by_cases h1 : x = a <;> by_cases h2 : y = b <;> simp [h1, h2]

theorem zero_no {m n : Int} (w : World) (h : Hid (zer m n = false)) : Calls Tryz.prog 111 #[aa m n] w fun e w' => e = .returned (.bool false) ∧ Below w.heap.size w w' := by
  have e0 := eqAm m n 0 0
  have h' : decide (m = 0 ∧ n = 0) = false := h.out
  rw [h'] at e0
  go_enter Tryz.func111, Tryz.ntmps111
  go_wp2
  go_ret
  exact ⟨rfl, newB _ _⟩
theorem format_mode (a : Int) (w : World) (hV : VN w) {r : ByteArray} (hr : Hid (mkB (mdT a) = r)) : Calls Tryz.prog 112 #[.int .i64 a] w fun e w' => e = .returned (.string r) ∧ w = w' := by
  rw [← hr.out, ← nmB_mdT]; exact format_any a w hV
theorem pu_is (n : Int) (w : World) {r : Bool} (hr : Hid (pu n = r)) : Calls Tryz.prog 113 #[.int .i64 n] w fun e w' => e = .returned (.bool r) ∧ w = w' := by
  rw [← hr.out]; exact pu_any n w
theorem fmt_mode {m : Int} (w : World) (hV : VN w) (hm : 1 ≤ m ∧ m ≤ 5) {r : ByteArray} (hr : Hid (mkB (mdT m) = r)) : Calls Tryz.prog 90 #[aa m 0] w fun e w' => e = .returned (.string r) ∧ Below w.heap.size w w' := by
  have HV := Lib.hid hV
  have hz : Hid (zer m 0 = false) := by show _ = _; unfold zer; simp; omega
  clear hV hm
  go_enter Tryz.func90, Tryz.ntmps90
  go_wp2_with (first
    | (go_at_call 111; refine (zero_no _ hz).mono ?_; rintro e W1 ⟨rfl, hb1⟩; obtain ⟨hc1, hf1⟩ := bcell hb1)
    | (go_at_call 112; refine (format_mode _ _ (HV.out.below (dn1 hb1)) hr).mono ?_; rintro e W2 ⟨rfl, rfl⟩))
  all_goals (
    go_ret
    exact ⟨rfl, dn1 hb1⟩)
theorem fmt_units {u : Int} (w : World) (hu : 1 ≤ u ∧ u ≤ 8) {r : ByteArray} (hr : Hid (mkB (42 :: dec u.toNat) = r)) : Calls Tryz.prog 90 #[aa 0 u] w fun e w' => e = .returned (.string r) ∧ Below w.heap.size w w' := by
  have hz : Hid (zer 0 u = false) := by show _ = _; unfold zer; simp; omega
  have hp : Hid (pu u = true) := by show _ = _; unfold pu; simp; omega
  have hu0 : (u == 0) = false := by rw [beq_eq_false_iff_ne]; omega
  have h0 : 0 ≤ u := by omega
  have h1 : u < 100 := by omega
  obtain ⟨D, hD⟩ : ∃ D, Hid (mkB (dec u.toNat) = D) := ⟨_, rfl⟩
  have hDs : D.size ≤ 4 := by rw [← hD.out, mkB_size]; have := dec_len4 (n := u.toNat) (by omega); omega
  have n1 : ¬ 9223372036854775807 < 1 + D.size := by omega
  have hend : Hid ((⟨#[42]⟩ : ByteArray) ++ D = r) := by
    show _ = _
    rw [← hr.out, ← hD.out]
    apply ba_ext
    rw [ba_data, mkB_data, mkB_data]
    rfl
  clear hu
  go_enter Tryz.func90, Tryz.ntmps90
  go_wp2_with (first
    | (go_at_call 111; refine (zero_no _ hz).mono ?_; rintro e W1 ⟨rfl, hb1⟩; obtain ⟨hc1, hf1⟩ := bcell hb1)
    | (go_at_call 113; refine (pu_is _ _ hp).mono ?_; rintro e W2 ⟨rfl, rfl⟩)
    | (go_at_call 66; refine (itoa_b u _ h0 h1 hD).mono ?_; rintro e W2 ⟨rfl, rfl⟩))
  go_ret
  exact ⟨by rw [← hend.out]; rfl, dn1 hb1⟩
theorem mkB_sz (l : List UInt8) : (mkB l).size = l.length := mkB_size l
set_option maxHeartbeats 1000000 in
theorem atomText_is (s : ByteArray) (m u : Int) (w : World) (hV : VR w) (hn : Hid (Nam s)) (hu : Hid (usb m u = true)) {r : ByteArray} (hr : Hid (mkB (atx (s, m, u)) = r)) :
    Calls Tryz.prog 63 #[av s m u] w fun e w' => e = .returned (.string r) ∧ Below w.heap.size w w' := by
  have HV := Lib.hid hV
  have hs := hn.out.2.1
  clear hV
  rcases usb_is hu.out with ⟨h1, h2, rfl⟩ | ⟨rfl, h3, h4⟩
  · obtain ⟨M, hM⟩ : ∃ M, Hid (mkB (mdT m) = M) := ⟨_, rfl⟩
    have hMs : M.size ≤ 3 := by rw [← hM.out, mkB_size]; exact mdT_len m
    have n1 : ¬ 9223372036854775807 < 1 + M.size := by omega
    have n2 : ¬ 9223372036854775807 < s.size + (1 + M.size) := by omega
    have n3 : ¬ 9223372036854775807 < s.size + ((⟨#[58]⟩ : ByteArray) ++ M).size := by rw [ByteArray.size_append]; exact n2
    have h12 : 1 ≤ m ∧ m ≤ 5 := ⟨h1, h2⟩
    have hend : Hid (s ++ ((⟨#[58]⟩ : ByteArray) ++ M) = r) := by
      show _ = _
      rw [← hr.out, ← hM.out]
      apply ba_ext
      rw [ba_data, ba_data, mkB_data, mkB_data]
      rfl
    have H12 := Lib.hid h12
    clear h1 h2 h12
    go_enter Tryz.func63, Tryz.ntmps63
    go_wp2_with (go_at_call 90; refine (fmt_mode _ (HV.out.1.1.below (newB _ _)) H12.out hM).mono ?_; rintro e W1 ⟨rfl, hb1⟩; obtain ⟨hc1, hf1⟩ := bcell hb1)
    go_ret
    exact ⟨by rw [← hend.out]; rfl, dn1 hb1⟩
  · obtain ⟨M, hM⟩ : ∃ M, Hid (mkB (42 :: dec u.toNat) = M) := ⟨_, rfl⟩
    have hMs : M.size ≤ 5 := by rw [← hM.out, mkB_size]; have := dec_len4 (n := u.toNat) (by omega); simp; omega
    have n2 : ¬ 9223372036854775807 < s.size + M.size := by omega
    have hu0 : (u == 0) = false := by rw [beq_eq_false_iff_ne]; omega
    have H34 : Hid (1 ≤ u ∧ u ≤ 8) := ⟨h3, h4⟩
    have hend : Hid (s ++ M = r) := by
      show _ = _
      rw [← hr.out, ← hM.out]
      apply ba_ext
      rw [ba_data, mkB_data, mkB_data]
      unfold atx
      rw [if_neg (show ¬ u = 0 by omega)]
    clear h3 h4
    go_enter Tryz.func63, Tryz.ntmps63
    go_wp2_with (go_at_call 90; refine (fmt_units _ H34.out hM).mono ?_; rintro e W1 ⟨rfl, hb1⟩; obtain ⟨hc1, hf1⟩ := bcell hb1)
    go_ret
    exact ⟨by rw [← hend.out]; rfl, dn1 hb1⟩
set_option maxHeartbeats 1000000 in
theorem groupWord_is (k : Int) (s : ByteArray) (m u : Int) (A : Option Addr) (n c : Nat) (w : World) (h1 : 1 ≤ k) (hk : k ≤ (n : Int)) (hn : n ≤ 24) {r : ByteArray} (hr : Hid (mkB (wrd k n) = r)) :
    Calls Tryz.prog 64 #[xe k s m u A n c] w fun e w' => e = .returned (.string r) ∧ Below w.heap.size w w' := by
  by_cases e1 : k = (n : Int)
  · have hend : Hid (r = ⟨#[97, 108, 108]⟩) := by show _ = _; rw [← hr.out]; unfold wrd; rw [if_pos e1]; rfl
    have b1 : (k == (n : Int)) = true := by rw [beq_iff_eq]; exact e1
    clear e1
    go_enter Tryz.func64, Tryz.ntmps64
    go_wp2
    go_ret
    exact ⟨by rw [hend.out]; rfl, newB _ _⟩
  · have b1 : (k == (n : Int)) = false := by rw [beq_eq_false_iff_ne]; exact e1
    by_cases e2 : k = 1
    · have hend : Hid (r = ⟨#[97, 110, 121]⟩) := by show _ = _; rw [← hr.out]; unfold wrd; rw [if_neg e1, if_pos e2]; rfl
      have b2 : (k == 1) = true := by rw [beq_iff_eq]; exact e2
      clear e1 e2
      go_enter Tryz.func64, Tryz.ntmps64
      go_wp2
      go_ret
      exact ⟨by rw [hend.out]; rfl, newB _ _⟩
    · have b2 : (k == 1) = false := by rw [beq_eq_false_iff_ne]; exact e2
      obtain ⟨D, hD⟩ : ∃ D, Hid (mkB (dec k.toNat) = D) := ⟨_, rfl⟩
      have hDs : D.size ≤ 4 := by rw [← hD.out, mkB_size]; have := dec_len4 (n := k.toNat) (by omega); omega
      have n1 : ¬ 9223372036854775807 < D.size + 4 := by omega
      have h0 : 0 ≤ k := by omega
      have h100 : k < 100 := by omega
      have hend : Hid (D ++ ⟨#[32, 111, 102, 32]⟩ = r) := by
        show _ = _
        rw [← hr.out, ← hD.out]
        unfold wrd
        rw [if_neg e1, if_neg e2]
        apply ba_ext
        rw [ba_data, mkB_data, mkB_data]
      clear e1 e2
      go_enter Tryz.func64, Tryz.ntmps64
      go_wp2_with (go_at_call 66; refine (itoa_b k _ h0 h100 hD).mono ?_; rintro e W2 ⟨rfl, rfl⟩)
      go_ret
      exact ⟨by rw [← hend.out]; rfl, newB _ _⟩
set_option maxHeartbeats 1000000 in
theorem settingText_is (l : List UInt8) (wd : ByteArray) (n : Int) (w : World) (hV : VR w) (hwd : Hid (wd = mkB l)) (hl : l.length ≤ 12) (h0 : 0 ≤ n) (h1 : n ≤ 1000) {r : ByteArray} (hr : Hid (mkB (txS l n) = r)) :
    Calls Tryz.prog 41 #[.string wd, .int .i64 n] w fun e w' => e = .returned (.string r) ∧ Below w.heap.size w w' := by
  have HV := Lib.hid hV
  clear hV
  by_cases e1 : n = 0
  · have hend : Hid (r = ⟨#[]⟩) := by show _ = _; rw [← hr.out]; unfold txS; rw [if_pos e1]; rfl
    have b1 : (n == 0) = true := by rw [beq_iff_eq]; exact e1
    clear e1
    go_enter Tryz.func41, Tryz.ntmps41
    go_wp2
    go_ret
    exact ⟨by rw [hend.out]; rfl, Below.refl _ _⟩
  · have b1 : (n == 0) = false := by rw [beq_eq_false_iff_ne]; exact e1
    obtain ⟨D, hD⟩ : ∃ D, Hid (mkB (dec n.toNat) = D) := ⟨_, rfl⟩
    have hDs : D.size ≤ 4 := by rw [← hD.out, mkB_size]; have := dec_len4 (n := n.toNat) (by omega); omega
    have hws : wd.size ≤ 12 := by rw [hwd.out, mkB_size]; exact hl
    have n1 : ¬ 9223372036854775807 < 1 + wd.size := by omega
    have n2 : ¬ 9223372036854775807 < 1 + wd.size + 1 := by omega
    have n3 : ¬ 9223372036854775807 < 1 + wd.size + 1 + D.size := by omega
    have hend : Hid (((⟨#[32]⟩ : ByteArray) ++ wd) ++ ⟨#[32]⟩ ++ D = r) := by
      show _ = _
      rw [← hr.out, ← hD.out, hwd.out]
      unfold txS
      rw [if_neg e1]
      apply ba_ext
      rw [ba_data, ba_data, ba_data, mkB_data, mkB_data, mkB_data]
      simp
    clear e1 hl
    go_enter Tryz.func41, Tryz.ntmps41
    go_wp2_with (go_at_call 66; refine (itoa_r n _ h0 (by omega) HV.out.2 hD).mono ?_; rintro e W2 ⟨rfl, hb2⟩)
    go_ret
    exact ⟨by rw [← hend.out]; rfl, hb2⟩
end Go.Proofs.YtlokcmbkkfjlkaaGreatDoor
