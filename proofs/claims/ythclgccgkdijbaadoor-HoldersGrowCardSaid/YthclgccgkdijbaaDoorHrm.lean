/- Contracts of the program: others, sensible, Room of grants. -/
import Derived.Test.YthclgccgkdijbaaDoorHbs
namespace Go.Proofs.YthclgccgkdijbaaDoor
open Go.RowKit
set_option linter.unusedVariables false
set_option linter.unusedSimpArgs false

theorem hrd_map {W : World} {A : Option Addr} {n c p : Nat} {l : List Hd} (h : HRd W A l) (hn : l.length = n) (hc : n ≤ c) : HRd W (if c = p then A else A.map (·.add (p * 5))) (l.drop p) := by
  split
  · rename_i hcp
    rw [List.drop_of_length_le (by omega)]
    exact HRd.nil _ _
  · exact h.drop p
set_option maxHeartbeats 4000000 in
set_option maxRecDepth 20000 in
theorem others_is (A : Option Addr) (n c : Nat) (l : List Hd) (a b d : Int) (w : World) (hl : HRd w A l) (hn : Hid (l.length = n)) (hc : n ≤ c) (hm : Hid (n ≤ 900)) (ha : Hid (AscH l)) :
    Calls Tryd.prog 52 #[.slice A n c, .agg #[.int .i64 a, .int .i64 b, .int .i64 d]] w fun e w' => (∃ V, e = .returned V ∧ OwnH w' w.heap.size V (delH l (a, b, d))) ∧ Below w.heap.size w w' := by
  have HR := Lib.hid hl
  have HK0 := Lib.hid (Blk.new w [.int .i64 a, .int .i64 b, .int .i64 d] 26 rfl)
  have hm2 : Hid (n ≤ 1000) := Lib.hid (by have := hm.out; omega)
  obtain ⟨r, hr0⟩ := pos_ex ha.out (a, b, d)
  have hr := Lib.hid hr0
  have hrn : r ≤ n := by rw [← hn.out]; exact hr0.1
  clear hr0 hl
  by_cases hf : r < l.length ∧ (l.getD r default).1 = (a, b, d)
  · have hf2 : Hid ((r < l.length ∧ (l.getD r default).1 = (a, b, d)) ↔ true = true) := Lib.hid ⟨fun _ => rfl, fun _ => hf⟩
    have HE : Hid (delH l (a, b, d) = l.take r ++ l.drop (r + 1)) := Lib.hid (getD_delH ha.out hf.1 hf.2)
    have hrn2 : r < n := by rw [← hn.out]; exact hf.1
    clear hf
    have e5 : IntKind.i64.wrap ((r : Int) + 1) = (r : Int) + 1 := by have := hm.out; rw [IntKind.wrap_i64]; omega
    have hs1 := cutH_front (A := A) (n := n) (c := c) (p := r) (by omega)
    have hs2 := cutH_back (A := A) (n := n) (c := c) (p := r + 1) (by omega) hc
    obtain ⟨A2, hA2⟩ : ∃ A2, Hid ((if c = r + 1 then A else A.map (·.add ((r + 1) * 5))) = A2) := ⟨_, Lib.hid rfl⟩
    obtain ⟨q, hq⟩ : ∃ q, Hid (n - (r + 1) = q) := ⟨_, Lib.hid rfl⟩
    obtain ⟨c2, hc2⟩ : ∃ c2, Hid (c - (r + 1) = c2) := ⟨_, Lib.hid rfl⟩
    rw [hA2.out, hq.out, hc2.out] at hs2
    simp only [Int.natCast_add, Int.cast_ofNat_Int] at hs2
    have hlt1 : Hid ((l.take r).length = r) := Lib.hid (by rw [List.length_take, hn.out]; omega)
    have hlt2 : Hid ((l.drop (r + 1)).length = q) := Lib.hid (by rw [List.length_drop, hn.out]; exact hq.out)
    have hsum : Hid (r + q ≤ 1000) := Lib.hid (by have := hm.out; have := hq.out; omega)
    have HC : Hid (∀ W, Below w.heap.size w W → Calls Tryd.prog 71 #[.slice (some ⟨W.heap.size, 0, none⟩) 2 2] (W.alloc (.cells #[.slice A r c, .slice A2 q c2] 24)).drew fun e w' => (∃ V, e = .returned V ∧ OwnH w' w.heap.size V (delH l (a, b, d))) ∧ Below w.heap.size w w') := Lib.hid (fun W hW => by
      have hb3 : Below w.heap.size w (W.alloc (.cells #[.slice A r c, .slice A2 q c2] 24)).drew := nx (nxA hW _) (bdD (Below.refl _ _))
      refine (concat_h W.heap.size r q c c2 A A2 (l.take r) (l.drop (r + 1)) _ ?_ ?_ ?_ ?_ hlt1 hlt2 hsum).mono ?_
      · show (W.alloc _).cell? _ = _; simp
      · show (W.alloc _).cell? _ = _; simp
      · exact (HR.out.below hb3).take r
      · have h9 := hrd_map (p := r + 1) (HR.out.below hb3) hn.out hc
        rw [hA2.out] at h9
        exact h9
      · rintro e w' ⟨V, rfl, ho, hb⟩
        refine ⟨⟨V, rfl, ?_⟩, nx hb3 hb⟩
        rw [HE.out]
        exact ho.low hb3.size)
    go_enter Tryd.func52, Tryd.ntmps52
    go_upto_region 4 with (go_at_call 69; refine (search_is A n c l a b d _ (HR.out.below (newB _ _)) hn hm2 ha hr hf2).mono ?_; rintro e W1 ⟨rfl, hb1⟩; have HB1 := Lib.hid (dn1 hb1); clear hb1)
    go_region_held3 (fun _ => True) (trivial) (first
      | (go_at_call 71; (with_reducible refine (HC.out _ HB1.out).mono ?_); rintro e W2 ⟨⟨V2, rfl, ho2⟩, hb2⟩; have HO2 := Lib.hid ho2; have HB2 := Lib.hid hb2; clear ho2 hb2)
      | (go_at_call 71; refine (HC.out W1 HB1.out).mono ?_; rintro e W2 ⟨⟨V2, rfl, ho2⟩, hb2⟩; have HO2 := Lib.hid ho2; have HB2 := Lib.hid hb2; clear ho2 hb2))
    all_goals (
      go_wp2
      go_ret
      exact ⟨⟨_, rfl, HO2.out⟩, HB2.out⟩)
  · have hf2 : Hid ((r < l.length ∧ (l.getD r default).1 = (a, b, d)) ↔ false = true) := Lib.hid ⟨fun h => absurd h hf, fun h => by cases h⟩
    have HE : Hid (delH l (a, b, d) = l) := Lib.hid (delH_none ha.out hr.out hf)
    clear hf
    go_enter Tryd.func52, Tryd.ntmps52
    go_wp2_with (first
      | (go_at_call 69; refine (search_is A n c l a b d _ (HR.out.below (newB _ _)) hn hm2 ha hr hf2).mono ?_; rintro e W1 ⟨rfl, hb1⟩; have HB1 := Lib.hid (dn1 hb1); clear hb1)
      | (go_at_call 44; refine (clone_hold A n c l _ (HR.out.below HB1.out) hn hm2).mono ?_; rintro e W2 ⟨⟨V2, rfl, ho2⟩, hb2⟩; have HO2 := Lib.hid (ho2.low HB1.out.size); have HB2 := Lib.hid (nx HB1.out hb2); clear ho2 hb2))
    go_ret
    exact ⟨⟨_, rfl, by rw [HE.out]; exact HO2.out⟩, HB2.out⟩
theorem delH_len (l : List Hd) (p : Pr3) : (delH l p).length ≤ l.length := List.length_filter_le _ _
/-- Whether the list, the process and the amount are in order. -/
def SenH (k u : Int) (l : List Hd) (p : Pr3) (a : P2) : Prop := VH k u l ∧ vpP p = true ∧ fit k u a.1 a.2 = true
open Classical in
theorem bool_ex (p : Prop) : ∃ b : Bool, Hid (p ↔ b = true) := ⟨decide p, Lib.hid (by simp)⟩
set_option maxHeartbeats 4000000 in
set_option maxRecDepth 20000 in
theorem sensible_is (s : ByteArray) (k u hm : Int) (A : Option Addr) (n c : Nat) (l : List Hd) (a b d m v : Int) (w : World) (hV : Vars w) (hl : HRd w A l) (hn : Hid (l.length = n)) (hbig : Hid (n ≤ 1000)) {r : Bool} (hr : Hid (SenH k u l (a, b, d) (m, v) ↔ r = true)) :
    Calls Tryd.prog 51 #[ra s k u hm, .slice A n c, .agg #[.int .i64 a, .int .i64 b, .int .i64 d], .agg #[.int .i64 m, .int .i64 v]] w fun e w' => e = .returned (.bool r) ∧ Below w.heap.size w w' := by
  have HR := Lib.hid hl
  have HV := Lib.hid hV
  have HK0 := Lib.hid (Blk.new w [.string s, .int .i64 k, .int .i64 u, .int .i64 hm] 23 rfl)
  have HK1 := Lib.hid (Blk.new (w.alloc (.cells #[.string s, .int .i64 k, .int .i64 u, .int .i64 hm] 23)) [.int .i64 a, .int .i64 b, .int .i64 d] 26 (g := w.heap.size + 1) (by simp))
  have HK2 := Lib.hid (Blk.new ((w.alloc (.cells #[.string s, .int .i64 k, .int .i64 u, .int .i64 hm] 23)).alloc (.cells #[.int .i64 a, .int .i64 b, .int .i64 d] 26)) [.int .i64 m, .int .i64 v] 30 (g := w.heap.size + 1 + 1) (by simp))
  have HK0' := Lib.hid ((HK0.out.grow (.cells #[.int .i64 a, .int .i64 b, .int .i64 d] 26)).grow (.cells #[.int .i64 m, .int .i64 v] 30))
  have HK1' := Lib.hid (HK1.out.grow (.cells #[.int .i64 m, .int .i64 v] 30))
  obtain ⟨W0, hW0⟩ : ∃ W0, Hid (((w.alloc (.cells #[.string s, .int .i64 k, .int .i64 u, .int .i64 hm] 23)).alloc (.cells #[.int .i64 a, .int .i64 b, .int .i64 d] 26)).alloc (.cells #[.int .i64 m, .int .i64 v] 30) = W0) := ⟨_, rfl⟩
  have HB0 : Hid (Below w.heap.size w W0) := Lib.hid (by rw [← hW0.out]; exact nxA (nxA (newB _ _) _) _)
  rw [hW0.out] at HK0' HK1' HK2
  have HX : Hid (∀ W, Below W0.heap.size W0 W → Blk W w.heap.size [.string s, .int .i64 k, .int .i64 u, .int .i64 hm] ∧ Blk W (w.heap.size + 1) [.int .i64 a, .int .i64 b, .int .i64 d] ∧ Blk W (w.heap.size + 1 + 1) [.int .i64 m, .int .i64 v]) := Lib.hid (fun W hW => ⟨HK0'.out.up hW HK0'.out.lt, HK1'.out.up hW HK1'.out.lt, HK2.out.up hW HK2.out.lt⟩)
  have hx0 := HX.out W0 (Below.refl _ _)
  have i0 := hx0.1.cell 0 rfl
  have i1 := hx0.1.cell 1 rfl
  have i2 := hx0.1.cell 2 rfl
  have i3 := hx0.1.cell 3 rfl
  obtain ⟨b1, hb1⟩ := bool_ex (VH k u l)
  obtain ⟨b2, hb2⟩ : ∃ b2, Hid (vpB a b d = b2) := ⟨_, Lib.hid rfl⟩
  obtain ⟨b3, hb3⟩ : ∃ b3, Hid (fit k u m v = b3) := ⟨_, Lib.hid rfl⟩
  have hrr : Hid (r = (b1 && b2 && b3)) := Lib.hid (by
    have h1 := hr.out
    unfold SenH vpP at h1
    rw [hb1.out] at h1
    simp only [hb2.out, hb3.out] at h1
    cases b1 <;> cases b2 <;> cases b3 <;> simp at h1 ⊢ <;> first | exact h1 | (cases r <;> simp_all))
  clear HK0 HK1 HK0' HK1' HK2 hl hV hx0 hr
  have HARM : Hid (∀ W, Below W0.heap.size W0 W → HRd W A l ∧ Vars W) := Lib.hid (fun W hW => ⟨HR.out.below (nx HB0.out hW), HV.out.below (nx HB0.out hW)⟩)
  cases b1 with
  | false =>
    go_enter Tryd.func51, Tryd.ntmps51
    go_upto_region 1 with fail
    rw [hW0.out]
    go_wp2_with (first
      | (go_at_call 12; refine (hvalid_is s k u hm A n c l _ (HARM.out _ (Below.refl _ _)).2 (HARM.out _ (Below.refl _ _)).1 hn hbig hb1).mono ?_; rintro e W1 ⟨rfl, hbb1⟩; have HB1 := Lib.hid hbb1; clear hbb1))
    go_ret
    exact ⟨ret_bool (by rw [hrr.out]; rfl), nx HB0.out HB1.out⟩
  | true =>
    cases b2 with
    | false =>
      go_enter Tryd.func51, Tryd.ntmps51
      go_upto_region 1 with fail
      rw [hW0.out]
      go_wp2_with (first
        | (go_at_call 12; refine (hvalid_is s k u hm A n c l _ (HARM.out _ (Below.refl _ _)).2 (HARM.out _ (Below.refl _ _)).1 hn hbig hb1).mono ?_; rintro e W1 ⟨rfl, hbb1⟩; have HB1 := Lib.hid hbb1; have hx1 := HX.out _ hbb1; have p0 := hx1.2.1.cell 0 rfl; have p1 := hx1.2.1.cell 1 rfl; have p2 := hx1.2.1.cell 2 rfl; clear hbb1 hx1)
        | (go_at_call 32; refine (valid_b a b d _ hb2).mono ?_; rintro e W2 ⟨rfl, hbb2⟩; have HB2 := Lib.hid (nx HB1.out hbb2); clear hbb2))
      go_ret
      exact ⟨ret_bool (by rw [hrr.out]; rfl), nx HB0.out HB2.out⟩
    | true =>
      go_enter Tryd.func51, Tryd.ntmps51
      go_upto_region 1 with fail
      rw [hW0.out]
      go_wp2_with (first
        | (go_at_call 12; refine (hvalid_is s k u hm A n c l _ (HARM.out _ (Below.refl _ _)).2 (HARM.out _ (Below.refl _ _)).1 hn hbig hb1).mono ?_; rintro e W1 ⟨rfl, hbb1⟩; have HB1 := Lib.hid hbb1; have hx1 := HX.out _ hbb1; have p0 := hx1.2.1.cell 0 rfl; have p1 := hx1.2.1.cell 1 rfl; have p2 := hx1.2.1.cell 2 rfl; clear hbb1 hx1)
        | (go_at_call 32; refine (valid_b a b d _ hb2).mono ?_; rintro e W2 ⟨rfl, hbb2⟩; have HB2 := Lib.hid (nx HB1.out hbb2); have hx2 := HX.out _ HB2.out; have q0 := hx2.1.cell 0 rfl; have q1 := hx2.1.cell 1 rfl; have q2 := hx2.1.cell 2 rfl; have q3 := hx2.1.cell 3 rfl; have q4 := hx2.2.2.cell 0 rfl; have q5 := hx2.2.2.cell 1 rfl; clear hbb2 hx2)
        | (go_at_call 33; refine (fits_is s k u hm m v _ hb3).mono ?_; rintro e W3 ⟨rfl, hbb3⟩; have HB3 := Lib.hid (nx HB2.out hbb3); clear hbb3))
      go_ret
      exact ⟨ret_bool (by rw [hrr.out]; rfl), nx HB0.out HB3.out⟩
theorem room_sen {k u : Int} {l : List Hd} {p : Pr3} {a : P2} : RoomH k u l p a ↔ SenH k u l p a ∧ (delH l p).length ≤ 7 ∧ Cmp k u (amtH (delH l p) ++ [a]) := by
  have hp : List.Perm (a :: amtH (delH l p)) (amtH (delH l p) ++ [a]) := (List.perm_append_singleton _ _).symm
  constructor
  · rintro ⟨h1, h2, h3, h4⟩
    have h5 := VH.set_inv h3 h4
    exact ⟨⟨h1, h2, h3⟩, h5.1, h5.2.perm hp⟩
  · rintro ⟨⟨h1, h2, h3⟩, h4, h5⟩
    exact ⟨h1, h2, h3, h1.set h2 h3 h4 (h5.perm hp.symm)⟩
set_option maxHeartbeats 8000000 in
set_option maxRecDepth 20000 in
theorem hroom_is (s : ByteArray) (k u hm : Int) (A : Option Addr) (n c : Nat) (l : List Hd) (a b d m v : Int) (w : World) (hV : Vars w) (hl : HRd w A l) (hn : Hid (l.length = n)) (hnc : n ≤ c) (hbig : Hid (n ≤ 900)) {r : Bool} (hr : Hid (RoomH k u l (a, b, d) (m, v) ↔ r = true)) :
    Calls Tryd.prog 28 #[ra s k u hm, .slice A n c, .agg #[.int .i64 a, .int .i64 b, .int .i64 d], .agg #[.int .i64 m, .int .i64 v]] w fun e w' => e = .returned (.bool r) ∧ Below w.heap.size w w' := by
  have HR := Lib.hid hl
  have HV := Lib.hid hV
  have hbig2 : Hid (n ≤ 1000) := Lib.hid (by have := hbig.out; omega)
  have HK0 := Lib.hid (Blk.new w [.string s, .int .i64 k, .int .i64 u, .int .i64 hm] 23 rfl)
  have HK1 := Lib.hid (Blk.new (w.alloc (.cells #[.string s, .int .i64 k, .int .i64 u, .int .i64 hm] 23)) [.int .i64 a, .int .i64 b, .int .i64 d] 26 (g := w.heap.size + 1) (by simp))
  have HK2 := Lib.hid (Blk.new ((w.alloc (.cells #[.string s, .int .i64 k, .int .i64 u, .int .i64 hm] 23)).alloc (.cells #[.int .i64 a, .int .i64 b, .int .i64 d] 26)) [.int .i64 m, .int .i64 v] 30 (g := w.heap.size + 1 + 1) (by simp))
  have HK0' := Lib.hid ((HK0.out.grow (.cells #[.int .i64 a, .int .i64 b, .int .i64 d] 26)).grow (.cells #[.int .i64 m, .int .i64 v] 30))
  have HK1' := Lib.hid (HK1.out.grow (.cells #[.int .i64 m, .int .i64 v] 30))
  obtain ⟨W0, hW0⟩ : ∃ W0, Hid (((w.alloc (.cells #[.string s, .int .i64 k, .int .i64 u, .int .i64 hm] 23)).alloc (.cells #[.int .i64 a, .int .i64 b, .int .i64 d] 26)).alloc (.cells #[.int .i64 m, .int .i64 v] 30) = W0) := ⟨_, rfl⟩
  have HB0 : Hid (Below w.heap.size w W0) := Lib.hid (by rw [← hW0.out]; exact nxA (nxA (newB _ _) _) _)
  rw [hW0.out] at HK0' HK1' HK2
  have HX : Hid (∀ W, Below W0.heap.size W0 W → Blk W w.heap.size [.string s, .int .i64 k, .int .i64 u, .int .i64 hm] ∧ Blk W (w.heap.size + 1) [.int .i64 a, .int .i64 b, .int .i64 d] ∧ Blk W (w.heap.size + 1 + 1) [.int .i64 m, .int .i64 v]) := Lib.hid (fun W hW => ⟨HK0'.out.up hW HK0'.out.lt, HK1'.out.up hW HK1'.out.lt, HK2.out.up hW HK2.out.lt⟩)
  have HXS : Hid (∀ W, Below W0.heap.size W0 W → RS4 W w.heap.size s k u hm ∧ (W.cell? ⟨w.heap.size + 1 + 1, 0, none⟩ = some (.int .i64 m) ∧ W.cell? ⟨w.heap.size + 1 + 1, 1, none⟩ = some (.int .i64 v))) := Lib.hid (fun W hW => ⟨RS4.of (HX.out W hW).1, (HX.out W hW).2.2.cell 0 rfl, (HX.out W hW).2.2.cell 1 rfl⟩)
  have hx0 := HX.out W0 (Below.refl _ _)
  have i0 := hx0.1.cell 0 rfl
  have i1 := hx0.1.cell 1 rfl
  have i2 := hx0.1.cell 2 rfl
  have i3 := hx0.1.cell 3 rfl
  have i4 := hx0.2.1.cell 0 rfl
  have i5 := hx0.2.1.cell 1 rfl
  have i6 := hx0.2.1.cell 2 rfl
  have i7 := hx0.2.2.cell 0 rfl
  have i8 := hx0.2.2.cell 1 rfl
  clear HK0 HK1 HK0' HK1' HK2 hl hV hx0
  have HARM : Hid (∀ W, Below W0.heap.size W0 W → HRd W A l ∧ Vars W) := Lib.hid (fun W hW => ⟨HR.out.below (nx HB0.out hW), HV.out.below (nx HB0.out hW)⟩)
  obtain ⟨b1, hb1⟩ := bool_ex (SenH k u l (a, b, d) (m, v))
  cases b1 with
  | false =>
    have hend : Hid (r = false) := iffNo hr.out (fun h => by have := hb1.out.1 (room_sen.1 h).1; cases this)
    clear hr
    go_enter Tryd.func28, Tryd.ntmps28
    go_upto_region 1 with fail
    rw [hW0.out]
    go_wp2_with (first
      | (go_at_call 51; refine (sensible_is s k u hm A n c l a b d m v _ (HARM.out _ (Below.refl _ _)).2 (HARM.out _ (Below.refl _ _)).1 hn hbig2 hb1).mono ?_; rintro e W1 ⟨rfl, hbb1⟩; have HB1 := Lib.hid hbb1; clear hbb1))
    go_ret
    exact ⟨ret_bool hend.out.symm, nx HB0.out HB1.out⟩
  | true =>
    have hsen := hb1.out.2 rfl
    have ha : Hid (AscH l) := Lib.hid hsen.1.2.2.2.1
    have hmix : Tryd.prog.follows .mixedOrders = true := by kernel_rfl
    obtain ⟨l2, hl2⟩ : ∃ l2, Hid (delH l (a, b, d) = l2) := ⟨_, Lib.hid rfl⟩
    obtain ⟨n2, hn2⟩ : ∃ n2, Hid (l2.length = n2) := ⟨_, Lib.hid rfl⟩
    obtain ⟨am, ham⟩ : ∃ am, Hid (amtH l2 = am) := ⟨_, Lib.hid rfl⟩
    have hal : Hid (am.length = n2) := Lib.hid (by rw [← ham.out, amtH, List.length_map]; exact hn2.out)
    have hn2n : Hid (n2 ≤ 900) := Lib.hid (by
      have h1 := delH_len l (a, b, d)
      rw [hl2.out, hn2.out, hn.out] at h1
      have := hbig.out
      omega)
    have hn22 : Hid (n2 ≤ 1000) := Lib.hid (by have := hn2n.out; omega)
    have hrr : Hid ((n2 ≤ 7 ∧ Cmp k u (am ++ [(m, v)])) ↔ r = true) := Lib.hid (by
      rw [← hr.out, room_sen, hl2.out, ham.out, hn2.out]
      exact ⟨fun h => ⟨hsen, h⟩, fun h => h.2⟩)
    clear hr hsen
    go_enter Tryd.func28, Tryd.ntmps28
    go_upto_region 1 with fail
    rw [hW0.out]
    go_upto_region 4 with (first
      | (go_at_call 51; refine (sensible_is s k u hm A n c l a b d m v _ (HARM.out _ (Below.refl _ _)).2 (HARM.out _ (Below.refl _ _)).1 hn hbig2 hb1).mono ?_; rintro e W1 ⟨rfl, hbb1⟩; have HB1 := Lib.hid hbb1; have hx1 := HX.out _ hbb1; have j4 := hx1.2.1.cell 0 rfl; have j5 := hx1.2.1.cell 1 rfl; have j6 := hx1.2.1.cell 2 rfl; clear hbb1 hx1)
      | (go_at_call 52; refine (others_is A n c l a b d _ (HARM.out _ HB1.out).1 hn hnc hbig ha).mono ?_; rintro e W2 ⟨⟨V2, rfl, ho2⟩, hbb2⟩; rw [hl2.out] at ho2; obtain ⟨A2, c2, hv2, -, hrd2, -⟩ := ho2.form; rw [hn2.out] at hv2; subst hv2; have HRD2 := Lib.hid hrd2; have HB2 := Lib.hid (nx HB1.out hbb2); clear hbb2 ho2 hrd2))
    by_cases h8 : (n2 : Int) < 8
    · have hr3 : Hid (Cmp k u (am ++ [(m, v)]) ↔ r = true) := Lib.hid (by
        rw [← hrr.out]
        exact ⟨fun h => ⟨by omega, h⟩, fun h => h.2⟩)
      go_region_held3 (fun W => RS4 W w.heap.size s k u hm ∧ (W.cell? ⟨w.heap.size + 1 + 1, 0, none⟩ = some (.int .i64 m) ∧ W.cell? ⟨w.heap.size + 1 + 1, 1, none⟩ = some (.int .i64 v)))
        (first
          | exact HXS.out _ (nx HB2.out (bdD (Below.refl _ _)))
          | exact HXS.out _ HB3.out
          | exact HXS.out _ HB4.out)
        (first
          | (go_at_call 36; (with_reducible refine (hamounts_is A2 n2 c2 l2 _ (HRD2.out.below (bdD (Below.refl _ _))) hn2 hn22 ham).mono ?_); rintro e W3 ⟨⟨g3, rfl, ha3⟩, hbb3⟩; have HA3 := Lib.hid ha3; have HB3 : Hid (Below W0.heap.size W0 W3) := Lib.hid (nx HB2.out (nx (bdD (Below.refl _ _)) hbb3)); clear hbb3 ha3)
          | (go_at_call 53; (with_reducible refine (room_is s k u hm (some ⟨g3, 0, none⟩) n2 n2 am m v _ (HARM.out _ HB3.out).2 HA3.out hal hn2n hr3).mono ?_); rintro e W4 ⟨rfl, hbb4⟩; have HB4 := Lib.hid (nx HB3.out hbb4); clear hbb4))
      all_goals (
        go_wp2
        go_ret
        exact ⟨rfl, nx HB0.out HB4.out⟩)
    · have hend : Hid (r = false) := iffNo hrr.out (fun h => by omega)
      clear hrr
      go_quiet (fail)
      go_wp2
      go_ret
      exact ⟨ret_bool hend.out.symm, nx HB0.out (bdN HB2.out _)⟩
end Go.Proofs.YthclgccgkdijbaaDoor
