/- Contracts: Insert, Remove, Resolve of the program. -/
import Derived.Test.YtmfdafffafbmpaaDoorCcut
import Derived.Deep.RegionHeld3
namespace Go.Proofs.YtmfdafffafbmpaaDoor
open Go.RowKit
open Go.Sort (grow)
set_option linter.unusedVariables false
set_option linter.unusedSimpArgs false

theorem yes_of {p : Prop} (h : p) : p ↔ true = true := ⟨fun _ => rfl, fun _ => h⟩
theorem no_of {p : Prop} (h : ¬ p) : p ↔ false = true := ⟨fun k => absurd k h, fun k => by cases k⟩
theorem vcat_yes (A : Option Addr) (n c : Nat) (l : List P4) (w : World) (hl : RRd w A l) (hn : Hid (l.length = n)) (hr : Hid (Vcat l)) : Calls Tryd.prog 20 #[.slice A n c] w fun e w' => e = .returned (.bool true) ∧ Gro w w' := vcat_is A n c l w hl hn (yes_of hr.out)
theorem vcat_no (A : Option Addr) (n c : Nat) (l : List P4) (w : World) (hl : RRd w A l) (hn : Hid (l.length = n)) (hr : Hid (¬ Vcat l)) : Calls Tryd.prog 20 #[.slice A n c] w fun e w' => e = .returned (.bool false) ∧ Gro w w' := vcat_is A n c l w hl hn (no_of hr.out)
theorem refVcat_yes (A : Option Addr) (n c : Nat) (l : List P4) (w : World) (hl : RRd w A l) (hn : Hid (l.length = n)) (hr : Hid (Vcat l)) : Calls Tryd.prog 21 #[.slice A n c] w fun e w' => e = .returned (.bool true) ∧ Gro w w' := refVcat_is A n c l w hl hn (yes_of hr.out)
theorem refVcat_no (A : Option Addr) (n c : Nat) (l : List P4) (w : World) (hl : RRd w A l) (hn : Hid (l.length = n)) (hr : Hid (¬ Vcat l)) : Calls Tryd.prog 21 #[.slice A n c] w fun e w' => e = .returned (.bool false) ∧ Gro w w' := refVcat_is A n c l w hl hn (no_of hr.out)
theorem nam_yes (s : ByteArray) (w : World) (hr : Hid (Nam s)) : Calls Tryd.prog 16 #[.string s] w fun e w' => e = .returned (.bool true) ∧ w = w' := nam_is s w (yes_of hr.out)
theorem nam_no (s : ByteArray) (w : World) (hr : Hid (¬ Nam s)) : Calls Tryd.prog 16 #[.string s] w fun e w' => e = .returned (.bool false) ∧ w = w' := nam_is s w (no_of hr.out)
theorem refNam_yes (s : ByteArray) (w : World) (hr : Hid (Nam s)) : Calls Tryd.prog 17 #[.string s] w fun e w' => e = .returned (.bool true) ∧ w = w' := refNam_is s w (yes_of hr.out)
theorem refNam_no (s : ByteArray) (w : World) (hr : Hid (¬ Nam s)) : Calls Tryd.prog 17 #[.string s] w fun e w' => e = .returned (.bool false) ∧ w = w' := refNam_is s w (no_of hr.out)
theorem rsr_yes (s : ByteArray) (k u h : Int) (w : World) (hr : Hid (Rsr s k u h)) : Calls Tryd.prog 18 #[ra s k u h] w fun e w' => e = .returned (.bool true) ∧ Gro w w' := rsr_is s k u h w (yes_of hr.out)
theorem rsr_no (s : ByteArray) (k u h : Int) (w : World) (hr : Hid (¬ Rsr s k u h)) : Calls Tryd.prog 18 #[ra s k u h] w fun e w' => e = .returned (.bool false) ∧ Gro w w' := rsr_is s k u h w (no_of hr.out)
theorem refRsr_yes (s : ByteArray) (k u h : Int) (w : World) (hr : Hid (Rsr s k u h)) : Calls Tryd.prog 19 #[ra s k u h] w fun e w' => e = .returned (.bool true) ∧ Gro w w' := refRsr_is s k u h w (yes_of hr.out)
theorem refRsr_no (s : ByteArray) (k u h : Int) (w : World) (hr : Hid (¬ Rsr s k u h)) : Calls Tryd.prog 19 #[ra s k u h] w fun e w' => e = .returned (.bool false) ∧ Gro w w' := refRsr_is s k u h w (no_of hr.out)
theorem place_yes (A : Option Addr) (n c : Nat) (l : List P4) (nm : ByteArray) (w : World) (hl : InR w A n c l) (h8 : n ≤ 8) (ha : Hid (Asc l)) {p : Nat} (hp : Hid (Plc l nm p)) (hb : Hid (∃ i, At4 l nm i)) :
    Calls Tryd.prog 43 #[.slice A n c, .string nm] w fun e w' => e = .returned (.tuple #[.int .i64 p, .bool true]) ∧ Below w.heap.size w w' := place_is A n c l nm w hl h8 ha hp (yes_of hb.out)
theorem place_no (A : Option Addr) (n c : Nat) (l : List P4) (nm : ByteArray) (w : World) (hl : InR w A n c l) (h8 : n ≤ 8) (ha : Hid (Asc l)) {p : Nat} (hp : Hid (Plc l nm p)) (hb : Hid (¬ ∃ i, At4 l nm i)) :
    Calls Tryd.prog 43 #[.slice A n c, .string nm] w fun e w' => e = .returned (.tuple #[.int .i64 p, .bool false]) ∧ Below w.heap.size w w' := place_is A n c l nm w hl h8 ha hp (no_of hb.out)
theorem InR.none (w : World) : InR w none 0 0 [] := ⟨rfl, RRd.nil _ _, Nat.le_refl _, by omega⟩
/-- The box of a resource. -/
abbrev BX (w : World) (s : ByteArray) (k u h : Int) : World := w.alloc (.cells #[.string s, .int .i64 k, .int .i64 u, .int .i64 h] 26)
abbrev S4 (W : World) (g : Nat) (s : ByteArray) (k u h : Int) : Prop := W.cell? ⟨g, 0, none⟩ = some (.string s) ∧ W.cell? ⟨g, 1, none⟩ = some (.int .i64 k) ∧ W.cell? ⟨g, 2, none⟩ = some (.int .i64 u) ∧ W.cell? ⟨g, 3, none⟩ = some (.int .i64 h)
theorem S4.of {w W : World} {g : Nat} {s : ByteArray} {k u h : Int} (hb : Below w.heap.size w W) (hg : g < w.heap.size) (hc : S4 w g s k u h) : S4 W g s k u h :=
  ⟨(hb.cell (p := ⟨g, 0, none⟩) hg).trans hc.1, (hb.cell (p := ⟨g, 1, none⟩) hg).trans hc.2.1, (hb.cell (p := ⟨g, 2, none⟩) hg).trans hc.2.2.1, (hb.cell (p := ⟨g, 3, none⟩) hg).trans hc.2.2.2⟩
theorem S4.new (w : World) (s : ByteArray) (k u h : Int) : S4 (BX w s k u h) w.heap.size s k u h := ⟨by simp [BX], by simp [BX], by simp [BX], by simp [BX]⟩

/-- Concat of what lies before the place, the resource, and what lies behind it. -/
abbrev TI (W : World) (A : Option Addr) (p c : Nat) (s : ByteArray) (k u h : Int) (A2 : Option Addr) (q c2 : Nat) : World :=
  (BX W s k u h).alloc (.cells #[.slice A p c, .slice (some ⟨W.heap.size, 0, none⟩) 1 1, .slice A2 q c2] 24)
theorem concat_put (W : World) (A : Option Addr) (n c : Nat) (l : List P4) (hl : InR W A n c l) (h8 : n ≤ 8) (s : ByteArray) (k u h : Int) (p : Nat) (hp : p ≤ n) (A2 : Option Addr) (c2 : Nat) (h2 : RRd W A2 (l.drop p)) :
    Calls Tryd.prog 44 #[.slice (some ⟨W.heap.size + 1, 0, none⟩) 3 3] (TI W A p c s k u h A2 (n - p) c2).drew fun e w' => ∃ A' c', e = .returned (.slice A' (n + 1) c') ∧ InR w' A' (n + 1) c' (putL l p (s, k, u, h)) ∧ Below W.heap.size W w' := by
  have hn := hl.len
  have hT : Below W.heap.size W (TI W A p c s k u h A2 (n - p) c2).drew := bdD (nxA (newB W _) _)
  have hlen := putL_length l (s, k, u, h) (show p ≤ l.length by omega)
  refine (concat_is (W.heap.size + 1) 3 [(A, c, l.take p), (some ⟨W.heap.size, 0, none⟩, 1, [(s, k, u, h)]), (A2, c2, l.drop p)] _ ?_ rfl (by omega) ?_).mono ?_
  · intro i hi
    have hc : i = 0 ∨ i = 1 ∨ i = 2 := by simp at hi; omega
    rcases hc with rfl | rfl | rfl
    · refine ⟨?_, (hl.rd.below hT).take p⟩
      show (TI W A p c s k u h A2 (n - p) c2).cell? _ = some (.slice A (l.take p).length c)
      rw [show (l.take p).length = p by rw [List.length_take]; omega]
      simp [TI, BX]
    · refine ⟨?_, (rrd_new W _ s k u h).below (bdD (newB _ _))⟩
      show (TI W A p c s k u h A2 (n - p) c2).cell? _ = _
      simp [TI, BX]
    · refine ⟨?_, h2.below hT⟩
      show (TI W A p c s k u h A2 (n - p) c2).cell? _ = some (.slice A2 (l.drop p).length c2)
      rw [show (l.drop p).length = n - p by rw [List.length_drop]; omega]
      simp [TI, BX]
  · show _ ≤ _
    simp only [lsum, List.length_take, List.length_drop, List.length_singleton]
    omega
  · rintro e w' ⟨V, rfl, ho, hb⟩
    have e1 : lcat [(A, c, l.take p), (some ⟨W.heap.size, 0, none⟩, 1, [(s, k, u, h)]), (A2, c2, l.drop p)] = putL l p (s, k, u, h) := by simp [lcat, putL]
    rw [e1] at ho
    obtain ⟨A', c', rfl, hi⟩ := ho.inR (by omega)
    rw [hlen, hn] at hi
    exact ⟨A', c', by rw [hlen, hn], hi, nx hT hb⟩
theorem concat_cut (W : World) (A : Option Addr) (n c : Nat) (l : List P4) (hl : InR W A n c l) (h8 : n ≤ 8) (p : Nat) (hp : p < n) (A2 : Option Addr) (c2 : Nat) (h2 : RRd W A2 (l.drop (p + 1))) :
    Calls Tryd.prog 44 #[.slice (some ⟨W.heap.size, 0, none⟩) 2 2] (W.alloc (.cells #[.slice A p c, .slice A2 (n - (p + 1)) c2] 24)).drew fun e w' => ∃ A' c', e = .returned (.slice A' (n - 1) c') ∧ InR w' A' (n - 1) c' (cutL l p) ∧ Below W.heap.size W w' := by
  have hn := hl.len
  have hT : Below W.heap.size W (W.alloc (.cells #[.slice A p c, .slice A2 (n - (p + 1)) c2] 24)).drew := bdD (newB W _)
  have hlen : (cutL l p).length = n - 1 := by have := cutL_length l (show p < l.length by omega); omega
  refine (concat_is W.heap.size 2 [(A, c, l.take p), (A2, c2, l.drop (p + 1))] _ ?_ rfl (by omega) ?_).mono ?_
  · intro i hi
    have hc : i = 0 ∨ i = 1 := by simp at hi; omega
    rcases hc with rfl | rfl
    · refine ⟨?_, (hl.rd.below hT).take p⟩
      show (W.alloc (.cells #[.slice A p c, .slice A2 (n - (p + 1)) c2] 24)).cell? _ = some (.slice A (l.take p).length c)
      rw [show (l.take p).length = p by rw [List.length_take]; omega]
      simp
    · refine ⟨?_, h2.below hT⟩
      show (W.alloc (.cells #[.slice A p c, .slice A2 (n - (p + 1)) c2] 24)).cell? _ = some (.slice A2 (l.drop (p + 1)).length c2)
      rw [show (l.drop (p + 1)).length = n - (p + 1) by rw [List.length_drop]; omega]
      simp
  · show _ ≤ _
    simp only [lsum, List.length_take, List.length_drop]
    omega
  · rintro e w' ⟨V, rfl, ho, hb⟩
    have e1 : lcat [(A, c, l.take p), (A2, c2, l.drop (p + 1))] = cutL l p := by simp [lcat, cutL]
    rw [e1] at ho
    obtain ⟨A', c', rfl, hi⟩ := ho.inR (by omega)
    rw [hlen] at hi
    exact ⟨A', c', by rw [hlen], hi, nx hT hb⟩
theorem plc_of {l : List P4} (h : Vcat l) (s : ByteArray) : ∃ p, Hid (Plc l s p) := plc_ex h.asc s
theorem fnd_b (l : List P4) (s : ByteArray) : ∃ b, Hid ((∃ i, At4 l s i) ↔ b = true) := by
  by_cases h : ∃ i, At4 l s i
  · exact ⟨true, fun _ => rfl, fun _ => h⟩
  · exact ⟨false, fun k => absurd k h, fun k => by cases k⟩
set_option maxHeartbeats 4000000 in
set_option maxRecDepth 8000 in
theorem insert_bad (A : Option Addr) (n c : Nat) (l : List P4) (s : ByteArray) (k u h : Int) (w : World) (hl : InR w A n c l) (hv : Hid (¬ Vcat l)) :
    Calls Tryd.prog 22 #[.slice A n c, ra s k u h] w fun e' w' => e' = .returned (.tuple #[.slice none 0 0, .int .i64 2]) ∧ Below w.heap.size w w' := by
  have HI := Lib.hid hl
  have hn : Hid (l.length = n) := hl.len
  clear hl
  go_enter Tryd.func22, Tryd.ntmps22
  go_wp2_with (first
    | (go_at_call 20; refine (vcat_no _ _ _ _ _ (HI.out.rd.below (newB _ _)) hn hv).mono ?_; rintro e W1 ⟨rfl, hg1⟩; have hb1 := hg1.below; clear hg1; obtain ⟨hc1, hf1⟩ := bcell hb1))
  exact bodyPost_ret (v := .tuple #[.slice none 0 0, .int .i64 2]) (by simp [results, Tryd.results22, go_sem]) rfl ⟨rfl, dn1 hb1⟩
set_option maxHeartbeats 4000000 in
set_option maxRecDepth 8000 in
theorem insert_name (A : Option Addr) (n c : Nat) (l : List P4) (s : ByteArray) (k u h : Int) (w : World) (hl : InR w A n c l) (hvc : Vcat l) (hnm : Hid (¬ Nam s)) :
    Calls Tryd.prog 22 #[.slice A n c, ra s k u h] w fun e' w' => e' = .returned (.tuple #[.slice none 0 0, .int .i64 9]) ∧ Below w.heap.size w w' := by
  have HI := Lib.hid hl
  have hn : Hid (l.length = n) := hl.len
  have hv : Hid (Vcat l) := hvc
  have h8 : n ≤ 8 := by have := hvc.1; have := hl.len; omega
  have ha : Hid (Asc l) := hvc.asc
  obtain ⟨p, hp⟩ := plc_of hvc s
  obtain ⟨b, hb⟩ := fnd_b l s
  clear hl hvc
  go_enter Tryd.func22, Tryd.ntmps22
  go_wp2_with (first
    | (go_at_call 20; refine (vcat_yes _ _ _ _ _ (HI.out.rd.below (newB _ _)) hn hv).mono ?_; rintro e W1 ⟨rfl, hg1⟩; have hb1 := hg1.below; clear hg1; obtain ⟨hc1, hf1⟩ := bcell hb1)
    | (go_at_call 43; refine (place_is _ _ _ _ _ _ (HI.out.below (dn1 hb1)) h8 ha hp hb).mono ?_; rintro e W2 ⟨rfl, hb2⟩; have hb2 := nx hb1 hb2; obtain ⟨hc2, hf2⟩ := bcell hb2)
    | (go_at_call 16; refine (nam_no _ _ hnm).mono ?_; rintro e W3 ⟨rfl, rfl⟩))
  exact bodyPost_ret (v := .tuple #[.slice none 0 0, .int .i64 9]) (by simp [results, Tryd.results22, go_sem]) rfl ⟨rfl, dn1 hb2⟩
set_option maxHeartbeats 4000000 in
set_option maxRecDepth 8000 in
theorem insert_arg (A : Option Addr) (n c : Nat) (l : List P4) (s : ByteArray) (k u h : Int) (w : World) (hl : InR w A n c l) (hvc : Vcat l) (hnm : Hid (Nam s)) (hrs : Hid (¬ Rsr s k u h)) :
    Calls Tryd.prog 22 #[.slice A n c, ra s k u h] w fun e' w' => e' = .returned (.tuple #[.slice none 0 0, .int .i64 1]) ∧ Below w.heap.size w w' := by
  have HI := Lib.hid hl
  have hn : Hid (l.length = n) := hl.len
  have hv : Hid (Vcat l) := hvc
  have h8 : n ≤ 8 := by have := hvc.1; have := hl.len; omega
  have ha : Hid (Asc l) := hvc.asc
  obtain ⟨p, hp⟩ := plc_of hvc s
  obtain ⟨b, hb⟩ := fnd_b l s
  clear hl hvc
  go_enter Tryd.func22, Tryd.ntmps22
  go_wp2_with (first
    | (go_at_call 20; refine (vcat_yes _ _ _ _ _ (HI.out.rd.below (newB _ _)) hn hv).mono ?_; rintro e W1 ⟨rfl, hg1⟩; have hb1 := hg1.below; clear hg1; obtain ⟨hc1, hf1⟩ := bcell hb1)
    | (go_at_call 43; refine (place_is _ _ _ _ _ _ (HI.out.below (dn1 hb1)) h8 ha hp hb).mono ?_; rintro e W2 ⟨rfl, hb2⟩; have hb2 := nx hb1 hb2; obtain ⟨hc2, hf2⟩ := bcell hb2)
    | (go_at_call 16; refine (nam_yes _ _ hnm).mono ?_; rintro e W3 ⟨rfl, rfl⟩)
    | (go_at_call 18; refine (rsr_no _ _ _ _ _ hrs).mono ?_; rintro e W4 ⟨rfl, hg4⟩; have hb4 := nx hb2 hg4.below; clear hg4; obtain ⟨hc4, hf4⟩ := bcell hb4))
  exact bodyPost_ret (v := .tuple #[.slice none 0 0, .int .i64 1]) (by simp [results, Tryd.results22, go_sem]) rfl ⟨rfl, dn1 hb4⟩
set_option maxHeartbeats 4000000 in
set_option maxRecDepth 8000 in
theorem insert_old (A : Option Addr) (n c : Nat) (l : List P4) (s : ByteArray) (k u h : Int) (w : World) (hl : InR w A n c l) (hvc : Vcat l) (hnm : Hid (Nam s)) (hrs : Hid (Rsr s k u h)) (hb : Hid (∃ i, At4 l s i)) :
    Calls Tryd.prog 22 #[.slice A n c, ra s k u h] w fun e' w' => e' = .returned (.tuple #[.slice none 0 0, .int .i64 11]) ∧ Below w.heap.size w w' := by
  have HI := Lib.hid hl
  have hn : Hid (l.length = n) := hl.len
  have hv : Hid (Vcat l) := hvc
  have h8 : n ≤ 8 := by have := hvc.1; have := hl.len; omega
  have ha : Hid (Asc l) := hvc.asc
  obtain ⟨p, hp⟩ := plc_of hvc s
  clear hl hvc
  go_enter Tryd.func22, Tryd.ntmps22
  go_wp2_with (first
    | (go_at_call 20; refine (vcat_yes _ _ _ _ _ (HI.out.rd.below (newB _ _)) hn hv).mono ?_; rintro e W1 ⟨rfl, hg1⟩; have hb1 := hg1.below; clear hg1; obtain ⟨hc1, hf1⟩ := bcell hb1)
    | (go_at_call 43; refine (place_yes _ _ _ _ _ _ (HI.out.below (dn1 hb1)) h8 ha hp hb).mono ?_; rintro e W2 ⟨rfl, hb2⟩; have hb2 := nx hb1 hb2; obtain ⟨hc2, hf2⟩ := bcell hb2)
    | (go_at_call 16; refine (nam_yes _ _ hnm).mono ?_; rintro e W3 ⟨rfl, rfl⟩)
    | (go_at_call 18; refine (rsr_yes _ _ _ _ _ hrs).mono ?_; rintro e W4 ⟨rfl, hg4⟩; have hb4 := nx hb2 hg4.below; clear hg4; obtain ⟨hc4, hf4⟩ := bcell hb4))
  exact bodyPost_ret (v := .tuple #[.slice none 0 0, .int .i64 11]) (by simp [results, Tryd.results22, go_sem]) rfl ⟨rfl, dn1 hb4⟩
set_option maxHeartbeats 4000000 in
set_option maxRecDepth 8000 in
theorem insert_many (A : Option Addr) (n c : Nat) (l : List P4) (s : ByteArray) (k u h : Int) (w : World) (hl : InR w A n c l) (hvc : Vcat l) (hnm : Hid (Nam s)) (hrs : Hid (Rsr s k u h)) (hb : Hid (¬ ∃ i, At4 l s i)) (hfull : (n : Int) = 8) :
    Calls Tryd.prog 22 #[.slice A n c, ra s k u h] w fun e' w' => e' = .returned (.tuple #[.slice none 0 0, .int .i64 4]) ∧ Below w.heap.size w w' := by
  have HI := Lib.hid hl
  have hn : Hid (l.length = n) := hl.len
  have hv : Hid (Vcat l) := hvc
  have h8 : n ≤ 8 := by have := hvc.1; have := hl.len; omega
  have ha : Hid (Asc l) := hvc.asc
  obtain ⟨p, hp⟩ := plc_of hvc s
  clear hl hvc
  go_enter Tryd.func22, Tryd.ntmps22
  go_wp2_with (first
    | (go_at_call 20; refine (vcat_yes _ _ _ _ _ (HI.out.rd.below (newB _ _)) hn hv).mono ?_; rintro e W1 ⟨rfl, hg1⟩; have hb1 := hg1.below; clear hg1; obtain ⟨hc1, hf1⟩ := bcell hb1)
    | (go_at_call 43; refine (place_no _ _ _ _ _ _ (HI.out.below (dn1 hb1)) h8 ha hp hb).mono ?_; rintro e W2 ⟨rfl, hb2⟩; have hb2 := nx hb1 hb2; obtain ⟨hc2, hf2⟩ := bcell hb2)
    | (go_at_call 16; refine (nam_yes _ _ hnm).mono ?_; rintro e W3 ⟨rfl, rfl⟩)
    | (go_at_call 18; refine (rsr_yes _ _ _ _ _ hrs).mono ?_; rintro e W4 ⟨rfl, hg4⟩; have hb4 := nx hb2 hg4.below; clear hg4; obtain ⟨hc4, hf4⟩ := bcell hb4))
  exact bodyPost_ret (v := .tuple #[.slice none 0 0, .int .i64 4]) (by simp [results, Tryd.results22, go_sem]) rfl ⟨rfl, dn1 hb4⟩
set_option maxHeartbeats 4000000 in
set_option maxRecDepth 8000 in
theorem insert_ok (A : Option Addr) (n c : Nat) (l : List P4) (s : ByteArray) (k u h : Int) (w : World) (hl : InR w A n c l) (hvc : Vcat l) (hnm : Hid (Nam s)) (hrs : Hid (Rsr s k u h)) (hb : Hid (¬ ∃ i, At4 l s i)) (hfull : ¬ (n : Int) = 8) {p : Nat} (hp : Hid (Plc l s p)) :
    Calls Tryd.prog 22 #[.slice A n c, ra s k u h] w fun e' w' => ∃ A' c', e' = .returned (.tuple #[.slice A' (n + 1) c', .int .i64 0]) ∧ InR w' A' (n + 1) c' (putL l p (s, k, u, h)) ∧ Below w.heap.size w w' := by
  have HI := Lib.hid hl
  have hn : Hid (l.length = n) := hl.len
  have hv : Hid (Vcat l) := hvc
  have h8 : n ≤ 8 := by have := hvc.1; have := hl.len; omega
  have ha : Hid (Asc l) := hvc.asc
  have hpn : Hid (p ≤ n) := by have := hp.out.1; have := hl.len; show _ ≤ _; omega
  have hcf := cut_front hl hpn.out
  obtain ⟨A2, c2, hcb, hr2⟩ := cut_back hl hpn.out
  obtain ⟨q, hq⟩ : ∃ q, Hid (n - p = q) := ⟨_, rfl⟩
  rw [hq.out] at hcb
  have HC : Hid (∀ W, Below w.heap.size w W → Calls Tryd.prog 44 #[.slice (some ⟨W.heap.size + 1, 0, none⟩) 3 3] (TI W A p c s k u h A2 q c2).drew fun e w' => ∃ A' c', e = .returned (.slice A' (n + 1) c') ∧ InR w' A' (n + 1) c' (putL l p (s, k, u, h)) ∧ Below W.heap.size W w') := fun W hW => by rw [← hq.out]; exact concat_put W A n c l (HI.out.below hW) h8 s k u h p hpn.out A2 c2 (hr2.below hW)
  have HS : Hid (∀ W, Below (BX w s k u h).heap.size (BX w s k u h) W → S4 W w.heap.size s k u h ∧ w.heap.size < W.heap.size) := fun W hW => ⟨S4.of hW (by simp [BX]) (S4.new w s k u h), by have := hW.size; simp [BX] at this; omega⟩
  clear hl hvc hr2
  go_enter Tryd.func22, Tryd.ntmps22
  go_wp2_with (first
    | (go_at_call 20; refine (vcat_yes _ _ _ _ _ (HI.out.rd.below (newB _ _)) hn hv).mono ?_; rintro e W1 ⟨rfl, hg1⟩; have hb1 := hg1.below; clear hg1; obtain ⟨hc1, hf1⟩ := bcell hb1)
    | (go_at_call 43; refine (place_no _ _ _ _ _ _ (HI.out.below (dn1 hb1)) h8 ha hp hb).mono ?_; rintro e W2 ⟨rfl, hb2⟩; have hb2 := nx hb1 hb2; obtain ⟨hc2, hf2⟩ := bcell hb2)
    | (go_at_call 16; refine (nam_yes _ _ hnm).mono ?_; rintro e W3 ⟨rfl, rfl⟩)
    | (go_at_call 18; refine (rsr_yes _ _ _ _ _ hrs).mono ?_; rintro e W4 ⟨rfl, hg4⟩; have hb4 := nx hb2 hg4.below; clear hg4; obtain ⟨hc4, hf4⟩ := bcell hb4))
  have KP : Hid (∀ W, Below W4.heap.size W4 W → Below W4.heap.size W4 W ∧ S4 W w.heap.size s k u h) := fun W hW => ⟨hW, S4.of hW (HS.out _ hb4).2 (HS.out _ hb4).1⟩
  have HB4 := Lib.hid (dn1 hb4)
  have HC4 := Lib.hid (HC.out W4 HB4.out)
  clear hc1 hc2 hc4 hf1 hf2 hf4 hb1 hb2 hb4
  go_region_held3 (fun W => Below W4.heap.size W4 W ∧ S4 W w.heap.size s k u h)
    (first
      | exact KP.out _ (Below.refl _ _)
      | exact KP.out _ (bdD (Below.refl _ _))
      | exact KP.out _ hb5.out
      | (go_split_ands; exact KP.out _ (nxA (by assumption) _)))
    (first
      | (go_at_call 44; (with_reducible refine HC4.out.mono ?_); rintro e W5 ⟨A5, c5, rfl, hi5, hb5⟩; have HI5 := Lib.hid hi5; have hb5 := Lib.hid hb5; clear hi5))
  all_goals (
    go_split_ands
    go_wp2
    exact bodyPost_ret (v := .tuple #[.slice A5 (n + 1) c5, .int .i64 0]) (by simp [results, Tryd.results22, go_sem]) rfl ⟨A5, c5, rfl, HI5.out, nx HB4.out hb5.out⟩)
end Go.Proofs.YtmfdafffafbmpaaDoor
