/- Contracts of the program: Holds, Hopeless, Class, Resolve. Contracts of the program: Class, Resolve. Ranges over a function: the caller's invariant is told to the iterator; a region that draws its order within a round, from the plain law on such regions. Nothing here speaks of a program. Contracts of the program: slices.Backward and its iterator. Contracts of the program: Prune. Contracts of the program: Prune where the expression holds. The program's contracts, as the walks of the laws ask for them. -/
import Derived.Test.YtecipjjnbikheaaFpt
import Derived.Test.YtecipjjnbikheaaFre
import Derived.Test.YtecipjjnbikheaaFrc
import Derived.RangeFuncNested
import Derived.RangeFuncBound
import Derived.RangeFuncCalls
import Derived.RangeFuncLeaves
import Derived.RangeFuncFrom
import Derived.Deep.RegionHeld3
import Derived.OrdersIn
import Derived.Laws.IdiomCopy
import Derived.Test.YtecipjjnbikheaaFbo
import Derived.TacticsInMore
import Derived.LoopNIn
import Derived.LoopIn
import Derived.Laws.CopyOwn
namespace Go.Proofs.Ytecipjjnbikheaa
open Go.RowKit
set_option linter.unusedVariables false
set_option linter.unusedSimpArgs false

/-- The box of an expression, cell by cell. -/
abbrev X5 (W : World) (b : Nat) (k : Int) (s : ByteArray) (m u : Int) (A : Option Addr) (n c : Nat) : Prop :=
  W.cell? ⟨b, 0, none⟩ = some (.int .i64 k) ∧ W.cell? ⟨b, 1, none⟩ = some (.string s) ∧ W.cell? ⟨b, 2, none⟩ = some (.int .i64 m) ∧ W.cell? ⟨b, 3, none⟩ = some (.int .i64 u) ∧ W.cell? ⟨b, 4, none⟩ = some (.slice A n c)
theorem Blk.x5 {W : World} {b : Nat} {k : Int} {s : ByteArray} {m u : Int} {A : Option Addr} {n c : Nat} (h : Blk W b [.int .i64 k, .string s, .int .i64 m, .int .i64 u, .slice A n c]) : X5 W b k s m u A n c :=
  ⟨h.cell 0 rfl, h.cell 1 rfl, h.cell 2 rfl, h.cell 3 rfl, h.cell 4 rfl⟩

set_option maxHeartbeats 4000000 in
set_option maxRecDepth 20000 in
theorem holds8_yes {e : Ex} {L : List A3} {S : List Bool} (k : Int) (s : ByteArray) (m u : Int) (A : Option Addr) (n c : Nat) (B : Option Addr) (q cq : Nat) (w : World) (hT : TIn (Lo w.heap.size) w ⟨k, s, m, u, A, n, c⟩ e) (hS : SI w S B q) (hL : Hid (VL e L)) {r : Bool} (hr : Hid (e.hld L S = r)) :
    Calls Try.prog 16 #[xe k s m u A n c, .slice B q cq] w fun x w' => x = .returned (.bool r) ∧ Below w.heap.size w w' := by
  have HT0 := Lib.hid (hT.grow (.cells #[.int .i64 k, .string s, .int .i64 m, .int .i64 u, .slice A n c] 28))
  have HK0 := Lib.hid (Blk.new w [.int .i64 k, .string s, .int .i64 m, .int .i64 u, .slice A n c] 28 rfl)
  have HS := Lib.hid hS
  have HP : Hid (1 ≤ L.length ∧ L.length ≤ 8) := ⟨hL.out.pos, hL.out.n8⟩
  have HTR : Hid (e.tru (hasP (memN L S L.length)) = r) := by show _ = _; rw [← hr.out]; exact has_set hL.out S
  have HTW := Lib.hid hT
  clear hT hS hr
  go_enter Try.func16, Try.ntmps16
  go_upto_region 2 with (first | (go_at_call 13; refine (atoms8_yes (e := e) (L := L) k s m u A n c _ HT0.out hL).mono ?_; rintro x W1 ⟨⟨A1, n1, c1, rfl, hn1, hq1⟩, hb1⟩; have HK1 := Lib.hid (HK0.out.up hb1 (by simp)); have HB1 := Lib.hid (dn1 hb1); have HQ := Lib.hid hq1; have HN1 := Lib.hid hn1; clear hb1 hn1 hq1))
  have hn8 : n1 ≤ 8 ∧ 1 ≤ n1 := by have := HP.out; have := HN1.out; omega
  have h0 : decide (0 < n1) = true := decide_eq_true (by omega)
  have HNL : Hid (L.length = n1) := HN1.out
  have HTR2 : Hid (e.tru (hasP (memN L S n1)) = r) := by rw [← HN1.out]; exact HTR
  have HALL : Hid (∀ W, Below W1.heap.size W1 W → Below W1.heap.size W1 W ∧ X5 W w.heap.size k s m u A n c) := Lib.hid (fun W h => ⟨h, (HK1.out.up h HK1.out.lt).x5⟩)
  have HALL2 : Hid (∀ W, Below W1.heap.size W1 W → QRd W A1 L ∧ SI W S B q ∧ TIn (Lo W.heap.size) W ⟨k, s, m, u, A, n, c⟩ e) := Lib.hid (fun W h => ⟨HQ.out.below h, HS.out.below (nx HB1.out h), HTW.out.up (nx HB1.out h)⟩)
  go_region_held3 (fun W => Below W1.heap.size W1 W ∧ X5 W w.heap.size k s m u A n c)
    (first
      | exact HALL.out _ (Below.refl _ _)
      | exact HALL.out _ (bdD (Below.refl _ _))
      | (go_split_ands; exact HALL.out _ (nx (by assumption) hb2)))
    (first
      | (go_at_call 36; go_split_ands; (with_reducible refine (members_is L S A1 n1 c1 B q cq _ (HALL2.out _ ?_).1 HNL (by omega) (HALL2.out _ ?_).2.1).mono ?_); (· assumption); (· assumption); rintro x W2 ⟨⟨A2, n2, c2, rfl, hm2⟩, hb2⟩; have HM2 := Lib.hid hm2; have HT2 := Lib.hid (HALL2.out _ (nx (by assumption) hb2)).2.2; clear hm2)
      | (go_at_call 35; (refine (holds_has e _ A2 n2 c2 k s m u A n c _ r HT2 HM2 HTR2).mono ?_); rintro x W2 ⟨rfl, hb2⟩))
  all_goals (go_wp2; go_ret; go_split_ands; exact ⟨by first | rfl | (simp; done), nx HB1.out (by assumption)⟩)
set_option maxHeartbeats 4000000 in
set_option maxRecDepth 20000 in
theorem holds8_no {e : Ex} {S : List Bool} (k : Int) (s : ByteArray) (m u : Int) (A : Option Addr) (n c : Nat) (B : Option Addr) (q cq : Nat) (w : World) (hT : TIn (Lo w.heap.size) w ⟨k, s, m, u, A, n, c⟩ e) (hS : SI w S B q) (hv : Hid (¬ Vex e)) :
    Calls Try.prog 16 #[xe k s m u A n c, .slice B q cq] w fun x w' => x = .returned (.bool false) ∧ Below w.heap.size w w' := by
  have HT0 := Lib.hid (hT.grow (.cells #[.int .i64 k, .string s, .int .i64 m, .int .i64 u, .slice A n c] 28))
  clear hT hS
  go_enter Try.func16, Try.ntmps16
  go_wp2_with (first
    | (go_at_call 13; refine (atoms8_nil (e := e) k s m u A n c _ HT0.out hv).mono ?_; rintro x W1 ⟨rfl, hb1⟩; have HB1 := Lib.hid (dn1 hb1); clear hb1))
  go_quiet (fail)
  go_wp2
  go_ret
  exact ⟨rfl, bdN HB1.out _⟩

set_option maxHeartbeats 4000000 in
set_option maxRecDepth 20000 in
theorem hopeless8_yes {e : Ex} {L : List A3} {S : List Bool} (k : Int) (s : ByteArray) (m u : Int) (A : Option Addr) (n c : Nat) (B : Option Addr) (q cq : Nat) (w : World) (hT : TIn (Lo w.heap.size) w ⟨k, s, m, u, A, n, c⟩ e) (hS : SI w S B q) (hL : Hid (VL e L)) {r : Bool} (hr : Hid (e.hld L (deadS L.length S) = r)) :
    Calls Try.prog 18 #[xe k s m u A n c, .slice B q cq] w fun x w' => x = .returned (.bool (!r)) ∧ Below w.heap.size w w' := by
  have HT0 := Lib.hid (hT.grow (.cells #[.int .i64 k, .string s, .int .i64 m, .int .i64 u, .slice A n c] 28))
  have HK0 := Lib.hid (Blk.new w [.int .i64 k, .string s, .int .i64 m, .int .i64 u, .slice A n c] 28 rfl)
  have HS := Lib.hid hS
  have HP : Hid (1 ≤ L.length ∧ L.length ≤ 8) := ⟨hL.out.pos, hL.out.n8⟩
  have HTR : Hid (e.tru (lackP (memN L S L.length)) = r) := by show _ = _; rw [← hr.out]; exact lack_set hL.out S
  have HTW := Lib.hid hT
  clear hT hS hr
  go_enter Try.func18, Try.ntmps18
  go_upto_region 2 with (first | (go_at_call 13; refine (atoms8_yes (e := e) (L := L) k s m u A n c _ HT0.out hL).mono ?_; rintro x W1 ⟨⟨A1, n1, c1, rfl, hn1, hq1⟩, hb1⟩; have HK1 := Lib.hid (HK0.out.up hb1 (by simp)); have HB1 := Lib.hid (dn1 hb1); have HQ := Lib.hid hq1; have HN1 := Lib.hid hn1; clear hb1 hn1 hq1))
  have hn8 : n1 ≤ 8 ∧ 1 ≤ n1 := by have := HP.out; have := HN1.out; omega
  have h0 : decide (0 < n1) = true := decide_eq_true (by omega)
  have HNL : Hid (L.length = n1) := HN1.out
  have HTR2 : Hid (e.tru (lackP (memN L S n1)) = r) := by rw [← HN1.out]; exact HTR
  have HALL : Hid (∀ W, Below W1.heap.size W1 W → Below W1.heap.size W1 W ∧ X5 W w.heap.size k s m u A n c) := Lib.hid (fun W h => ⟨h, (HK1.out.up h HK1.out.lt).x5⟩)
  have HALL2 : Hid (∀ W, Below W1.heap.size W1 W → QRd W A1 L ∧ SI W S B q ∧ TIn (Lo W.heap.size) W ⟨k, s, m, u, A, n, c⟩ e) := Lib.hid (fun W h => ⟨HQ.out.below h, HS.out.below (nx HB1.out h), HTW.out.up (nx HB1.out h)⟩)
  go_region_held3 (fun W => Below W1.heap.size W1 W ∧ X5 W w.heap.size k s m u A n c)
    (first
      | exact HALL.out _ (Below.refl _ _)
      | exact HALL.out _ (bdD (Below.refl _ _))
      | (go_split_ands; exact HALL.out _ (nx (by assumption) hb2)))
    (first
      | (go_at_call 36; go_split_ands; (with_reducible refine (members_is L S A1 n1 c1 B q cq _ (HALL2.out _ ?_).1 HNL (by omega) (HALL2.out _ ?_).2.1).mono ?_); (· assumption); (· assumption); rintro x W2 ⟨⟨A2, n2, c2, rfl, hm2⟩, hb2⟩; have HM2 := Lib.hid hm2; have HT2 := Lib.hid (HALL2.out _ (nx (by assumption) hb2)).2.2; clear hm2)
      | (go_at_call 35; (refine (holds_lacks e _ A2 n2 c2 k s m u A n c _ r HT2 HM2 HTR2).mono ?_); rintro x W2 ⟨rfl, hb2⟩))
  all_goals (go_wp2; go_ret; go_split_ands; exact ⟨by first | rfl | (simp; done), nx HB1.out (by assumption)⟩)
set_option maxHeartbeats 4000000 in
set_option maxRecDepth 20000 in
theorem hopeless8_no {e : Ex} {S : List Bool} (k : Int) (s : ByteArray) (m u : Int) (A : Option Addr) (n c : Nat) (B : Option Addr) (q cq : Nat) (w : World) (hT : TIn (Lo w.heap.size) w ⟨k, s, m, u, A, n, c⟩ e) (hS : SI w S B q) (hv : Hid (¬ Vex e)) :
    Calls Try.prog 18 #[xe k s m u A n c, .slice B q cq] w fun x w' => x = .returned (.bool false) ∧ Below w.heap.size w w' := by
  have HT0 := Lib.hid (hT.grow (.cells #[.int .i64 k, .string s, .int .i64 m, .int .i64 u, .slice A n c] 28))
  clear hT hS
  go_enter Try.func18, Try.ntmps18
  go_wp2_with (first
    | (go_at_call 13; refine (atoms8_nil (e := e) k s m u A n c _ HT0.out hv).mono ?_; rintro x W1 ⟨rfl, hb1⟩; have HB1 := Lib.hid (dn1 hb1); clear hb1))
  go_quiet (fail)
  go_wp2
  go_ret
  exact ⟨rfl, bdN HB1.out _⟩

end Go.Proofs.Ytecipjjnbikheaa

namespace Go.Proofs.Ytecipjjnbikheaa
open Go.RowKit
set_option linter.unusedVariables false
set_option linter.unusedSimpArgs false

theorem andB_end {e : Ex} {L : List A3} {m j : Nat} (hj : j < m) (h : e.hld L (restS L.length j) = true) : andB e L m = false := by
  unfold andB
  rw [List.all_eq_false]
  exact ⟨j, List.mem_range.2 hj, by rw [h]; decide⟩
theorem orB_end {e : Ex} {L : List A3} {m j : Nat} (hj : j < m) (h : e.hld L (oneS L.length j) = false) : orB e L m = false := by
  unfold orB
  rw [List.all_eq_false]
  exact ⟨j, List.mem_range.2 hj, by rw [h]; decide⟩

set_option maxHeartbeats 4000000 in
set_option maxRecDepth 20000 in
theorem needs_is {e : Ex} {L : List A3} (k : Int) (s : ByteArray) (m u : Int) (A : Option Addr) (n c : Nat) (A1 : Option Addr) (n1 c1 : Nat) (w : World) (hT : TIn (Lo w.heap.size) w ⟨k, s, m, u, A, n, c⟩ e) (hQ : QRd w A1 L) (hn1 : Hid (L.length = n1)) (hL : Hid (VL e L)) {r : Bool} (hr : Hid (andB e L n1 = r)) :
    Calls Try.prog 44 #[xe k s m u A n c, .slice A1 n1 c1] w fun x w' => x = .returned (.bool r) ∧ Below w.heap.size w w' := by
  have HT := Lib.hid hT
  have HQ := Lib.hid hQ
  have HB0 := Lib.hid (newB w (.cells #[.int .i64 k, .string s, .int .i64 m, .int .i64 u, .slice A n c] 28))
  have HK0 := Lib.hid (Blk.new w [.int .i64 k, .string s, .int .i64 m, .int .i64 u, .slice A n c] 28 rfl)
  have hn8 : n1 ≤ 8 := by have h1 := hL.out.n8; have h2 := hn1.out; omega
  clear hT hQ
  go_enter Try.func44, Try.ntmps44
  go_wp2
  go_loopw [9] (fun i wr => ∃ (j : Nat), j ≤ n1 ∧ i = .int .i64 j ∧ Hid (andB e L j = true) ∧ Hid (Below w.heap.size w wr) ∧ Hid (Blk wr w.heap.size [.int .i64 k, .string s, .int .i64 m, .int .i64 u, .slice A n c])) (fun i _ => n1 - (intOf i).toNat)
  case atStart => exact ⟨0, by omega, rfl, (by show _ = _; simp [andB]), HB0.out, HK0.out⟩
  case round =>
    obtain ⟨j, hj, rfl, hI, hB, hK⟩ := hrel
    by_cases hlt : (j : Int) < (n1 : Int)
    · have hjl : j < L.length := by have := hn1.out; omega
      obtain ⟨g, o, s', m', u', rfl, hg, hx, d1, d2, d3⟩ := (HQ.out.below hB.out).at_ (i := j) hjl
      have e5 : IntKind.i64.wrap ((j : Int) + 1) = (j : Int) + 1 := by rw [IntKind.wrap_i64]; omega
      have htr := lack_one hL.out hjl
      rw [hx.out] at htr
      obtain ⟨b, hb⟩ : ∃ b, Hid (e.hld L (restS L.length j) = b) := ⟨_, rfl⟩
      have HTR : Hid (e.tru (lackP [(s', m', u')]) = b) := htr.trans hb.out
      have HK2 : Hid (∀ o, Blk (wr.alloc o) w.heap.size [.int .i64 k, .string s, .int .i64 m, .int .i64 u, .slice A n c]) := Lib.hid (fun o => hK.out.grow o)
      have HB2 : Hid (∀ o o2, Below w.heap.size w ((wr.alloc o).alloc o2)) := Lib.hid (fun o o2 => nxA (nxA hB.out o) o2)
      have HT2 : Hid (∀ o o2, TIn (Lo ((wr.alloc o).alloc o2).heap.size) ((wr.alloc o).alloc o2) ⟨k, s, m, u, A, n, c⟩ e) := Lib.hid (fun o o2 => HT.out.up (HB2.out o o2))
      have HMS : Hid (MS ((wr.alloc (.cells #[.string s', .int .i64 m', .int .i64 u'] 25)).alloc (.cells #[.string s', .int .i64 m', .int .i64 u'] 25)) [(s', m', u')] (some ⟨wr.heap.size + 1, 0, none⟩) 1) := Lib.hid ⟨QRd.one_at _ _ _ _ _ (by simp), rfl, by omega⟩
      have hk1 := HK2.out (.cells #[.string s', .int .i64 m', .int .i64 u'] 25)
      have x0 := hk1.cell 0 rfl
      have x1 := hk1.cell 1 rfl
      have x2 := hk1.cell 2 rfl
      have x3 := hk1.cell 3 rfl
      have x4 := hk1.cell 4 rfl
      clear htr hk1
      cases b with
      | true =>
        have hend : Hid (r = false) := by show _ = _; rw [← hr.out]; exact andB_end (by omega) hb.out
        go_wp2_with (go_at_call 35; refine (holds_lacks e [(s', m', u')] (some ⟨wr.heap.size + 1, 0, none⟩) 1 1 k s m u A n c ((wr.alloc (.cells #[.string s', .int .i64 m', .int .i64 u'] 25)).alloc (.cells #[.string s', .int .i64 m', .int .i64 u'] 25)) true (HT2.out _ _) HMS HTR).mono ?_; rintro x W2 ⟨rfl, hb2⟩; have HB3 := Lib.hid (nx (HB2.out _ _) hb2); clear hb2)
        go_ret
        exact ⟨ret_bool hend.out.symm, HB3.out⟩
      | false =>
        have hI2 : Hid (andB e L (j + 1) = true) := by show _ = _; rw [andB_snoc, hI.out, hb.out]; rfl
        go_wp2_with (go_at_call 35; refine (holds_lacks e [(s', m', u')] (some ⟨wr.heap.size + 1, 0, none⟩) 1 1 k s m u A n c ((wr.alloc (.cells #[.string s', .int .i64 m', .int .i64 u'] 25)).alloc (.cells #[.string s', .int .i64 m', .int .i64 u'] 25)) false (HT2.out _ _) HMS HTR).mono ?_; rintro x W2 ⟨rfl, hb2⟩; have HB3 := Lib.hid (nx (HB2.out _ _) hb2); have HK3 := Lib.hid (((HK2.out _).grow _).up hb2 ((HK2.out _).grow _).lt); clear hb2)
        go_roundw
        case rel => exact ⟨j + 1, by omega, by go_num, hI2, HB3.out, HK3.out⟩
        case measure => simp [intOf]; omega
    · have hend : Hid (r = true) := by
        show _ = _
        have hje : j = n1 := by omega
        subst hje
        rw [← hr.out, hI.out]
      go_wp2
      go_ret
      exact ⟨ret_bool hend.out.symm, hB.out⟩

set_option maxHeartbeats 4000000 in
set_option maxRecDepth 20000 in
theorem forEach_is {e : Ex} {L : List A3} (k : Int) (s : ByteArray) (m u : Int) (A : Option Addr) (n c : Nat) (A1 : Option Addr) (n1 c1 : Nat) (w : World) (hT : TIn (Lo w.heap.size) w ⟨k, s, m, u, A, n, c⟩ e) (hQ : QRd w A1 L) (hn1 : Hid (L.length = n1)) (hL : Hid (VL e L)) {r : Bool} (hr : Hid (orB e L n1 = r)) :
    Calls Try.prog 45 #[xe k s m u A n c, .slice A1 n1 c1] w fun x w' => x = .returned (.bool r) ∧ Below w.heap.size w w' := by
  have HT := Lib.hid hT
  have HQ := Lib.hid hQ
  have HB0 := Lib.hid (newB w (.cells #[.int .i64 k, .string s, .int .i64 m, .int .i64 u, .slice A n c] 28))
  have HK0 := Lib.hid (Blk.new w [.int .i64 k, .string s, .int .i64 m, .int .i64 u, .slice A n c] 28 rfl)
  have hn8 : n1 ≤ 8 := by have h1 := hL.out.n8; have h2 := hn1.out; omega
  clear hT hQ
  go_enter Try.func45, Try.ntmps45
  go_wp2
  go_loopw [9] (fun i wr => ∃ (j : Nat), j ≤ n1 ∧ i = .int .i64 j ∧ Hid (orB e L j = true) ∧ Hid (Below w.heap.size w wr) ∧ Hid (Blk wr w.heap.size [.int .i64 k, .string s, .int .i64 m, .int .i64 u, .slice A n c])) (fun i _ => n1 - (intOf i).toNat)
  case atStart => exact ⟨0, by omega, rfl, (by show _ = _; simp [orB]), HB0.out, HK0.out⟩
  case round =>
    obtain ⟨j, hj, rfl, hI, hB, hK⟩ := hrel
    by_cases hlt : (j : Int) < (n1 : Int)
    · have hjl : j < L.length := by have := hn1.out; omega
      obtain ⟨g, o, s', m', u', rfl, hg, hx, d1, d2, d3⟩ := (HQ.out.below hB.out).at_ (i := j) hjl
      have e5 : IntKind.i64.wrap ((j : Int) + 1) = (j : Int) + 1 := by rw [IntKind.wrap_i64]; omega
      have htr := has_one hL.out hjl
      rw [hx.out] at htr
      obtain ⟨b, hb⟩ : ∃ b, Hid (e.hld L (oneS L.length j) = b) := ⟨_, rfl⟩
      have HTR : Hid (e.tru (hasP [(s', m', u')]) = b) := htr.trans hb.out
      have HK2 : Hid (∀ o, Blk (wr.alloc o) w.heap.size [.int .i64 k, .string s, .int .i64 m, .int .i64 u, .slice A n c]) := Lib.hid (fun o => hK.out.grow o)
      have HB2 : Hid (∀ o o2, Below w.heap.size w ((wr.alloc o).alloc o2)) := Lib.hid (fun o o2 => nxA (nxA hB.out o) o2)
      have HT2 : Hid (∀ o o2, TIn (Lo ((wr.alloc o).alloc o2).heap.size) ((wr.alloc o).alloc o2) ⟨k, s, m, u, A, n, c⟩ e) := Lib.hid (fun o o2 => HT.out.up (HB2.out o o2))
      have HMS : Hid (MS ((wr.alloc (.cells #[.string s', .int .i64 m', .int .i64 u'] 25)).alloc (.cells #[.string s', .int .i64 m', .int .i64 u'] 25)) [(s', m', u')] (some ⟨wr.heap.size + 1, 0, none⟩) 1) := Lib.hid ⟨QRd.one_at _ _ _ _ _ (by simp), rfl, by omega⟩
      have hk1 := HK2.out (.cells #[.string s', .int .i64 m', .int .i64 u'] 25)
      have x0 := hk1.cell 0 rfl
      have x1 := hk1.cell 1 rfl
      have x2 := hk1.cell 2 rfl
      have x3 := hk1.cell 3 rfl
      have x4 := hk1.cell 4 rfl
      clear htr hk1
      cases b with
      | false =>
        have hend : Hid (r = false) := by show _ = _; rw [← hr.out]; exact orB_end (by omega) hb.out
        go_wp2_with (go_at_call 35; refine (holds_has e [(s', m', u')] (some ⟨wr.heap.size + 1, 0, none⟩) 1 1 k s m u A n c ((wr.alloc (.cells #[.string s', .int .i64 m', .int .i64 u'] 25)).alloc (.cells #[.string s', .int .i64 m', .int .i64 u'] 25)) false (HT2.out _ _) HMS HTR).mono ?_; rintro x W2 ⟨rfl, hb2⟩; have HB3 := Lib.hid (nx (HB2.out _ _) hb2); clear hb2)
        go_ret
        exact ⟨ret_bool hend.out.symm, HB3.out⟩
      | true =>
        have hI2 : Hid (orB e L (j + 1) = true) := by show _ = _; rw [orB_snoc, hI.out, hb.out]; rfl
        go_wp2_with (go_at_call 35; refine (holds_has e [(s', m', u')] (some ⟨wr.heap.size + 1, 0, none⟩) 1 1 k s m u A n c ((wr.alloc (.cells #[.string s', .int .i64 m', .int .i64 u'] 25)).alloc (.cells #[.string s', .int .i64 m', .int .i64 u'] 25)) true (HT2.out _ _) HMS HTR).mono ?_; rintro x W2 ⟨rfl, hb2⟩; have HB3 := Lib.hid (nx (HB2.out _ _) hb2); have HK3 := Lib.hid (((HK2.out _).grow _).up hb2 ((HK2.out _).grow _).lt); clear hb2)
        go_roundw
        case rel => exact ⟨j + 1, by omega, by go_num, hI2, HB3.out, HK3.out⟩
        case measure => simp [intOf]; omega
    · have hend : Hid (r = true) := by
        show _ = _
        have hje : j = n1 := by omega
        subst hje
        rw [← hr.out, hI.out]
      go_wp2
      go_ret
      exact ⟨ret_bool hend.out.symm, hB.out⟩

set_option maxHeartbeats 4000000 in
set_option maxRecDepth 20000 in
theorem class8_yes {e : Ex} {L : List A3} (k : Int) (s : ByteArray) (m u : Int) (A : Option Addr) (n c : Nat) (w : World) (hT : TIn (Lo w.heap.size) w ⟨k, s, m, u, A, n, c⟩ e) (hL : Hid (VL e L)) {r : Int} (hr : Hid (cls e L = r)) :
    Calls Try.prog 27 #[xe k s m u A n c] w fun x w' => x = .returned (.int .i64 r) ∧ Below w.heap.size w w' := by
  have HT0 := Lib.hid (hT.grow (.cells #[.int .i64 k, .string s, .int .i64 m, .int .i64 u, .slice A n c] 28))
  have HTW := Lib.hid hT
  have HK0 := Lib.hid (Blk.new w [.int .i64 k, .string s, .int .i64 m, .int .i64 u, .slice A n c] 28 rfl)
  obtain ⟨N, hN⟩ : ∃ N, Hid (L.length = N) := ⟨_, rfl⟩
  have hN8 : N ≤ 8 ∧ 1 ≤ N := by have h1 := hL.out.n8; have h3 := hL.out.pos; have h2 := hN.out; omega
  have b0 : ((N : Int) == 0) = false := by rw [beq_eq_false_iff_ne]; omega
  clear hT
  by_cases h1 : N = 1
  · have hend : Hid (r = 1) := by show _ = _; rw [← hr.out]; unfold cls; rw [hN.out, if_pos h1]
    have b1 : ((N : Int) == 1) = true := by rw [beq_iff_eq]; omega
    clear hr
    go_enter Try.func27, Try.ntmps27
    go_wp2_with (first | (go_at_call 13; refine (atoms8_yes (e := e) (L := L) k s m u A n c _ HT0.out hL).mono ?_; rintro x W1 ⟨⟨A1, n1, c1, rfl, hn1, hq1⟩, hb1⟩; have hnn : n1 = N := hn1.symm.trans hN.out; subst hnn; have hk1 := HK0.out.up hb1 (by simp); have x0 := hk1.cell 0 rfl; have x1 := hk1.cell 1 rfl; have x2 := hk1.cell 2 rfl; have x3 := hk1.cell 3 rfl; have x4 := hk1.cell 4 rfl; have HK1 := Lib.hid hk1; have HB1 := Lib.hid (dn1 hb1); have HT1 := Lib.hid (HTW.out.up HB1.out); have HQ := Lib.hid hq1; clear hb1 hn1 hq1 hk1))
    go_ret
    exact ⟨by rw [hend.out]; rfl, HB1.out⟩
  · have b1 : ((N : Int) == 1) = false := by rw [beq_eq_false_iff_ne]; omega
    have hr2 : Hid ((if andB e L N = true then (2 : Int) else if orB e L N = true then 3 else 4) = r) := by have h := hr.out; unfold cls at h; rw [hN.out, if_neg h1] at h; exact h
    clear hr h1
    obtain ⟨va, hva⟩ : ∃ v, Hid (andB e L N = v) := ⟨_, rfl⟩
    obtain ⟨vo, hvo⟩ : ∃ v, Hid (orB e L N = v) := ⟨_, rfl⟩
    cases va with
    | true =>
      have hend : Hid (r = 2) := by show _ = _; rw [← hr2.out, if_pos hva.out]
      clear hr2
      go_enter Try.func27, Try.ntmps27
      go_wp2_with (first
        | (go_at_call 13; refine (atoms8_yes (e := e) (L := L) k s m u A n c _ HT0.out hL).mono ?_; rintro x W1 ⟨⟨A1, n1, c1, rfl, hn1, hq1⟩, hb1⟩; have hnn : n1 = N := hn1.symm.trans hN.out; subst hnn; have hk1 := HK0.out.up hb1 (by simp); have x0 := hk1.cell 0 rfl; have x1 := hk1.cell 1 rfl; have x2 := hk1.cell 2 rfl; have x3 := hk1.cell 3 rfl; have x4 := hk1.cell 4 rfl; have HK1 := Lib.hid hk1; have HB1 := Lib.hid (dn1 hb1); have HT1 := Lib.hid (HTW.out.up HB1.out); have HQ := Lib.hid hq1; clear hb1 hn1 hq1 hk1)
        | (go_at_call 44; refine (needs_is (e := e) (L := L) k s m u A n c A1 n1 c1 _ HT1.out HQ.out hN hL hva).mono ?_; rintro x W2 ⟨rfl, hb2⟩; have HB2 := Lib.hid (nx HB1.out hb2); clear hb2))
      go_ret
      exact ⟨by rw [hend.out]; rfl, HB2.out⟩
    | false =>
      cases vo with
      | true =>
        have hend : Hid (r = 3) := by show _ = _; rw [← hr2.out, if_neg (by rw [hva.out]; decide), if_pos hvo.out]
        clear hr2
        go_enter Try.func27, Try.ntmps27
        go_wp2_with (first
          | (go_at_call 13; refine (atoms8_yes (e := e) (L := L) k s m u A n c _ HT0.out hL).mono ?_; rintro x W1 ⟨⟨A1, n1, c1, rfl, hn1, hq1⟩, hb1⟩; have hnn : n1 = N := hn1.symm.trans hN.out; subst hnn; have hk1 := HK0.out.up hb1 (by simp); have x0 := hk1.cell 0 rfl; have x1 := hk1.cell 1 rfl; have x2 := hk1.cell 2 rfl; have x3 := hk1.cell 3 rfl; have x4 := hk1.cell 4 rfl; have HK1 := Lib.hid hk1; have HB1 := Lib.hid (dn1 hb1); have HT1 := Lib.hid (HTW.out.up HB1.out); have HQ := Lib.hid hq1; clear hb1 hn1 hq1 hk1)
          | (go_at_call 44; refine (needs_is (e := e) (L := L) k s m u A n c A1 n1 c1 _ HT1.out HQ.out hN hL hva).mono ?_; rintro x W2 ⟨rfl, hb2⟩; have HB2 := Lib.hid (nx HB1.out hb2); have HT2 := Lib.hid (HT1.out.up hb2); have HQ2 := Lib.hid (HQ.out.below hb2); have hk2 := HK1.out.up hb2 HK1.out.lt; have z0 := hk2.cell 0 rfl; have z1 := hk2.cell 1 rfl; have z2 := hk2.cell 2 rfl; have z3 := hk2.cell 3 rfl; have z4 := hk2.cell 4 rfl; clear hb2 hk2)
          | (go_at_call 45; refine (forEach_is (e := e) (L := L) k s m u A n c A1 n1 c1 _ HT2.out HQ2.out hN hL hvo).mono ?_; rintro x W3 ⟨rfl, hb3⟩; have HB3 := Lib.hid (nx HB2.out hb3); clear hb3))
        go_ret
        exact ⟨by rw [hend.out]; rfl, HB3.out⟩
      | false =>
        have hend : Hid (r = 4) := by show _ = _; rw [← hr2.out, if_neg (by rw [hva.out]; decide), if_neg (by rw [hvo.out]; decide)]
        clear hr2
        go_enter Try.func27, Try.ntmps27
        go_wp2_with (first
          | (go_at_call 13; refine (atoms8_yes (e := e) (L := L) k s m u A n c _ HT0.out hL).mono ?_; rintro x W1 ⟨⟨A1, n1, c1, rfl, hn1, hq1⟩, hb1⟩; have hnn : n1 = N := hn1.symm.trans hN.out; subst hnn; have hk1 := HK0.out.up hb1 (by simp); have x0 := hk1.cell 0 rfl; have x1 := hk1.cell 1 rfl; have x2 := hk1.cell 2 rfl; have x3 := hk1.cell 3 rfl; have x4 := hk1.cell 4 rfl; have HK1 := Lib.hid hk1; have HB1 := Lib.hid (dn1 hb1); have HT1 := Lib.hid (HTW.out.up HB1.out); have HQ := Lib.hid hq1; clear hb1 hn1 hq1 hk1)
          | (go_at_call 44; refine (needs_is (e := e) (L := L) k s m u A n c A1 n1 c1 _ HT1.out HQ.out hN hL hva).mono ?_; rintro x W2 ⟨rfl, hb2⟩; have HB2 := Lib.hid (nx HB1.out hb2); have HT2 := Lib.hid (HT1.out.up hb2); have HQ2 := Lib.hid (HQ.out.below hb2); have hk2 := HK1.out.up hb2 HK1.out.lt; have z0 := hk2.cell 0 rfl; have z1 := hk2.cell 1 rfl; have z2 := hk2.cell 2 rfl; have z3 := hk2.cell 3 rfl; have z4 := hk2.cell 4 rfl; clear hb2 hk2)
          | (go_at_call 45; refine (forEach_is (e := e) (L := L) k s m u A n c A1 n1 c1 _ HT2.out HQ2.out hN hL hvo).mono ?_; rintro x W3 ⟨rfl, hb3⟩; have HB3 := Lib.hid (nx HB2.out hb3); clear hb3))
        go_ret
        exact ⟨by rw [hend.out]; rfl, HB3.out⟩
set_option maxHeartbeats 1000000 in
set_option maxRecDepth 8000 in
theorem class8_no {e : Ex} (k : Int) (s : ByteArray) (m u : Int) (A : Option Addr) (n c : Nat) (w : World) (hT : TIn (Lo w.heap.size) w ⟨k, s, m, u, A, n, c⟩ e) (hv : Hid (¬ Vex e)) :
    Calls Try.prog 27 #[xe k s m u A n c] w fun x w' => x = .returned (.int .i64 0) ∧ Below w.heap.size w w' := by
  have HT0 := Lib.hid (hT.grow (.cells #[.int .i64 k, .string s, .int .i64 m, .int .i64 u, .slice A n c] 28))
  clear hT
  go_enter Try.func27, Try.ntmps27
  go_wp2_with (first | (go_at_call 13; refine (atoms8_nil (e := e) k s m u A n c _ HT0.out hv).mono ?_; rintro x W1 ⟨rfl, hb1⟩; have HB1 := Lib.hid (dn1 hb1); clear hb1))
  go_ret
  exact ⟨rfl, HB1.out⟩

set_option maxHeartbeats 4000000 in
set_option maxRecDepth 20000 in
theorem resolve8_yes {e : Ex} {L : List A3} (l : List P4) (B : Option Addr) (q cq : Nat) (k : Int) (s : ByteArray) (m u : Int) (A : Option Addr) (n c : Nat) (w : World) (hI : InR w B q cq l) (hT : TIn (Lo w.heap.size) w ⟨k, s, m, u, A, n, c⟩ e) (hL : Hid (VL e L)) {r : Int} (hr : Hid (firE l L = r)) :
    Calls Try.prog 30 #[.slice B q cq, xe k s m u A n c] w fun x w' => x = .returned (.int .i64 r) ∧ Below w.heap.size w w' := by
  have HT0 := Lib.hid (hT.grow (.cells #[.int .i64 k, .string s, .int .i64 m, .int .i64 u, .slice A n c] 28))
  have HTW := Lib.hid hT
  have HK0 := Lib.hid (Blk.new w [.int .i64 k, .string s, .int .i64 m, .int .i64 u, .slice A n c] 28 rfl)
  obtain ⟨N, hN⟩ : ∃ N, Hid (L.length = N) := ⟨_, rfl⟩
  have hN8 : N ≤ 8 ∧ 1 ≤ N := by have h1 := hL.out.n8; have h3 := hL.out.pos; have h2 := hN.out; omega
  have b0 : ((N : Int) == 0) = false := by rw [beq_eq_false_iff_ne]; omega
  have HI := Lib.hid hI
  clear hT hI
  go_enter Try.func30, Try.ntmps30
  go_wp2_with (first | (go_at_call 13; refine (atoms8_yes (e := e) (L := L) k s m u A n c _ HT0.out hL).mono ?_; rintro x W1 ⟨⟨A1, n1, c1, rfl, hn1, hq1⟩, hb1⟩; have hnn : n1 = N := hn1.symm.trans hN.out; subst hnn; have hk1 := HK0.out.up hb1 (by simp); have x0 := hk1.cell 0 rfl; have x1 := hk1.cell 1 rfl; have x2 := hk1.cell 2 rfl; have x3 := hk1.cell 3 rfl; have x4 := hk1.cell 4 rfl; have HK1 := Lib.hid hk1; have HB1 := Lib.hid (dn1 hb1); have HT1 := Lib.hid (HTW.out.up HB1.out); have HQ := Lib.hid hq1; clear hb1 hn1 hq1 hk1))
  go_loopw [16] (fun i wr => ∃ (j : Nat), j ≤ n1 ∧ i = .int .i64 j ∧ Hid (firE l (L.drop j) = r) ∧ Hid (Below W1.heap.size W1 wr)) (fun i _ => n1 - (intOf i).toNat)
  case atStart => exact ⟨0, by omega, rfl, hr, Below.refl _ _⟩
  case round =>
    obtain ⟨j, hj, rfl, hR, hB⟩ := hrel
    by_cases hlt : (j : Int) < (n1 : Int)
    · have hjl : j < L.length := by have := hN.out; omega
      obtain ⟨g, o, s1, m1, u1, rfl, hg, hx, c1', c2, c3⟩ := (HQ.out.below hB.out).at_ (i := j) hjl
      have e5 : IntKind.i64.wrap ((j : Int) + 1) = (j : Int) + 1 := by rw [IntKind.wrap_i64]; omega
      have hd := firE_drop (l := l) hjl
      have hrs := rsvN_is l (L.getD j default)
      obtain ⟨v, hv1⟩ : ∃ v, Hid (rsvN l (L.getD j default) = v) := ⟨_, rfl⟩
      rw [hR.out, hv1.out] at hd
      rw [hv1.out, hx.out] at hrs
      have HRS : Hid (Rsv l s1 m1 u1 v) := hrs
      have HBA : Hid (∀ o, Below W1.heap.size W1 (wr.alloc o)) := Lib.hid (fun o => nxA hB.out o)
      clear hrs
      by_cases h0 : v = 0
      · have b0 : (v != 0) = false := by rw [bne_eq_false_iff_eq]; exact h0
        have hR2 : Hid (firE l (L.drop (j + 1)) = r) := by show _ = _; rw [hd, if_pos h0]
        clear hd h0
        go_wp2_with (go_at_call 46; refine (resolve_is B q cq l s1 m1 u1 _ (HI.out.below (nx HB1.out (HBA.out _))) HRS).mono ?_; rintro x W2 ⟨rfl, hb2⟩; have HB2 := Lib.hid (nx (HBA.out _) hb2); clear hb2)
        exact ⟨⟨j + 1, by omega, by go_num, hR2, HB2⟩, by simp [intOf]; omega⟩
      · have b0 : (v != 0) = true := by rw [bne_iff_ne]; exact h0
        have hend : Hid (r = v) := by show _ = _; rw [hd, if_neg h0]
        clear hd h0
        go_wp2_with (go_at_call 46; refine (resolve_is B q cq l s1 m1 u1 _ (HI.out.below (nx HB1.out (HBA.out _))) HRS).mono ?_; rintro x W2 ⟨rfl, hb2⟩; have HB2 := Lib.hid (nx (HBA.out _) hb2); clear hb2)
        go_ret
        exact ⟨by rw [hend.out]; rfl, nx HB1.out HB2.out⟩
    · have hend : Hid (r = 0) := by
        show _ = _
        rw [← hR.out, List.drop_eq_nil_of_le (by have := hN.out; omega), firE]
      go_wp2
      go_ret
      exact ⟨by rw [hend.out]; rfl, nx HB1.out hB.out⟩
set_option maxHeartbeats 1000000 in
set_option maxRecDepth 8000 in
theorem resolve8_no {e : Ex} (l : List P4) (B : Option Addr) (q cq : Nat) (k : Int) (s : ByteArray) (m u : Int) (A : Option Addr) (n c : Nat) (w : World) (hI : InR w B q cq l) (hT : TIn (Lo w.heap.size) w ⟨k, s, m, u, A, n, c⟩ e) (hv : Hid (¬ Vex e)) :
    Calls Try.prog 30 #[.slice B q cq, xe k s m u A n c] w fun x w' => x = .returned (.int .i64 1) ∧ Below w.heap.size w w' := by
  have HT0 := Lib.hid (hT.grow (.cells #[.int .i64 k, .string s, .int .i64 m, .int .i64 u, .slice A n c] 28))
  clear hT
  go_enter Try.func30, Try.ntmps30
  go_wp2_with (first | (go_at_call 13; refine (atoms8_nil (e := e) k s m u A n c _ HT0.out hv).mono ?_; rintro x W1 ⟨rfl, hb1⟩; have HB1 := Lib.hid (dn1 hb1); clear hb1))
  go_ret
  exact ⟨rfl, HB1.out⟩
end Go.Proofs.Ytecipjjnbikheaa

namespace Go.Proofs.Ytecipjjnbikheaa
open Go.RowKit
set_option linter.unusedVariables false

abbrev lrec8 (fn : FuncId) (a : Act) (ps : Array Tmp) (assign body : Code) (k : Nat) (st : LoopState) (pe : Option Code) : Loop := { state := st, pending := pe, fn, tmps := a.tmps, params := ps, assign, body, defers := k }
theorem rangeFunc_inv {n : Nat} {P : Program} {α : Type} {g : Operand} {ps : Array Tmp} {assign body : Code} {Q : Exit → Act → World → Prop} {a : Act} {w : World}
    (h1 : 1 ≤ n) {gf : Nat} {lb : Array Value} (hg : a.eval g = .func (.func gf) #[] lb) (eg : ∀ args w, (callFunc gf args).run P w = .ok (.enter gf args) w)
    {encs : α → Array Value} (hps : ∀ x, (encs x).size = ps.size) {xs : List α} {Ok : List α → α → Prop}
    (I : List α → World → Prop) (hI : OwnFrom w.heap.size I)
    (hseq : ∀ (l : Nat) (J : List α → World → Prop) (W : World), (∀ pre A, J pre A → I pre A) →
      (∀ pre x W1, J pre W1 → Ok pre x → YieldAt Fence.wide (n - 1 - 1) P l (encs x) W1 fun e W' => e = .returned (.bool true) ∧ J (pre ++ [x]) W') → J [] W →
      CallsIn Fence.wide (n - 1) P gf (#[.func (.yield l) #[] #[]] ++ lb) W fun e W' => (∃ v, e = .returned v) ∧ J xs W')
    (h0 : I [] w) (a₁ : α → Act)
    (hassign : ∀ (l : Nat) (x : α) (W : World) (K : Act → World → Prop), K (a₁ x) W →
      assign.wpIn (Fence.wide.inRound l) (n - 1 - 1) P (Exit.then K (fun _ _ _ => False)) { tmps := (ps.zip (encs x)).foldl (fun t (p, v) => t.setIfInBounds p v) a.tmps, defers := [] } W)
    (hbody : ∀ (l : Nat) (pre : List α) (x : α) (W : World), I pre W → Ok pre x → body.wpIn (Fence.wide.inRound l) (n - 1 - 1) P (fun e _ W' => e = .normal ∧ KeepsOthers W W' ∧ I (pre ++ [x]) W') (a₁ x) W)
    (hdone : ∀ (D : Nat) (W : World), w.heap.size ≤ D → I xs W → W.heap[D]? = some (.deferred (some [])) → Q .normal { a with defers := { target := .collected D, args := #[] } :: a.defers } W) :
    (Code.rangeFunc g ps assign body).wpIn Fence.wide n P Q a w := by
  refine wpIn_rangeFunc fun fn hfn => ?_
  obtain ⟨R, hR⟩ : ∃ R : LoopState → Option Code → Loop, R = lrec8 fn a ps assign body w.heap.size := ⟨_, rfl⟩
  obtain ⟨W1, hW1⟩ : ∃ W1, (w.alloc (.deferred (some []))).alloc (.loop (R .ready none)) = W1 := ⟨_, rfl⟩
  have hL1 : W1.heap[w.heap.size + 1]? = some (.loop (R .ready none)) := by
    have := World.alloc_heap_new (w.alloc (.deferred (some []))) (.loop (R .ready none))
    rw [World.size_alloc] at this
    rw [← hW1]
    exact this
  have hD1 : W1.heap[w.heap.size]? = some (.deferred (some [])) := by
    rw [← hW1]
    exact (Below.heap_alloc _ _ _ (by simp)).trans (World.alloc_heap_new w _)
  have hI1 : I [] W1 := by rw [← hW1]; exact hI.alloc _ (hI.alloc _ h0)
  refine ⟨w.heap.size + 1, [{ target := .collected w.heap.size, args := #[] }], W1, { target := .fn (.func gf) lb, args := #[.func (.yield (w.heap.size + 1)) #[] #[]] }, W1, gf,
    #[.func (.yield (w.heap.size + 1)) #[] #[]] ++ lb, W1, ?_, ?_, fun _ _ => trivial, ?_, fun _ => h1, ?_⟩
  · have := run_enterLoop_outer (P := P) (w := w) fn a.tmps ps assign body
    rw [← hW1, hR]
    exact this
  · simp only [resolve, hg]
    simp [go_sem]
  · simp [invoke, go_sem, eg]
  · refine (hseq (w.heap.size + 1) (fun pre W => I pre W ∧ W.heap[w.heap.size + 1]? = some (.loop (R .ready none)) ∧ W.heap[w.heap.size]? = some (.deferred (some []))) W1
      (fun pre A hJ => hJ.1) ?_ ⟨hI1, hL1, hD1⟩).mono ?_
    · rintro pre x W ⟨hi, hl, hd⟩ hok
      have hlt : w.heap.size + 1 < W.heap.size := (Array.getElem?_eq_some_iff.1 hl).1
      have hy := run_yield (P := P) (args := encs x) hl (by rw [hR]; exact hps x)
      rw [hR] at hy
      refine ⟨fn, _, assign, body, hy, roundIn_of_wpIn hfn (hassign _ x W _ ⟨_, run_beginRound hl (by rw [hR]), ?_⟩)⟩
      obtain ⟨V, hV⟩ : ∃ V, W.putObj (w.heap.size + 1) (.loop { R .ready none with state := .busy }) = V := ⟨_, rfl⟩
      have hVl : V.heap[w.heap.size + 1]? = some (.loop { R .ready none with state := .busy }) := by rw [← hV]; exact World.putObj_heap_same hlt
      have hVd : V.heap[w.heap.size]? = some (.deferred (some [])) := by rw [← hV]; exact (World.putObj_heap_other (by omega)).trans hd
      have hVi : I pre V := by rw [← hV]; exact hI.putObj _ hi (by omega) hl rfl
      rw [hV]
      refine wpIn_mono (hbody _ pre x V hVi hok) ?_
      rintro e a3 W3 ⟨rfl, hko, hi3⟩
      have hl3 := hko.same _ _ hVl rfl
      have hd3 := hko.same _ _ hVd rfl
      refine ⟨_, _, run_endRound (P := P) none hl3, rfl, hI.putObj _ hi3 (by omega) hl3 rfl, ?_, ?_⟩
      · rw [World.putObj_heap_same (Array.getElem?_eq_some_iff.1 hl3).1, hR]
        rfl
      · exact (World.putObj_heap_other (by omega)).trans hd3
    · rintro e W2 ⟨⟨v, rfl⟩, hi, hl, hd⟩
      refine ⟨none, _, ?_, hdone _ _ (Nat.le_refl _) (hI.putObj (.loop { R .ready none with state := .exhausted }) hi (by omega) hl rfl) ((World.putObj_heap_other (by omega)).trans hd)⟩
      have := run_endLoop (P := P) hl (by rw [hR]; simp)
      rw [hR] at this ⊢
      exact this

/-! ### A region that draws, within a round -/
section
variable {P : Program} {ops : Array Oper} {Q : Exit → Act → World → Prop} {md : Region.Mode}
theorem rowsIn_wide8 {n : Nat} {row : String} {args : Array Value} {w : World} {R : Value → World → Prop} (h : Rows P row args w R) (l : Nat) : RowsIn (Fence.wide.inRound l) n P row args w R :=
  fun c cs _ => let ⟨v, w', r, s⟩ := h c cs; ⟨v, w', r, (stepsIn_wide (P := P)).2 s⟩
theorem opIn_wide8 {l n : Nat} {o : Oper} {a : Act} {w : World} {K : Act → World → Prop} (hnd : ∀ c, o.op ≠ .defer c) (hQ : ¬ LetsOut Q) (h : o.wp P a w K Q) : o.wpIn (Fence.wide.inRound l) n P a w K Q := by
  refine ⟨fun f _ => trivial, ?_⟩
  rw [Oper.semAt_eq _ _ _ hnd]
  unfold Oper.wp at h
  generalize (execOp a.eval o).run P w = r at h ⊢
  cases r with
  | ok x w' =>
    cases x <;> simp only [Oper.upon, Oper.uponIn] at h ⊢
    case value v => exact h
    case skip => exact h
    case defer d => exact h
    case enter f args =>
      refine ⟨fun h => (by cases h), CallsIn.inRound l (callsIn_wide.2 (h.mono fun e w'' he => ?_))⟩
      cases e with
      | returned v => exact he
      | panicked c => exact he
      | outgrown => exact he
    case row row args => exact ⟨fun h => (by cases h), rowsIn_wide8 h l⟩
  | halt x w' =>
    cases x <;> simp only [Oper.upon, Oper.uponIn] at h ⊢
    case panic v => exact h
theorem wpOpIn_wide8 {l n i : Nat} {K : Act → World → Prop} {a : Act} {w : World} (hnd : ∀ o ∈ ops, ∀ c, o.op ≠ .defer c) (hQ : ¬ LetsOut Q) (h : wpOp P ops Q i K a w) : wpOpIn (Fence.wide.inRound l) n P ops Q i K a w := by
  unfold wpOp at h
  unfold wpOpIn
  cases ho : ops[i]? with
  | none => simp only [ho] at h ⊢; exact h
  | some o =>
    have hm : o ∈ ops := Array.mem_of_getElem? ho
    simp only [ho] at h ⊢
    split
    · rename_i hw
      simp only [hw, if_true] at h
      rcases h with h | ⟨_, h⟩
      · exact opIn_wide8 (hnd o hm) hQ h
      · exact absurd h hQ
    · rename_i hw
      simp only [hw] at h
      exact ⟨fun f _ => trivial, h⟩
theorem wpAnyIn_wide8 {l n : Nat} (hnd : ∀ o ∈ ops, ∀ c, o.op ≠ .defer c) (hQ : ¬ LetsOut Q) : ∀ (fuel : Nat) (listed : Array Bool) (a : Act) (w : World), wpAny P md ops Q fuel listed a w → wpAnyIn (Fence.wide.inRound l) n P md ops Q fuel listed a w
  | 0, _, _, _, h => h
  | fuel + 1, listed, a, w, h => ⟨h.1, fun i hi => wpOpIn_mono (fun a' w' h' => wpAnyIn_wide8 hnd hQ fuel _ a' w' h') (wpOpIn_wide8 hnd hQ (h.2 i hi))⟩
theorem wpIn_region_held8 {l n id : Nat} {a : Act} {w : World} (S : World → Prop) (hm : P.follows .mixedOrders = true) (hnd : ∀ o ∈ ops, ∀ c, o.op ≠ .defer c) (hQ : ¬ LetsOut Q) (hS : S w.drew)
    (h : S w.drew → wpAnyH P .any ops Q S ops.size (Array.replicate ops.size false) a w.drew) : (Code.region id ops true).wpIn (Fence.wide.inRound l) n P Q a w :=
  wpIn_region_any hm (wpAnyIn_wide8 hnd hQ _ _ _ _ (wpAny_of_held _ _ _ _ (h hS)))
end

/-! ### Cells set one after the other -/
def setL : List Value → Nat → List Value → List Value
  | l, _, [] => l
  | l, k, v :: r => setL (l.set k v) (k + 1) r
theorem Blk.sets {g : Nat} : ∀ (vs : List Value) (k : Nat) (w : World) (l : List Value), Blk w g l → Blk (w.setCells g k vs) g (setL l k vs)
  | [], _, _, _, h => h
  | v :: r, k, w, l, h => Blk.sets r (k + 1) _ _ (h.set k v)
theorem below_sets {B g : Nat} {a : World} (hg : B ≤ g) : ∀ (vs : List Value) (k : Nat) (w : World), Below B a w → Below B a (w.setCells g k vs)
  | [], _, _, h => h
  | v :: r, k, w, h => below_sets hg r (k + 1) _ (h.setCell (p := ⟨g, k, none⟩) hg v)
theorem block_sets {g b : Nat} (h : b ≠ g) : ∀ (vs : List Value) (k : Nat) (w : World), (w.setCells g k vs).heap[b]? = w.heap[b]?
  | [], _, _ => rfl
  | v :: r, k, w => (block_sets h r (k + 1) _).trans (Below.heap_setCell _ _ _ _ h)
theorem setL_len : ∀ (vs : List Value) (k : Nat) (l : List Value), (setL l k vs).length = l.length
  | [], _, _ => rfl
  | v :: r, k, l => by rw [setL, setL_len r]; simp
theorem setL_get : ∀ (vs : List Value) (k : Nat) (l : List Value) (i : Nat), (setL l k vs)[i]? = if k ≤ i ∧ i < k + vs.length ∧ i < l.length then vs[i - k]? else l[i]?
  | [], k, l, i => by rw [setL, if_neg]; simp; omega
  | v :: r, k, l, i => by
    rw [setL, setL_get r (k + 1) (l.set k v) i]
    by_cases hi : i = k
    · subst hi
      rw [if_neg (by omega)]
      by_cases hl : i < l.length
      · rw [if_pos ⟨Nat.le_refl _, by simp, hl⟩]; simp [hl]
      · rw [if_neg (by omega), List.getElem?_eq_none (by simp; omega), List.getElem?_eq_none (by omega)]
    · rw [List.length_set, List.length_cons, List.getElem?_set_ne (Ne.symm hi)]
      by_cases hc : k ≤ i ∧ i < k + (r.length + 1) ∧ i < l.length
      · rw [if_pos ⟨by omega, by omega, hc.2.2⟩, if_pos hc, show i - k = (i - (k + 1)) + 1 by omega, List.getElem?_cons_succ]
      · rw [if_neg (by omega), if_neg hc]
end Go.Proofs.Ytecipjjnbikheaa

namespace Go.Proofs.Ytecipjjnbikheaa
open Go.RowKit
set_option linter.unusedVariables false
set_option linter.unusedSimpArgs false
attribute [local go_sem] Oper.semAt_some

theorem backward_is (A : Option Addr) (n c : Nat) (w : World) : Calls Try.prog 43 #[.slice A n c] w fun e w' => e = .returned (.func (.func 59) #[] #[.pointer (some ⟨w.heap.size, 0, none⟩)]) ∧ w' = w.alloc (.cells #[.slice A n c] 33) := by
  go_enter Try.func43, Try.ntmps43
  go_wp2
  go_ret
  exact ⟨rfl, rfl⟩
theorem rev_take {n k : Nat} (h : k < n) : (List.range n).reverse.take (k + 1) = (List.range n).reverse.take k ++ [n - 1 - k] := by
  rw [List.take_succ_eq_append_getElem (by simp; omega)]
  simp
set_option maxHeartbeats 4000000 in
set_option maxRecDepth 100000 in
theorem bwd_walk (m : Nat) (hm : 1 ≤ m) (l b g n : Nat) (hn : n ≤ 1000) (o0 : List Bool) (J : List Nat → World → Prop)
    (hJ : ∀ pre W, J pre W → W.cell? ⟨b, 0, none⟩ = some (.slice (some ⟨g, 0, none⟩) n n) ∧ ∀ i, i + pre.length < n → W.cell? ⟨g, i, none⟩ = some (.bool (o0.getD i false)))
    (hY : ∀ pre x W, J pre W → x + pre.length + 1 = n → YieldAt Fence.wide (m - 1) Try.prog l #[.int .i64 (x : Nat), .bool (o0.getD x false)] W fun e W' => e = .returned (.bool true) ∧ J (pre ++ [x]) W')
    (W : World) (h0 : J [] W) :
    CallsIn Fence.wide m Try.prog 59 #[.func (.yield l) #[] #[], .pointer (some ⟨b, 0, none⟩)] W fun e W' => (∃ v, e = .returned v) ∧ J (List.range n).reverse W' := by
  have hc0 := (hJ _ _ h0).1
  have e1 : IntKind.i64.wrap ((n : Int) - 1) = (n : Int) - 1 := by rw [IntKind.wrap_i64]; omega
  refine callsIn_of_wp Try.func59 rfl trivial ?_ rfl
  simp only [Try.ntmps59, List.size_toArray, List.length_cons, List.length_nil, Nat.reduceAdd, Nat.reduceSub, Array.replicate_succ, Array.replicate_zero, List.push_toArray, List.append_toArray, List.nil_append, List.cons_append]
  gi_wp2
  gi_loopw [3] (fun p wr => ∃ (z : Int) (k : Nat), p = .int .i64 z ∧ k ≤ n ∧ Hid (z + (k : Int) + 1 = (n : Int)) ∧ J ((List.range n).reverse.take k) wr)
    (fun p _ => (intOf p + 1).toNat)
  case atStart => exact ⟨_, 0, rfl, by omega, (by show _ = _; omega), by rw [List.take_zero]; exact h0⟩
  case round =>
    obtain ⟨z, k, rfl, hk, hz, hJs⟩ := hrel
    by_cases hneg : 0 ≤ z
    · obtain ⟨i, rfl⟩ : ∃ i : Nat, z = i := ⟨z.toNat, by omega⟩
      have hzz := hz.out
      have hik : i + k + 1 = n := by omega
      have e2 : IntKind.i64.wrap ((i : Int) - 1) = (i : Int) - 1 := by rw [IntKind.wrap_i64]; omega
      have hlen : ((List.range n).reverse.take k).length = k := by simp; omega
      have hc := (hJ _ _ hJs).1
      have hg := (hJ _ _ hJs).2 i (by omega)
      obtain ⟨fn, tmps, assign, body, hy, hR⟩ := hY _ i _ hJs (by omega)
      have HR := Lib.hid hR
      obtain ⟨v, hv⟩ : ∃ v, Hid (o0.getD i false = v) := ⟨_, rfl⟩
      rw [hv.out] at hg hy
      have hin : (i : Int) < (n : Int) := by omega
      have hnx : Hid ((List.range n).reverse.take (k + 1) = (List.range n).reverse.take k ++ [i]) := by
        show _ = _
        rw [rev_take (by omega), show n - 1 - k = i by omega]
      have HIK := Lib.hid hik
      clear hR hzz hik hlen
      gi_wp2
      refine HR.out.mono ?_
      rintro e W3 ⟨rfl, hJ3⟩
      gi_wp2
      go_roundw
      case rel => exact ⟨_, k + 1, rfl, by have := HIK.out; omega, (by have := HIK.out; show _ = _; push_cast; omega), by rw [hnx.out]; exact hJ3⟩
      case measure => first | (simp [intOf]; done) | (simp [intOf]; omega)
    · have hzz := hz.out
      have hkn : k = n := by omega
      subst hkn
      gi_wp2
      go_end0
      refine ⟨⟨_, rfl⟩, ?_⟩
      rw [List.take_of_length_le (by simp)] at hJs
      exact hJs
end Go.Proofs.Ytecipjjnbikheaa

namespace Go.Proofs.Ytecipjjnbikheaa
open Go.RowKit
set_option linter.unusedVariables false
set_option linter.unusedSimpArgs false
attribute [local go_sem] Oper.semAt_some

/-- The state between two rounds: g holds what is left, the boxes stand. -/
structure PI (g b0 b5 b6 b7 n : Nat) (e : Ex) (L : List A3) (S : List Bool) (es : List Value) (VA VL : Value) (W1 : World) (pre : List Nat) (o : List Bool) (W : World) : Prop where
  len : o.length = n
  hp : prnG e L (n - pre.length) o = prn e L S
  hd : e.hld L o = true
  lo : ∀ i, i + pre.length < n → o.getD i false = (cutS n S).getD i false
  bg : Blk W g (bvs o)
  x0 : Blk W b0 es
  x5 : Blk W b5 [VA]
  x6 : Blk W b6 [VL]
  x7 : Blk W b7 [VL]
  bel : Below W1.heap.size W1 W
/-- The boxes lie apart. -/
structure Apt (g b0 b5 b6 b7 k : Nat) : Prop where
  h0 : b0 ≠ g
  h5 : b5 ≠ g
  h6 : b6 ≠ g
  h7 : b7 ≠ g
  hk : k ≤ g
theorem PI.own {g b0 b5 b6 b7 n : Nat} {e : Ex} {L : List A3} {S : List Bool} {es : List Value} {VA VL : Value} {W1 : World} {B : Nat} (hg : g < B) (h0 : b0 < B) (h5 : b5 < B) (h6 : b6 < B) (h7 : b7 < B) (hW : W1.heap.size ≤ B) :
    OwnFrom B (fun (pre : List Nat) W => ∃ o, PI g b0 b5 b6 b7 n e L S es VA VL W1 pre o W) := by
  rintro pre X Y row ⟨o, h⟩ hgr hrow
  have hb : ∀ {b : Nat} {cs : List Value}, Blk X b cs → b < B → Blk Y b cs := fun {b} {cs} hk hlt => hk.of (hgr.block b hk.lt (fun ee => by have := (hrow b ee.symm).1; omega))
  exact ⟨o, h.len, h.hp, h.hd, h.lo, hb h.bg hg, hb h.x0 h0, hb h.x5 h5, hb h.x6 h6, hb h.x7 h7, (ownFrom_below (β := Unit) (n₀ := W1.heap.size) (w₀ := W1) (Nat.le_refl _) hW) () X Y row h.bel hgr hrow⟩
theorem PI.step {g b0 b5 b6 b7 n : Nat} {e : Ex} {L : List A3} {S : List Bool} {es : List Value} {VA VL : Value} {W1 W W6 : World} {pre : List Nat} {o : List Bool} {i : Nat} (hp : Apt g b0 b5 b6 b7 W1.heap.size) (h : PI g b0 b5 b6 b7 n e L S es VA VL W1 pre o W) (hi : i + pre.length + 1 = n)
    (hb : Below (W.setCell ⟨g, i, none⟩ (.bool false)).heap.size (W.setCell ⟨g, i, none⟩ (.bool false)) W6) {r : Bool} (hr : e.hld L (o.set i false) = r) :
    PI g b0 b5 b6 b7 n e L S es VA VL W1 (pre ++ [i]) (stepP e L i o) (W6.setCell ⟨g, i, none⟩ (.bool (!r))) := by
  have up : ∀ {b : Nat} {cs : List Value}, Blk W b cs → b ≠ g → Blk (W6.setCell ⟨g, i, none⟩ (.bool (!r))) b cs := fun {b} {cs} hk hne => by
    have h1 : Blk (W.setCell ⟨g, i, none⟩ (.bool false)) b cs := hk.of (block_set _ _ _ hne)
    exact (h1.up hb h1.lt).of (block_set _ _ _ hne)
  have hs : (o.set i false).set i (!r) = stepP e L i o := by rw [List.set_set, ← hr]; exact stepP_alt h.hd
  have hgb : Blk W6 g (bvs (o.set i false)) := (h.bg.bset i false).up hb (h.bg.bset i false).lt
  refine ⟨by rw [stepP_len, h.len], ?_, stepP_hld i h.hd, fun j hj => ?_, by rw [← hs]; exact hgb.bset i _, up h.x0 hp.h0, up h.x5 hp.h5, up h.x6 hp.h6, up h.x7 hp.h7, ?_⟩
  · have := h.hp
    rw [show n - pre.length = i + 1 by omega, prnG] at this
    rw [List.length_append, List.length_singleton, show n - (pre.length + 1) = i by omega]
    exact this
  · rw [List.length_append, List.length_singleton] at hj
    rw [stepP_hi _ _ _ _ (by omega)]
    exact h.lo j (by omega)
  · exact (nx (h.bel.setCell (p := ⟨g, i, none⟩) hp.hk _) hb).setCell (p := ⟨g, i, none⟩) hp.hk _
theorem keeps_below {B : Nat} {A C : World} (h : Below B A C) (hB : A.heap.size ≤ B) : KeepsOthers A C := ⟨h.size, fun k o hk _ => (h.block k (Nat.lt_of_lt_of_le (Array.getElem?_eq_some_iff.1 hk).1 hB)).trans hk⟩

/-- What Prune answers. -/
def PrY (X : List Bool) (w : World) (x : Ending) (w' : World) : Prop :=
  (∃ g, x = .returned (.slice (some ⟨g, 0, none⟩) X.length X.length) ∧ Blk w' g (bvs X)) ∧ Below w.heap.size w w'
/-- The world behind the boxes of Prune: the atoms' box, the new row, its box. -/
structure PF (w W1 : World) (N c1 : Nat) (A1 : Option Addr) (es : List Value) (W : World) : Prop where
  x0 : Blk W w.heap.size es
  x5 : Blk W W1.heap.size [.slice A1 N c1]
  bg : Blk W (W1.heap.size + 1) (bvs (List.replicate N false))
  x6 : Blk W (W1.heap.size + 1 + 1) [.slice (some ⟨W1.heap.size + 1, 0, none⟩) N N]
  bel : Below W1.heap.size W1 W
theorem PF.new {w W1 : World} {N c1 : Nat} {A1 : Option Addr} {es : List Value} (h : Blk W1 w.heap.size es) :
    PF w W1 N c1 A1 es (((W1.alloc (.cells #[.slice A1 N c1] 29)).alloc (.cells (bvs (List.replicate N false)).toArray 4)).alloc (.cells #[.slice (some ⟨W1.heap.size + 1, 0, none⟩) N N] 33)) :=
  ⟨((h.grow _).grow _).grow _, ((Blk.new W1 [.slice A1 N c1] 29 rfl).grow _).grow _, (Blk.new (W1.alloc (.cells #[.slice A1 N c1] 29)) (bvs (List.replicate N false)) 4 (by simp)).grow _,
    Blk.new _ [.slice (some ⟨W1.heap.size + 1, 0, none⟩) N N] 33 (by simp), new3 W1 _ _ _⟩
theorem PF.up {w W1 : World} {N c1 : Nat} {A1 : Option Addr} {es : List Value} {W W' : World} (h : PF w W1 N c1 A1 es W) (hb : Below W.heap.size W W') : PF w W1 N c1 A1 es W' :=
  ⟨h.x0.up hb h.x0.lt, h.x5.up hb h.x5.lt, h.bg.up hb h.bg.lt, h.x6.up hb h.x6.lt, nx h.bel hb⟩
set_option maxHeartbeats 4000000 in
set_option maxRecDepth 100000 in
theorem prune8_false {e : Ex} {L : List A3} {S : List Bool} (k : Int) (s : ByteArray) (m u : Int) (A : Option Addr) (n0 c : Nat) (B : Option Addr) (q cq : Nat) (w : World) (hT : TIn (Lo w.heap.size) w ⟨k, s, m, u, A, n0, c⟩ e) (hS : SI w S B q) (hL : Hid (VL e L)) (hr : Hid (e.hld L S = false)) :
    Calls Try.prog 25 #[xe k s m u A n0 c, .slice B q cq] w (PrY (prn e L S) w) := by
  have HT0 := Lib.hid (hT.grow (.cells #[.int .i64 k, .string s, .int .i64 m, .int .i64 u, .slice A n0 c] 28))
  have HTW := Lib.hid hT
  have HS := Lib.hid hS
  have HK0 := Lib.hid (Blk.new w [.int .i64 k, .string s, .int .i64 m, .int .i64 u, .slice A n0 c] 28 rfl)
  obtain ⟨N, hN⟩ : ∃ N, Hid (L.length = N) := ⟨_, rfl⟩
  have hN8 : N ≤ 8 ∧ 1 ≤ N := by have h1 := hL.out.n8; have h3 := hL.out.pos; have h2 := hN.out; omega
  have hmk := make_bools N (by omega)
  clear hT hS
  go_enter Try.func25, Try.ntmps25
  go_upto_region 3 with (first | (go_at_call 13; refine (atoms8_yes (e := e) (L := L) k s m u A n0 c _ HT0.out hL).mono ?_; rintro x W1 ⟨⟨A1, n1, c1, rfl, hn1, hq1⟩, hb1⟩; have hnn : n1 = N := hn1.symm.trans hN.out; subst hnn; have HK1 := Lib.hid (HK0.out.up hb1 (by simp)); have HB1 := Lib.hid (dn1 hb1); have HT1 := Lib.hid (HTW.out.up HB1.out); have HQ := Lib.hid hq1; clear hb1 hn1 hq1))
  have HF := Lib.hid (PF.new (w := w) (N := n1) (c1 := c1) (A1 := A1) HK1.out)
  generalize (((W1.alloc (.cells #[.slice A1 n1 c1] 29)).alloc (.cells (bvs (List.replicate n1 false)).toArray 4)).alloc (.cells #[.slice (some ⟨W1.heap.size + 1, 0, none⟩) n1 n1] 33)) = W2 at HF ⊢
  have HT2 := Lib.hid (HT1.out.up HF.out.bel)
  have HS2 := Lib.hid (HS.out.below (nx HB1.out HF.out.bel))
  have y := HF.out.x0.x5
  obtain ⟨y0, y1, y2, y3, y4⟩ := y
  clear HK0 HK1 HT0 HTW hmk
  go_wp2_with (go_at_call 16; refine (holds8_yes (e := e) (L := L) (S := S) k s m u A n0 c B q cq _ HT2.out HS2.out hL hr).mono ?_; rintro x W3 ⟨rfl, hb3⟩; have HF3 := Lib.hid (HF.out.up hb3); have z6 := HF3.out.x6.cell 0 rfl; clear hb3)
  go_ret
  have hp : prn e L S = List.replicate n1 false := by unfold prn; rw [if_neg (by rw [hr.out]; decide), hN.out]
  rw [hp]
  exact ⟨⟨_, by simp, HF3.out.bg⟩, nx HB1.out HF3.out.bel⟩
set_option maxHeartbeats 4000000 in
set_option maxRecDepth 100000 in
theorem prune8_no {e : Ex} {S : List Bool} (k : Int) (s : ByteArray) (m u : Int) (A : Option Addr) (n0 c : Nat) (B : Option Addr) (q cq : Nat) (w : World) (hT : TIn (Lo w.heap.size) w ⟨k, s, m, u, A, n0, c⟩ e) (hS : SI w S B q) (hv : Hid (¬ Vex e)) :
    Calls Try.prog 25 #[xe k s m u A n0 c, .slice B q cq] w fun x w' => (∃ A c, x = .returned (.slice A 0 c)) ∧ Below w.heap.size w w' := by
  have HT0 := Lib.hid (hT.grow (.cells #[.int .i64 k, .string s, .int .i64 m, .int .i64 u, .slice A n0 c] 28))
  have HTW := Lib.hid hT
  have HS := Lib.hid hS
  have HK0 := Lib.hid (Blk.new w [.int .i64 k, .string s, .int .i64 m, .int .i64 u, .slice A n0 c] 28 rfl)
  have hmk : ∀ w : World, (Instr.makeSlice 33 (.int .i64 0) (.int .i64 0)).run Try.prog w = .ok (.slice (some ⟨w.heap.size, 0, none⟩) 0 0) (w.alloc (.cells (bvs (List.replicate 0 false)).toArray 4)) := fun w => make_bools 0 (by omega) w
  clear hT hS
  go_enter Try.func25, Try.ntmps25
  go_upto_region 3 with (first | (go_at_call 13; refine (atoms8_nil (e := e) k s m u A n0 c _ HT0.out hv).mono ?_; rintro x W1 ⟨rfl, hb1⟩; have HK1 := Lib.hid (HK0.out.up hb1 (by simp)); have HB1 := Lib.hid (dn1 hb1); have HT1 := Lib.hid (HTW.out.up HB1.out); clear hb1))
  have HF : Hid (PF w W1 0 0 none _ (((W1.alloc (.cells #[.slice none 0 0] 29)).alloc (.cells (bvs []).toArray 4)).alloc (.cells #[.slice (some ⟨W1.heap.size + 1, 0, none⟩) 0 0] 33))) := Lib.hid (PF.new (w := w) (N := 0) (c1 := 0) (A1 := none) HK1.out)
  generalize (((W1.alloc (.cells #[.slice none 0 0] 29)).alloc (.cells (bvs []).toArray 4)).alloc (.cells #[.slice (some ⟨W1.heap.size + 1, 0, none⟩) 0 0] 33)) = W2 at HF ⊢
  have HT2 := Lib.hid (HT1.out.up HF.out.bel)
  have HS2 := Lib.hid (HS.out.below (nx HB1.out HF.out.bel))
  have y := HF.out.x0.x5
  obtain ⟨y0, y1, y2, y3, y4⟩ := y
  clear HK0 HK1 HT0 HTW hmk
  go_wp2_with (go_at_call 16; refine (holds8_no (e := e) (S := S) k s m u A n0 c B q cq _ HT2.out HS2.out hv).mono ?_; rintro x W3 ⟨rfl, hb3⟩; have HF3 := Lib.hid (HF.out.up hb3); have z6 := HF3.out.x6.cell 0 rfl; clear hb3)
  go_ret
  exact ⟨⟨_, _, rfl⟩, nx HB1.out HF3.out.bel⟩
end Go.Proofs.Ytecipjjnbikheaa

namespace Go.Proofs.Ytecipjjnbikheaa
open Go.RowKit
set_option linter.unusedVariables false
set_option linter.unusedSimpArgs false
attribute [local go_sem] Oper.semAt_some

theorem bvs_one (l : List Bool) : ∀ u ∈ bvs l, u.oneCell' = true := by
  intro u hu
  obtain ⟨b, _, rfl⟩ := List.mem_map.1 hu
  rfl
theorem cut_splice {n q : Nat} {S : List Bool} (hq : S.length = q) : (bvs (List.replicate n false)).take 0 ++ (bvs (S.take (min q n)) ++ (bvs (List.replicate n false)).drop (0 + (bvs (S.take (min q n))).length)) = bvs (cutS n S) := by
  unfold bvs
  rw [List.take_zero, List.nil_append, List.length_map, ← List.map_drop, ← List.map_append]
  congr 1
  refine List.ext_getElem? fun i => ?_
  unfold cutS
  rw [List.getElem?_append, List.length_take, hq]
  by_cases h1 : i < min (min q n) q
  · rw [if_pos h1, List.getElem?_take, if_pos (by omega), List.getElem?_map, List.getElem?_range (by omega), List.getElem?_eq_getElem (by omega)]
    simp [List.getD_eq_getElem?_getD, List.getElem?_eq_getElem (show i < S.length by omega)]
  · rw [if_neg h1, List.getElem?_drop, List.getElem?_map, List.getElem?_replicate]
    by_cases h2 : i < n
    · rw [if_pos (by omega), List.getElem?_range h2]
      simp only [Option.map_some]
      rw [getD_out (by omega)]
    · rw [if_neg (by omega), List.getElem?_eq_none (by simp; omega)]
      rfl
theorem setRow_blk {W : World} {g : Nat} {cs cs' : List Value} (h : Blk W g cs) : Blk (W.setRow g cs'.toArray) g cs' := by
  obtain ⟨T, h⟩ := h
  refine ⟨T, ?_⟩
  simp [World.setRow, Array.getElem?_modify, h]
/-- copy of bools into a row that is known whole. -/
theorem wpList_copy8 {w : World} {ops : Array Oper} {rest : List Oper} {o : Oper} {a : Act} {Q : Exit → Act → World → Prop} (hgd : o.guard = none) (d s : Operand)
    (ho : o.op = .call { callee := .builtin .copy, args := #[d, s], argTypes := #[33, 33] }) (g n c : Nat) (B : Addr) (q cq : Nat) (S : List Bool) (hd : a.eval d = .slice (some ⟨g, 0, none⟩) n c) (hs : a.eval s = .slice (some B) q cq)
    (hg : Blk w g (bvs (List.replicate n false))) (hS : SI w S (some B) q)
    (h : ∀ w', Blk w' g (bvs (cutS n S)) → (∀ b, b ≠ g → w'.heap[b]? = w.heap[b]?) → (∀ K x, Below K x w → K ≤ g → Below K x w') → wpList Try.prog ops Q rest (a.put o.dst (goInt (bvs (S.take (min q n))).length)) w') : wpList Try.prog ops Q (o :: rest) a w := by
  have hg0 := hg
  obtain ⟨T, hT⟩ := hg
  have hl : (bvs (S.take (min q n))).length = Nat.min q n := by
    rw [bvs_len, List.length_take, hS.sn]
    exact Nat.min_eq_left (Nat.min_le_left q n)
  have hsz : (Try.prog.info? 4).map (·.size) = some 1 := by kernel_rfl
  refine wpList_copy_own hgd d s 33 33 ho 4 Try.underlying33 hsz g 0 n c B q cq hd hs _ T hT (bvs (S.take (min q n))) hl (fun j v hv => ?_) (by rw [hl]; simp [bvs]; exact Nat.min_le_right q n) (bvs_one _) ?_
  · have hj : j < (S.take (min q n)).length := by have := (List.getElem?_eq_some_iff.1 hv).1; rw [bvs_len] at this; exact this
    have hjq : j < S.length := by rw [List.length_take] at hj; omega
    obtain ⟨b, off, x, hB, hb, hx, hc⟩ := hS.sr.at_ hjq
    injection hB with hB
    subst hB
    rw [add_at, hc]
    rw [bvs_at hj] at hv
    have e2 : (S.take (min q n)).getD j false = S.getD j false := by
      rw [List.getD_eq_getElem?_getD, List.getD_eq_getElem?_getD, List.getElem?_take, if_pos (by rw [List.length_take] at hj; omega)]
    rw [e2, hx.out] at hv
    exact hv
  · have hcs := cut_splice (n := n) hS.sn
    rw [show (bvs (List.replicate n false)).toArray.toList = bvs (List.replicate n false) from rfl, hcs]
    refine h _ (setRow_blk hg0) (fun b hb => setRow_other w g b _ hb) (fun K x hK hg => below_setRow hK hg _)
set_option maxHeartbeats 8000000 in
set_option maxRecDepth 100000 in
theorem prune8_true {e : Ex} {L : List A3} {S : List Bool} (k : Int) (s : ByteArray) (m u : Int) (A : Option Addr) (n0 c : Nat) (B : Option Addr) (q cq : Nat) (w : World) (hT : TIn (Lo w.heap.size) w ⟨k, s, m, u, A, n0, c⟩ e) (hS : SI w S B q) (hL : Hid (VL e L)) (hr : Hid (e.hld L S = true)) :
    Calls Try.prog 25 #[xe k s m u A n0 c, .slice B q cq] w (PrY (prn e L S) w) := by
  have hmix : Try.prog.follows .mixedOrders = true := by kernel_rfl
  have hne : S ≠ [] := by
    rintro rfl
    have h2 := hld_none (L := L) (S := []) (fun i => by simp) e hL.out.good
    rw [hr.out] at h2
    cases h2
  obtain ⟨g2, o2, rfl, hg2, hcs2⟩ := hS.sr hne
  have HT0 := Lib.hid (hT.grow (.cells #[.int .i64 k, .string s, .int .i64 m, .int .i64 u, .slice A n0 c] 28))
  have HTW := Lib.hid hT
  have HS := Lib.hid hS
  have HK0 := Lib.hid (Blk.new w [.int .i64 k, .string s, .int .i64 m, .int .i64 u, .slice A n0 c] 28 rfl)
  obtain ⟨N, hN⟩ : ∃ N, Hid (L.length = N) := ⟨_, rfl⟩
  have hN8 : N ≤ 8 ∧ 1 ≤ N := by have h1 := hL.out.n8; have h3 := hL.out.pos; have h2 := hN.out; omega
  have hmk := make_bools N (by omega)
  clear hT hS hcs2 hne
  refine (callsIn_wide (n := 5)).1 ?_
  refine callsIn_of_wp_marks Try.func25 rfl trivial ?_ rfl
  refine wpIn_wide.2 ?_
  simp only [Try.ntmps25, List.size_toArray, List.length_cons, List.length_nil, Nat.reduceAdd, Nat.reduceSub, Array.replicate_succ, Array.replicate_zero, List.push_toArray, List.append_toArray, List.nil_append, List.cons_append]
  go_upto_region 3 with (first | (go_at_call 13; refine (atoms8_yes (e := e) (L := L) k s m u A n0 c _ HT0.out hL).mono ?_; rintro x W1 ⟨⟨A1, n1, c1, rfl, hn1, hq1⟩, hb1⟩; have hnn : n1 = N := hn1.symm.trans hN.out; subst hnn; have HK1 := Lib.hid (HK0.out.up hb1 (by simp)); have HB1 := Lib.hid (dn1 hb1); have HT1 := Lib.hid (HTW.out.up HB1.out); have HQ := Lib.hid hq1; clear hb1 hn1 hq1))
  have HF := Lib.hid (PF.new (w := w) (N := n1) (c1 := c1) (A1 := A1) HK1.out)
  generalize (((W1.alloc (.cells #[.slice A1 n1 c1] 29)).alloc (.cells (bvs (List.replicate n1 false)).toArray 4)).alloc (.cells #[.slice (some ⟨W1.heap.size + 1, 0, none⟩) n1 n1] 33)) = W2 at HF ⊢
  have HT2 := Lib.hid (HT1.out.up HF.out.bel)
  have HS2 := Lib.hid (HS.out.below (nx HB1.out HF.out.bel))
  have y := HF.out.x0.x5
  obtain ⟨y0, y1, y2, y3, y4⟩ := y
  have HLT : Hid (w.heap.size < W1.heap.size) := Lib.hid HK1.out.lt
  clear HK0 HK1 HT0 hmk
  go_upto_region 5 with (first | (go_at_call 16; refine (holds8_yes (e := e) (L := L) (S := S) k s m u A n0 c _ q cq _ HT2.out HS2.out hL hr).mono ?_; rintro x W3 ⟨rfl, hb3⟩; have HF3 := Lib.hid (HF.out.up hb3); have z6 := HF3.out.x6.cell 0 rfl; clear hb3))
  have HS3 := Lib.hid (HS.out.below (nx HB1.out HF3.out.bel))
  clear y0 y1 y2 y3 y4 HF HT2 HS2 HT1
  go_wp2_with (first
    | (with_reducible refine wpList_copy8 rfl (.tmp 18) (.tmp 19) rfl (W1.heap.size + 1) n1 n1 ⟨g2, o2, none⟩ q cq S rfl rfl HF3.out.bg HS3.out ?_); intro W5 hg5 ho5 hb5; have HG5 := Lib.hid hg5; have H05 := Lib.hid (HF3.out.x0.of (ho5 _ (by have := HLT.out; omega))); have H55 := Lib.hid (HF3.out.x5.of (ho5 _ (by omega))); have H65 := Lib.hid (HF3.out.x6.of (ho5 _ (by omega))); have HB5 := Lib.hid (hb5 _ _ HF3.out.bel (by omega)); have u6 := H65.out.cell 0 rfl; clear hg5 ho5 hb5 z6
    | (go_at_call 43; refine (backward_is _ _ _ _).mono ?_; rintro x W6 ⟨rfl, rfl⟩))
  have hs7 : (W5.alloc (.cells #[(.slice (some ⟨W1.heap.size + 1, 0, none⟩) n1 n1)] 33)).heap.size = W5.heap.size + 1 := by simp
  have hs5 : W1.heap.size + 1 + 1 < W5.heap.size := H65.out.lt
  have H07 := Lib.hid (Blk.new W5 [(.slice (some ⟨W1.heap.size + 1, 0, none⟩) n1 n1)] 33 rfl)
  have HAP : Hid (Apt (W1.heap.size + 1) w.heap.size W1.heap.size (W1.heap.size + 1 + 1) W5.heap.size W1.heap.size) := Lib.hid ⟨by have := HLT.out; omega, by omega, by omega, by omega, by omega⟩
  have HI0 : Hid (PI (W1.heap.size + 1) w.heap.size W1.heap.size (W1.heap.size + 1 + 1) W5.heap.size n1 e L S [.int .i64 k, .string s, .int .i64 m, .int .i64 u, .slice A n0 c] (.slice A1 n1 c1) (.slice (some ⟨W1.heap.size + 1, 0, none⟩) n1 n1) W1 [] (cutS n1 S) (W5.alloc (.cells #[(.slice (some ⟨W1.heap.size + 1, 0, none⟩) n1 n1)] 33))) := Lib.hid ⟨by simp [cutS], (by unfold prn; rw [if_pos hr.out, hN.out]; rfl), (by rw [← hN.out, cutS_hld]; exact hr.out), fun i _ => rfl, HG5.out.grow _, H05.out.grow _, H55.out.grow _, H65.out.grow _, H07.out, nxA HB5.out _⟩
  have HLT2 := HLT.out
  refine (wpIn_wide (n := 5)).1 ?_
  refine rangeFunc_inv (by omega) (gf := 59) (lb := #[.pointer (some ⟨W5.heap.size, 0, none⟩)]) rfl (enters_of Try.func59 (by kernel_rfl) rfl)
    (encs := fun x : Nat => #[.int .i64 (x : Int), .bool ((cutS n1 S).getD x false)]) (fun _ => rfl) (xs := (List.range n1).reverse) (Ok := fun pre x => x + pre.length + 1 = n1)
    (fun (pre : List Nat) W => ∃ o, PI (W1.heap.size + 1) w.heap.size W1.heap.size (W1.heap.size + 1 + 1) W5.heap.size n1 e L S [.int .i64 k, .string s, .int .i64 m, .int .i64 u, .slice A n0 c] (.slice A1 n1 c1) (.slice (some ⟨W1.heap.size + 1, 0, none⟩) n1 n1) W1 pre o W)
    (PI.own (by omega) (by omega) (by omega) (by omega) (by omega) (by omega)) ?seq ⟨_, HI0.out⟩
    (fun x => { tmps := #[.agg #[.int .i64 k, .string s, .int .i64 m, .int .i64 u, .slice A n0 c], .slice (some ⟨g2, o2, none⟩) q cq, .pointer (some ⟨w.heap.size, 0, none⟩), undef, .slice none 0 0, .pointer (some ⟨W1.heap.size, 0, none⟩), .pointer (some ⟨W1.heap.size + 1 + 1, 0, none⟩), .int .i64 (x : Int), .agg #[.int .i64 k, .string s, .int .i64 m, .int .i64 u, .slice A n0 c], .slice A1 n1 c1, .slice A1 n1 c1, .int .i64 (n1 : Int), (.slice (some ⟨W1.heap.size + 1, 0, none⟩) n1 n1), .agg #[.int .i64 k, .string s, .int .i64 m, .int .i64 u, .slice A n0 c], .slice (some ⟨g2, o2, none⟩) q cq, .bool true, .bool false, undef, (.slice (some ⟨W1.heap.size + 1, 0, none⟩) n1 n1), .slice (some ⟨g2, o2, none⟩) q cq, .int .i64 ((bvs (List.take (min q n1) S)).length : Int), (.slice (some ⟨W1.heap.size + 1, 0, none⟩) n1 n1), .func (.func 59) #[] #[.pointer (some ⟨W5.heap.size, 0, none⟩)], .int .i64 (x : Int), .bool ((cutS n1 S).getD x false), undef, undef, undef, undef, undef, undef, undef, undef, undef, undef, undef, undef, undef, undef], defers := [] }) ?assign ?body ?done
  case seq =>
    intro l J W hJI hy h0
    refine bwd_walk 4 (by omega) l W5.heap.size (W1.heap.size + 1) n1 (by omega) (cutS n1 S) J (fun pre W hJ => ?_) hy W h0
    obtain ⟨o, hI⟩ := hJI _ _ hJ
    exact ⟨hI.x7.cell 0 rfl, fun i hi => by rw [← hI.lo i hi]; exact hI.bg.cell i (bvs_at (by rw [hI.len]; exact Nat.lt_of_le_of_lt (Nat.le_add_right _ _) hi))⟩
  case assign =>
    intro l x W K hK
    gi_wp2
    exact hK
  case body =>
    rintro l pre i W ⟨o, hI⟩ hok0
    have hok : i + pre.length + 1 = n1 := hok0
    have HI := Lib.hid hI
    have c6 := hI.x6.cell 0 rfl
    have hin : (i : Int) < (n1 : Int) := by omega
    have c7 := hI.bg.cell i (bvs_at (by rw [hI.len]; omega))
    have f7 := hI.bg.fz i
    obtain ⟨r, hr1⟩ : ∃ r, Hid (e.hld L (o.set i false) = r) := ⟨_, rfl⟩
    obtain ⟨v0, hv0⟩ : ∃ v, Hid ((cutS n1 S).getD i false = v) := ⟨_, rfl⟩
    rw [hv0.out]
    have HALL : Hid (∀ W', Below (W.setCell ⟨W1.heap.size + 1, i, none⟩ (.bool false)).heap.size (W.setCell ⟨W1.heap.size + 1, i, none⟩ (.bool false)) W' → (fun W' => X5 W' w.heap.size k s m u A n0 c ∧ W'.cell? ⟨W1.heap.size, 0, none⟩ = some (.slice A1 n1 c1) ∧ W'.cell? ⟨W1.heap.size + 1 + 1, 0, none⟩ = some (.slice (some ⟨W1.heap.size + 1, 0, none⟩) n1 n1)) W') := Lib.hid (fun W' h => by
      have up : ∀ {b : Nat} {cs : List Value}, Blk W b cs → b ≠ W1.heap.size + 1 → Blk W' b cs := fun {b} {cs} hk hne => by
        have h1 : Blk (W.setCell ⟨W1.heap.size + 1, i, none⟩ (.bool false)) b cs := hk.of (block_set _ _ _ hne)
        exact h1.up h h1.lt
      exact ⟨(up HI.out.x0 HAP.out.h0).x5, (up HI.out.x5 HAP.out.h5).cell 0 rfl, (up HI.out.x6 HAP.out.h6).cell 0 rfl⟩)
    have HALS : Hid (∀ W' v, Below (W.setCell ⟨W1.heap.size + 1, i, none⟩ (.bool false)).heap.size (W.setCell ⟨W1.heap.size + 1, i, none⟩ (.bool false)) W' → (fun W' => X5 W' w.heap.size k s m u A n0 c ∧ W'.cell? ⟨W1.heap.size, 0, none⟩ = some (.slice A1 n1 c1) ∧ W'.cell? ⟨W1.heap.size + 1 + 1, 0, none⟩ = some (.slice (some ⟨W1.heap.size + 1, 0, none⟩) n1 n1)) (W'.setCell ⟨W1.heap.size + 1, i, none⟩ v)) := Lib.hid (fun W' v h => by
      have up : ∀ {b : Nat} {cs : List Value}, Blk W b cs → b ≠ W1.heap.size + 1 → Blk (W'.setCell ⟨W1.heap.size + 1, i, none⟩ v) b cs := fun {b} {cs} hk hne => by
        have h1 : Blk (W.setCell ⟨W1.heap.size + 1, i, none⟩ (.bool false)) b cs := hk.of (block_set _ _ _ hne)
        exact (h1.up h h1.lt).of (block_set _ _ _ hne)
      exact ⟨(up HI.out.x0 HAP.out.h0).x5, (up HI.out.x5 HAP.out.h5).cell 0 rfl, (up HI.out.x6 HAP.out.h6).cell 0 rfl⟩)
    have HALL2 : Hid (∀ W', Below (W.setCell ⟨W1.heap.size + 1, i, none⟩ (.bool false)).heap.size (W.setCell ⟨W1.heap.size + 1, i, none⟩ (.bool false)) W' → QRd W' A1 L ∧ SI W' (o.set i false) (some ⟨W1.heap.size + 1, 0, none⟩) n1 ∧ TIn (Lo W'.heap.size) W' ⟨k, s, m, u, A, n0, c⟩ e ∧ Blk W' (W1.heap.size + 1) (bvs (o.set i false))) := Lib.hid (fun W' h => by
      have hb1 : Below W1.heap.size W1 W' := nx (HI.out.bel.setCell (p := ⟨W1.heap.size + 1, i, none⟩) HAP.out.hk _) h
      have hg1 : Blk W' (W1.heap.size + 1) (bvs (o.set i false)) := (HI.out.bg.bset i false).up h (HI.out.bg.bset i false).lt
      exact ⟨HQ.out.below hb1, ⟨by rw [List.length_set, HI.out.len], hg1.br, by omega⟩, HTW.out.up (nx HB1.out hb1), hg1⟩)
    have HTR : Hid (e.tru (hasP (memN L (o.set i false) n1)) = r) := by have h := has_set hL.out (o.set i false); rw [hN.out] at h; exact h.trans hr1.out
    have HLN : Hid (L.length = n1) := hN
    clear hI hs7 hs5 HLT2
    gi_wp2
    refine wpIn_region_held8 (fun W' => X5 W' w.heap.size k s m u A n0 c ∧ W'.cell? ⟨W1.heap.size, 0, none⟩ = some (.slice A1 n1 c1) ∧ W'.cell? ⟨W1.heap.size + 1 + 1, 0, none⟩ = some (.slice (some ⟨W1.heap.size + 1, 0, none⟩) n1 n1)) hmix (fun o ho c hc => by
      simp only [List.mem_toArray, List.mem_cons, List.not_mem_nil, or_false] at ho
      rcases ho with rfl | rfl | rfl | rfl | rfl | rfl | rfl | rfl | rfl | rfl | rfl <;> cases hc) (fun hq => by
      obtain ⟨a, w, hq⟩ := hq
      first | (cases hq.1; done) | (simp [Exit.inBlock, Exit.then] at hq; done)) (HALL.out _ (bdD (Below.refl _ _))) (fun hHeld => ?_)
    refine wpAnyH_take (i := 0) (oi := { dst := some 28, op := .load 33 (.tmp 6), type := 33, pos := "formula.go:105", after := #[], guard := none }) (v := (.slice (some ⟨W1.heap.size + 1, 0, none⟩) n1 n1)) rfl (by kernel_rfl) (by kernel_rfl) (by kernel_rfl) (fun _ _ _ h => h) (Or.inl ⟨by rfl, ?_⟩) (by assumption) ?_
    · intro w hSw; (try dsimp only at hSw); go_split_ands; go_simp
    (try simp only [Act.put, List.setIfInBounds_toArray, List.set_cons_zero, List.set_cons_succ])
    refine wpAnyH_take (i := 1) (oi := { dst := some 29, op := .move (.tmp 7), type := 3, pos := "formula.go:105", after := #[], guard := none }) (v := .int .i64 (i : Int)) rfl (by kernel_rfl) (by kernel_rfl) (by kernel_rfl) (fun _ _ _ h => h) (Or.inl ⟨by rfl, ?_⟩) (by assumption) ?_
    · intro w hSw; (try dsimp only at hSw); go_split_ands; go_simp
    (try simp only [Act.put, List.setIfInBounds_toArray, List.set_cons_zero, List.set_cons_succ])
    refine wpAnyH_take (i := 2) (oi := { dst := some 30, op := .load 28 (.tmp 2), type := 28, pos := "formula.go:105", after := #[], guard := none }) (v := .agg #[.int .i64 k, .string s, .int .i64 m, .int .i64 u, .slice A n0 c]) rfl (by kernel_rfl) (by kernel_rfl) (by kernel_rfl) (fun _ _ _ h => h) (Or.inl ⟨by rfl, ?_⟩) (by assumption) ?_
    · intro w hSw; (try dsimp only at hSw); go_split_ands; go_simp
    (try simp only [Act.put, List.setIfInBounds_toArray, List.set_cons_zero, List.set_cons_succ])
    refine wpAnyH_take (i := 3) (oi := { dst := some 31, op := .load 29 (.tmp 5), type := 29, pos := "formula.go:105", after := #[], guard := none }) (v := .slice A1 n1 c1) rfl (by kernel_rfl) (by kernel_rfl) (by kernel_rfl) (fun _ _ _ h => h) (Or.inl ⟨by rfl, ?_⟩) (by assumption) ?_
    · intro w hSw; (try dsimp only at hSw); go_split_ands; go_simp
    (try simp only [Act.put, List.setIfInBounds_toArray, List.set_cons_zero, List.set_cons_succ])
    refine wpAnyH_take (i := 4) (oi := { dst := some 32, op := .load 33 (.tmp 6), type := 33, pos := "formula.go:105", after := #[], guard := none }) (v := (.slice (some ⟨W1.heap.size + 1, 0, none⟩) n1 n1)) rfl (by kernel_rfl) (by kernel_rfl) (by kernel_rfl) (fun _ _ _ h => h) (Or.inl ⟨by rfl, ?_⟩) (by assumption) ?_
    · intro w hSw; (try dsimp only at hSw); go_split_ands; go_simp
    (try simp only [Act.put, List.setIfInBounds_toArray, List.set_cons_zero, List.set_cons_succ])
    refine wpAnyH_ready (rs := [5]) (by kernel_rfl) (by simp) ?_
    refine AllReadyH.cons (o := { dst := some 33, op := .call { callee := .value (.func 36), args := #[.tmp 31, .tmp 32], argTypes := #[29, 33] }, type := 58, pos := "formula.go:105", after := #[{ on := 3, ground := .data }, { on := 4, ground := .data }], guard := none }) rfl (fun K hK => ?_) AllReadyH.nil
    go_simp
    (go_at_call 36; refine (members_is L (o.set i false) A1 n1 c1 _ n1 n1 _ (HALL2.out _ (bdD (Below.refl _ _))).1 HLN (by omega) (HALL2.out _ (bdD (Below.refl _ _))).2.1).mono ?_; rintro x W7 ⟨⟨A2, n2, c2, rfl, hm2⟩, hb2⟩; have HM2 := Lib.hid hm2; have HB2 := Lib.hid (nx (bdD (Below.refl _ _)) hb2); clear hm2 hb2)
    refine hK.out _ _ (HALL.out _ HB2.out) (fun hHeld => ?_)
    clear hK K
    (try simp only [Act.put, List.setIfInBounds_toArray, List.set_cons_zero, List.set_cons_succ])
    refine wpAnyH_take (i := 6) (oi := { dst := some 34, op := .makeFunc (.func 37) #[.tmp 33] #[], type := 57, pos := "formula.go:105", after := #[{ on := 5, ground := .data }], guard := none }) (v := .func (.func 37) #[.slice A2 n2 c2] #[]) rfl (by kernel_rfl) (by kernel_rfl) (by kernel_rfl) (fun _ _ _ h => h) (Or.inl ⟨by rfl, ?_⟩) (by assumption) ?_
    · intro w hSw; (try dsimp only at hSw); go_split_ands; go_simp
    (try simp only [Act.put, List.setIfInBounds_toArray, List.set_cons_zero, List.set_cons_succ])
    refine wpAnyH_ready (rs := [7]) (by kernel_rfl) (by simp) ?_
    refine AllReadyH.cons (o := { dst := some 35, op := .call { callee := .value (.func 35), args := #[.tmp 30, .tmp 34], argTypes := #[28, 57] }, type := 4, pos := "formula.go:105", after := #[{ on := 2, ground := .data }, { on := 6, ground := .data }, { on := 5, ground := .chain }], guard := none }) rfl (fun K hK => ?_) AllReadyH.nil
    go_simp
    (go_at_call 35; refine (holds_has e _ A2 n2 c2 k s m u A n0 c _ r (HALL2.out _ HB2.out).2.2.1 HM2 HTR).mono ?_; rintro x W8 ⟨rfl, hb3⟩; have HB3 := Lib.hid (nx HB2.out hb3); have c8 := (HALL2.out _ HB3.out).2.2.2.cell i (bvs_at (by rw [List.length_set, HI.out.len]; omega)); have f8 := (HALL2.out _ HB3.out).2.2.2.fz i; clear hb3)
    refine hK.out _ _ (HALL.out _ HB3.out) (fun hHeld => ?_)
    clear hK K
    (try simp only [Act.put, List.setIfInBounds_toArray, List.set_cons_zero, List.set_cons_succ])
    refine wpAnyH_take (i := 8) (oi := { dst := some 36, op := .unOp .not 4 (.tmp 35), type := 4, pos := "formula.go:105", after := #[{ on := 7, ground := .data }], guard := none }) (v := .bool (!r)) rfl (by kernel_rfl) (by kernel_rfl) (by kernel_rfl) (fun _ _ _ h => h) (Or.inl ⟨by rfl, ?_⟩) (by assumption) ?_
    · intro w hSw; (try dsimp only at hSw); go_split_ands; go_simp
    (try simp only [Act.put, List.setIfInBounds_toArray, List.set_cons_zero, List.set_cons_succ])
    refine wpAnyH_take (i := 9) (oi := { dst := some 37, op := .indexAddr 33 (.tmp 28) (.tmp 29), type := 0, pos := "formula.go:105", after := #[{ on := 0, ground := .data }, { on := 1, ground := .data }, { on := 0, ground := .phase }, { on := 1, ground := .phase }, { on := 2, ground := .phase }, { on := 3, ground := .phase }, { on := 4, ground := .phase }, { on := 5, ground := .phase }, { on := 6, ground := .phase }, { on := 7, ground := .phase }, { on := 8, ground := .phase }], guard := none }) (v := .pointer (some ⟨W1.heap.size + 1, i, none⟩)) rfl (by kernel_rfl) (by kernel_rfl) (by kernel_rfl) (fun _ _ _ h => h) (Or.inl ⟨by rfl, ?_⟩) (by assumption) ?_
    · intro w hSw; (try dsimp only at hSw); go_split_ands; go_simp
    (try simp only [Act.put, List.setIfInBounds_toArray, List.set_cons_zero, List.set_cons_succ])
    refine wpAnyH_ready (rs := [10]) (by kernel_rfl) (by simp) ?_
    refine AllReadyH.cons (o := { dst := none, op := .store 4 (.tmp 37) (.tmp 36), type := 0, pos := "formula.go:105", after := #[{ on := 9, ground := .data }, { on := 8, ground := .data }, { on := 7, ground := .chain }, { on := 0, ground := .phase }, { on := 1, ground := .phase }, { on := 2, ground := .phase }, { on := 3, ground := .phase }, { on := 4, ground := .phase }, { on := 5, ground := .phase }, { on := 6, ground := .phase }, { on := 7, ground := .phase }, { on := 8, ground := .phase }], guard := none }) rfl (fun K hK => ?_) AllReadyH.nil
    go_simp
    refine hK.out _ _ (HALS.out _ _ HB3.out) (fun hHeld => ?_)
    clear hK K
    (try simp only [Act.put, List.setIfInBounds_toArray, List.set_cons_zero, List.set_cons_succ])
    refine wpAnyH_done (by kernel_rfl) ?_ _
    refine ⟨rfl, ((KeepsOthers.setCell W _ _).trans (keeps_below HB3.out (Nat.le_refl _))).trans (KeepsOthers.setCell _ _ _), _, PI.step HAP.out HI.out hok HB3.out hr1.out⟩
  case done =>
    rintro D W hD ⟨o, hI⟩ hK
    have HI := Lib.hid hI
    have c6 := hI.x6.cell 0 rfl
    have HK := Lib.hid hK
    have HDD : Hid (W5.heap.size < D) := Lib.hid (by rw [hs7] at hD; exact hD)
    clear hI hK hD hs7 hs5 HLT2
    go_wp2
    refine ⟨by simp, .inl ⟨_, _, rfl, run_takeDeferred HK.out, ?_⟩⟩
    have ho : o = prn e L S := by
      have h := HI.out.hp
      rw [List.length_reverse, List.length_range, Nat.sub_self] at h
      exact h
    have hg5 : W1.heap.size + 1 ≠ D := by have h1 := HDD.out; have h2 := H65.out.lt; omega
    have hfin : Blk (W.putObj D (.deferred none)) (W1.heap.size + 1) (bvs o) := HI.out.bg.of (World.putObj_heap_other hg5)
    have hbel : Below w.heap.size w (W.putObj D (.deferred none)) := (nx HB1.out HI.out.bel).trans (belowK_b (w := w) (Nat.le_refl _) W D _ _ (by have h1 := HDD.out; have h2 := H65.out.lt; have h3 := HLT.out; omega) HK.out rfl rfl)
    rw [← ho]
    exact ⟨_, results_tmp rfl _ _ _, ⟨_, by rw [HI.out.len]; rfl, hfin⟩, hbel⟩
theorem prune8_yes {e : Ex} {L : List A3} {S : List Bool} (k : Int) (s : ByteArray) (m u : Int) (A : Option Addr) (n c : Nat) (B : Option Addr) (q cq : Nat) (w : World) (hT : TIn (Lo w.heap.size) w ⟨k, s, m, u, A, n, c⟩ e) (hS : SI w S B q) (hL : Hid (VL e L)) {X : List Bool} (hX : Hid (prn e L S = X)) :
    Calls Try.prog 25 #[xe k s m u A n c, .slice B q cq] w fun x w' => (∃ A c, x = .returned (.slice A X.length c) ∧ BR w' A X ∧ X.length ≤ c) ∧ Below w.heap.size w w' := by
  rw [← hX.out]
  have key : Calls Try.prog 25 #[xe k s m u A n c, .slice B q cq] w (PrY (prn e L S) w) := by
    cases hb : e.hld L S with
    | true => exact prune8_true k s m u A n c B q cq w hT hS hL hb
    | false => exact prune8_false k s m u A n c B q cq w hT hS hL hb
  refine key.mono ?_
  rintro x w' ⟨⟨g, rfl, hg⟩, hb⟩
  exact ⟨⟨_, _, rfl, hg.br, Nat.le_refl _⟩, hb⟩
end Go.Proofs.Ytecipjjnbikheaa

namespace Go.Proofs.Ytecipjjnbikheaa
open Go.RowKit
set_option linter.unusedVariables false

theorem atoms8_no {e : Ex} (k : Int) (s : ByteArray) (m u : Int) (A : Option Addr) (n c : Nat) (w : World) (hT : TIn (Lo w.heap.size) w ⟨k, s, m, u, A, n, c⟩ e) (hv : Hid (¬ Vex e)) :
    Calls Try.prog 13 #[xe k s m u A n c] w fun x w' => (∃ A c, x = .returned (.slice A 0 c)) ∧ Below w.heap.size w w' :=
  (atoms8_nil k s m u A n c w hT hv).mono fun _ _ h => ⟨⟨none, 0, h.1⟩, h.2⟩
end Go.Proofs.Ytecipjjnbikheaa
