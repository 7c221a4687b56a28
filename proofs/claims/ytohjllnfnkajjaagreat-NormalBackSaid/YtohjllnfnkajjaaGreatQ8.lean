/- Contracts of the reference: Class, SameBools. Contracts of the program's package formula: Holds, Hopeless. Contracts of the program: minimalSets, Minimal, Blocking. -/
import Derived.Test.YtohjllnfnkajjaaGreatFrq
import Derived.Test.YtohjllnfnkajjaaGreatFpt
import Derived.Test.YtohjllnfnkajjaaGreatQ2
import Derived.Deep.RegionHeld3
import Derived.Test.YtohjllnfnkajjaaGreatQ4
import Derived.Test.YtohjllnfnkajjaaGreatQ3
import Derived.Test.YtohjllnfnkajjaaGreatQ7
namespace Go.Proofs.YtohjllnfnkajjaaGreat
open Go.RowKit
set_option linter.unusedVariables false
set_option linter.unusedSimpArgs false

/-- The expression's own box, and two sets under way. -/
structure F2 (w : World) (g h : Nat) (X Y : List Bool) (wr : World) (k : Int) (s : ByteArray) (m u : Int) (A : Option Addr) (n c : Nat) : Prop where
  b1 : Blk wr g (bvs X)
  b2 : Blk wr h (bvs Y)
  bel : Below w.heap.size w wr
  box : Blk wr w.heap.size [.int .i64 k, .string s, .int .i64 m, .int .i64 u, .slice A n c]
  lg : w.heap.size < g
  lh : w.heap.size < h
  ne : g ≠ h
theorem F2.of {w wr wx : World} {g h : Nat} {X Y : List Bool} {k : Int} {s : ByteArray} {m u : Int} {A : Option Addr} {n c : Nat} (z : F2 w g h X Y wr k s m u A n c) (hb : Below wr.heap.size wr wx) : F2 w g h X Y wx k s m u A n c :=
  ⟨z.b1.up hb z.b1.lt, z.b2.up hb z.b2.lt, nx z.bel hb, z.box.up hb z.box.lt, z.lg, z.lh, z.ne⟩
theorem F2.put {w wr : World} {g h : Nat} {X Y : List Bool} {k : Int} {s : ByteArray} {m u : Int} {A : Option Addr} {n c : Nat} (z : F2 w g h X Y wr k s m u A n c) (i : Nat) (v v' : Bool) :
    F2 w g h (X.set i v) (Y.set i v') ((wr.setCell ⟨g, i, none⟩ (.bool v)).setCell ⟨h, i, none⟩ (.bool v')) k s m u A n c :=
  ⟨(z.b1.bset i v).of (block_set _ _ _ z.ne), Blk.bset (z.b2.of (block_set _ _ _ z.ne.symm)) i v', (z.bel.setCell (p := ⟨g, i, none⟩) (Nat.le_of_lt z.lg) _).setCell (p := ⟨h, i, none⟩) (Nat.le_of_lt z.lh) _, (z.box.of (block_set _ _ _ (Nat.ne_of_lt z.lg))).of (block_set _ _ _ (Nat.ne_of_lt z.lh)), z.lg, z.lh, z.ne⟩
theorem F2.swap {w wr : World} {g h : Nat} {X Y : List Bool} {k : Int} {s : ByteArray} {m u : Int} {A : Option Addr} {n c : Nat} (z : F2 w g h X Y wr k s m u A n c) : F2 w h g Y X wr k s m u A n c := ⟨z.b2, z.b1, z.bel, z.box, z.lh, z.lg, z.ne.symm⟩
theorem F2.new {w wr : World} {k : Int} {s : ByteArray} {m u : Int} {A : Option Addr} {n c : Nat} (hB : Below w.heap.size w wr) (hK : Blk wr w.heap.size [.int .i64 k, .string s, .int .i64 m, .int .i64 u, .slice A n c]) (X Y : List Bool) :
    F2 w wr.heap.size (wr.heap.size + 1) X Y ((wr.alloc (.cells (bvs X).toArray 4)).alloc (.cells (bvs Y).toArray 4)).drew k s m u A n c := by
  have hl := hK.lt
  have h1 := (Blk.new wr (bvs X) 4 rfl).grow (.cells (bvs Y).toArray 4)
  have h2 := Blk.new (wr.alloc (.cells (bvs X).toArray 4)) (bvs Y) 4 (g := wr.heap.size + 1) (by simp)
  exact ⟨h1.of rfl, h2.of rfl, nx hB (bdD (nxA (newB wr _) _)), ((hK.grow _).grow _).of rfl, hl, by omega, by omega⟩
end Go.Proofs.YtohjllnfnkajjaaGreat

namespace Go.Proofs.YtohjllnfnkajjaaGreat
open Go.RowKit
set_option linter.unusedVariables false
set_option linter.unusedSimpArgs false

/-- The box of an expression, cell by cell. -/
abbrev X5 (W : World) (b : Nat) (k : Int) (s : ByteArray) (m u : Int) (A : Option Addr) (n c : Nat) : Prop :=
  W.cell? ⟨b, 0, none⟩ = some (.int .i64 k) ∧ W.cell? ⟨b, 1, none⟩ = some (.string s) ∧ W.cell? ⟨b, 2, none⟩ = some (.int .i64 m) ∧ W.cell? ⟨b, 3, none⟩ = some (.int .i64 u) ∧ W.cell? ⟨b, 4, none⟩ = some (.slice A n c)
theorem Blk.x5 {W : World} {b : Nat} {k : Int} {s : ByteArray} {m u : Int} {A : Option Addr} {n c : Nat} (h : Blk W b [.int .i64 k, .string s, .int .i64 m, .int .i64 u, .slice A n c]) : X5 W b k s m u A n c :=
  ⟨h.cell 0 rfl, h.cell 1 rfl, h.cell 2 rfl, h.cell 3 rfl, h.cell 4 rfl⟩

set_option maxHeartbeats 4000000 in
set_option maxRecDepth 20000 in
theorem holds8_yes {e : Ex} {L : List A3} {S : List Bool} (k : Int) (s : ByteArray) (m u : Int) (A : Option Addr) (n c : Nat) (B : Option Addr) (q cq : Nat) (w : World) (hT : TIn (Lo w.heap.size) w ⟨k, s, m, u, A, n, c⟩ e) (hS : SI w S B q) (hL : Hid (VL e L)) {r : Bool} (hr : Hid (e.hld L S = r)) :
    Calls Tryz.prog 38 #[xe k s m u A n c, .slice B q cq] w fun x w' => x = .returned (.bool r) ∧ Below w.heap.size w w' := by
  have HT0 := Lib.hid (hT.grow (.cells #[.int .i64 k, .string s, .int .i64 m, .int .i64 u, .slice A n c] 28))
  have HK0 := Lib.hid (Blk.new w [.int .i64 k, .string s, .int .i64 m, .int .i64 u, .slice A n c] 28 rfl)
  have HS := Lib.hid hS
  have HP : Hid (1 ≤ L.length ∧ L.length ≤ 8) := ⟨hL.out.pos, hL.out.n8⟩
  have HTR : Hid (e.tru (hasP (memN L S L.length)) = r) := by show _ = _; rw [← hr.out]; exact has_set hL.out S
  have HTW := Lib.hid hT
  clear hT hS hr
  go_enter Tryz.func38, Tryz.ntmps38
  go_upto_region 2 with (first | (go_at_call 50; refine (atoms8_yes (e := e) (L := L) k s m u A n c _ HT0.out hL).mono ?_; rintro x W1 ⟨⟨A1, n1, c1, rfl, hn1, hq1⟩, hb1⟩; have HK1 := Lib.hid (HK0.out.up hb1 (by simp)); have HB1 := Lib.hid (dn1 hb1); have HQ := Lib.hid hq1; have HN1 := Lib.hid hn1; clear hb1 hn1 hq1))
  have hn8 : n1 ≤ 8 ∧ 1 ≤ n1 := by have := HP.out; have := HN1.out; omega
  have h0 : decide (0 < n1) = true := decide_eq_true (by omega)
  have HNL : Hid (L.length = n1) := HN1.out
  have HTR2 : Hid (e.tru (hasP (memN L S n1)) = r) := by rw [← HN1.out]; exact HTR
  have HALL : Hid (∀ W, Below W1.heap.size W1 W → Below W1.heap.size W1 W ∧ X5 W w.heap.size k s m u A n c) := Lib.hid (fun W h => ⟨h, (HK1.out.up h HK1.out.lt).x5⟩)
  have HALL2 : Hid (∀ W, Below W1.heap.size W1 W → QRd W A1 L ∧ SI W S B q ∧ TIn (Lo W.heap.size) W ⟨k, s, m, u, A, n, c⟩ e) := Lib.hid (fun W h => ⟨HQ.out.below h, HS.out.below (nx HB1.out h), HTW.out.up (nx HB1.out h)⟩)
  go_region_held3 (fun W => Below W1.heap.size W1 W ∧ X5 W w.heap.size k s m u A n c)
    (first
      | exact HALL.out _ (Below.refl _ _)
      | exact HALL.out _ (bdD (Below.refl _ _))
      | (go_split_ands; exact HALL.out _ (nx (by assumption) hb2)))
    (first
      | (go_at_call 58; go_split_ands; (with_reducible refine (members_is L S A1 n1 c1 B q cq _ (HALL2.out _ ?_).1 HNL (by omega) (HALL2.out _ ?_).2.1).mono ?_); (· assumption); (· assumption); rintro x W2 ⟨⟨A2, n2, c2, rfl, hm2⟩, hb2⟩; have HM2 := Lib.hid hm2; have HT2 := Lib.hid (HALL2.out _ (nx (by assumption) hb2)).2.2; clear hm2)
      | (go_at_call 57; (refine (holds_has e _ A2 n2 c2 k s m u A n c _ r HT2 HM2 HTR2).mono ?_); rintro x W2 ⟨rfl, hb2⟩))
  all_goals (go_wp2; go_ret; go_split_ands; exact ⟨by first | rfl | (simp; done), nx HB1.out (by assumption)⟩)
set_option maxHeartbeats 4000000 in
set_option maxRecDepth 20000 in
theorem holds8_no {e : Ex} {S : List Bool} (k : Int) (s : ByteArray) (m u : Int) (A : Option Addr) (n c : Nat) (B : Option Addr) (q cq : Nat) (w : World) (hT : TIn (Lo w.heap.size) w ⟨k, s, m, u, A, n, c⟩ e) (hS : SI w S B q) (hv : Hid (¬ Vex e)) :
    Calls Tryz.prog 38 #[xe k s m u A n c, .slice B q cq] w fun x w' => x = .returned (.bool false) ∧ Below w.heap.size w w' := by
  have HT0 := Lib.hid (hT.grow (.cells #[.int .i64 k, .string s, .int .i64 m, .int .i64 u, .slice A n c] 28))
  clear hT hS
  go_enter Tryz.func38, Tryz.ntmps38
  go_wp2_with (first
    | (go_at_call 50; refine (atoms8_nil (e := e) k s m u A n c _ HT0.out hv).mono ?_; rintro x W1 ⟨rfl, hb1⟩; have HB1 := Lib.hid (dn1 hb1); clear hb1))
  go_quiet (fail)
  go_wp2
  go_ret
  exact ⟨rfl, bdN HB1.out _⟩

set_option maxHeartbeats 4000000 in
set_option maxRecDepth 20000 in
theorem hopeless8_yes {e : Ex} {L : List A3} {S : List Bool} (k : Int) (s : ByteArray) (m u : Int) (A : Option Addr) (n c : Nat) (B : Option Addr) (q cq : Nat) (w : World) (hT : TIn (Lo w.heap.size) w ⟨k, s, m, u, A, n, c⟩ e) (hS : SI w S B q) (hL : Hid (VL e L)) {r : Bool} (hr : Hid (e.hld L (deadS L.length S) = r)) :
    Calls Tryz.prog 33 #[xe k s m u A n c, .slice B q cq] w fun x w' => x = .returned (.bool (!r)) ∧ Below w.heap.size w w' := by
  have HT0 := Lib.hid (hT.grow (.cells #[.int .i64 k, .string s, .int .i64 m, .int .i64 u, .slice A n c] 28))
  have HK0 := Lib.hid (Blk.new w [.int .i64 k, .string s, .int .i64 m, .int .i64 u, .slice A n c] 28 rfl)
  have HS := Lib.hid hS
  have HP : Hid (1 ≤ L.length ∧ L.length ≤ 8) := ⟨hL.out.pos, hL.out.n8⟩
  have HTR : Hid (e.tru (lackP (memN L S L.length)) = r) := by show _ = _; rw [← hr.out]; exact lack_set hL.out S
  have HTW := Lib.hid hT
  clear hT hS hr
  go_enter Tryz.func33, Tryz.ntmps33
  go_upto_region 2 with (first | (go_at_call 50; refine (atoms8_yes (e := e) (L := L) k s m u A n c _ HT0.out hL).mono ?_; rintro x W1 ⟨⟨A1, n1, c1, rfl, hn1, hq1⟩, hb1⟩; have HK1 := Lib.hid (HK0.out.up hb1 (by simp)); have HB1 := Lib.hid (dn1 hb1); have HQ := Lib.hid hq1; have HN1 := Lib.hid hn1; clear hb1 hn1 hq1))
  have hn8 : n1 ≤ 8 ∧ 1 ≤ n1 := by have := HP.out; have := HN1.out; omega
  have h0 : decide (0 < n1) = true := decide_eq_true (by omega)
  have HNL : Hid (L.length = n1) := HN1.out
  have HTR2 : Hid (e.tru (lackP (memN L S n1)) = r) := by rw [← HN1.out]; exact HTR
  have HALL : Hid (∀ W, Below W1.heap.size W1 W → Below W1.heap.size W1 W ∧ X5 W w.heap.size k s m u A n c) := Lib.hid (fun W h => ⟨h, (HK1.out.up h HK1.out.lt).x5⟩)
  have HALL2 : Hid (∀ W, Below W1.heap.size W1 W → QRd W A1 L ∧ SI W S B q ∧ TIn (Lo W.heap.size) W ⟨k, s, m, u, A, n, c⟩ e) := Lib.hid (fun W h => ⟨HQ.out.below h, HS.out.below (nx HB1.out h), HTW.out.up (nx HB1.out h)⟩)
  go_region_held3 (fun W => Below W1.heap.size W1 W ∧ X5 W w.heap.size k s m u A n c)
    (first
      | exact HALL.out _ (Below.refl _ _)
      | exact HALL.out _ (bdD (Below.refl _ _))
      | (go_split_ands; exact HALL.out _ (nx (by assumption) hb2)))
    (first
      | (go_at_call 58; go_split_ands; (with_reducible refine (members_is L S A1 n1 c1 B q cq _ (HALL2.out _ ?_).1 HNL (by omega) (HALL2.out _ ?_).2.1).mono ?_); (· assumption); (· assumption); rintro x W2 ⟨⟨A2, n2, c2, rfl, hm2⟩, hb2⟩; have HM2 := Lib.hid hm2; have HT2 := Lib.hid (HALL2.out _ (nx (by assumption) hb2)).2.2; clear hm2)
      | (go_at_call 57; (refine (holds_lacks e _ A2 n2 c2 k s m u A n c _ r HT2 HM2 HTR2).mono ?_); rintro x W2 ⟨rfl, hb2⟩))
  all_goals (go_wp2; go_ret; go_split_ands; exact ⟨by first | rfl | (simp; done), nx HB1.out (by assumption)⟩)
set_option maxHeartbeats 4000000 in
set_option maxRecDepth 20000 in
theorem hopeless8_no {e : Ex} {S : List Bool} (k : Int) (s : ByteArray) (m u : Int) (A : Option Addr) (n c : Nat) (B : Option Addr) (q cq : Nat) (w : World) (hT : TIn (Lo w.heap.size) w ⟨k, s, m, u, A, n, c⟩ e) (hS : SI w S B q) (hv : Hid (¬ Vex e)) :
    Calls Tryz.prog 33 #[xe k s m u A n c, .slice B q cq] w fun x w' => x = .returned (.bool false) ∧ Below w.heap.size w w' := by
  have HT0 := Lib.hid (hT.grow (.cells #[.int .i64 k, .string s, .int .i64 m, .int .i64 u, .slice A n c] 28))
  clear hT hS
  go_enter Tryz.func33, Tryz.ntmps33
  go_wp2_with (first
    | (go_at_call 50; refine (atoms8_nil (e := e) k s m u A n c _ HT0.out hv).mono ?_; rintro x W1 ⟨rfl, hb1⟩; have HB1 := Lib.hid (dn1 hb1); clear hb1))
  go_quiet (fail)
  go_wp2
  go_ret
  exact ⟨rfl, bdN HB1.out _⟩

end Go.Proofs.YtohjllnfnkajjaaGreat

namespace Go.Proofs.YtohjllnfnkajjaaGreat
open Go.RowKit
set_option linter.unusedVariables false
set_option linter.unusedSimpArgs false

theorem pow_u64 (i : Nat) (hi : i < 10) : IntKind.u64.wrap ((2 : Int) ^ i) = ((2 ^ i : Nat) : Int) := by
  obtain rfl | rfl | rfl | rfl | rfl | rfl | rfl | rfl | rfl | rfl : i = 0 ∨ i = 1 ∨ i = 2 ∨ i = 3 ∨ i = 4 ∨ i = 5 ∨ i = 6 ∨ i = 7 ∨ i = 8 ∨ i = 9 := by omega
  all_goals rfl
theorem SX.app9 {w : World} {base : Nat} {vs : List Value} {X : List (List Nat)} {v : Value} {s : List Nat} (h : SX w base vs X) (k : OwnN w base v s) : SX w base (vs ++ [v]) (X ++ [s]) := by
  have h3 := h.ins k (j := X.length) (Nat.le_refl _)
  have e : insAt X.length vs v = vs ++ [v] := by rw [← h.len, insAt_end]
  rw [insAt_end, e] at h3
  exact h3
set_option maxHeartbeats 8000000 in
set_option maxRecDepth 20000 in
theorem minSets_is (K : Nat) (G : List Bool → Bool) (N : Nat) {e : Ex} (k : Int) (s : ByteArray) (m u : Int) (A : Option Addr) (n c : Nat) (w : World) (hT : TIn (Lo w.heap.size) w ⟨k, s, m, u, A, n, c⟩ e) (hN : N ≤ 8) (hM : Hid (Mono9 G N))
    (eK : ∀ args w, (callFunc K args).run Tryz.prog w = .ok (.enter K args) w)
    (HAt : Hid (∀ W : World, TIn (Lo W.heap.size) W ⟨k, s, m, u, A, n, c⟩ e → Calls Tryz.prog 50 #[xe k s m u A n c] W fun x w' => (∃ A c, x = .returned (.slice A N c)) ∧ Below W.heap.size W w'))
    (HKc : Hid (∀ (B : Option Addr) (W : World) (S : List Bool) (r : Bool), TIn (Lo W.heap.size) W ⟨k, s, m, u, A, n, c⟩ e → SI W S B N → Hid (G S = r) → Calls Tryz.prog K #[xe k s m u A n c, .slice B N N] W fun x w' => x = .returned (.bool r) ∧ Below W.heap.size W w')) :
    Calls Tryz.prog 32 #[xe k s m u A n c, .func (.func K) #[] #[]] w (SetsQ (MinOf G N) w) := by
  have HT0 := Lib.hid (hT.grow (.cells #[.int .i64 k, .string s, .int .i64 m, .int .i64 u, .slice A n c] 28))
  have HK0 := Lib.hid (Blk.new w [.int .i64 k, .string s, .int .i64 m, .int .i64 u, .slice A n c] 28 rfl)
  have HTW := Lib.hid hT
  clear hT
  have e0 := pow_u64 N (by omega)
  have e00 := u64_wrap N (by omega)
  obtain ⟨P, hP⟩ : ∃ P, Hid (2 ^ N = P) := ⟨2 ^ N, Lib.hid rfl⟩
  have hP2 : P ≤ 256 := by have h := hP.out; have h2 := Nat.pow_le_pow_right (n := 2) (by omega) hN; omega
  rw [hP.out] at e0
  go_enter Tryz.func32, Tryz.ntmps32
  go_upto_region 3 with (go_at_call 50; refine (HAt.out _ HT0.out).mono ?_; rintro x W1 ⟨⟨A1, c1, rfl⟩, hb1⟩; have HK1 := Lib.hid (HK0.out.up hb1 (by simp)); have HB1 := Lib.hid (dn1 hb1); clear hb1)
  have HALL : Hid (∀ W, Below W1.heap.size W1 W → Below W1.heap.size W1 W ∧ X5 W w.heap.size k s m u A n c) := Lib.hid (fun W h => ⟨h, (HK1.out.up h HK1.out.lt).x5⟩)
  have HTA : Hid (∀ W, Below W1.heap.size W1 W → TIn (Lo W.heap.size) W ⟨k, s, m, u, A, n, c⟩ e) := Lib.hid (fun W h => HTW.out.up (nx HB1.out h))
  go_wp2_with fail
  go_loopw [6, 16] (fun v i wr => ∃ (x : Nat) (A2 : Option Addr) (n2 c2 : Nat), x ≤ P ∧ i = .int .u64 x ∧ v = .slice A2 n2 c2 ∧ Hid (OwnU wr W1.heap.size (.slice A2 n2 c2) (fnd G N x)) ∧ Hid (Below W1.heap.size W1 wr)) (fun _ i _ => P - (intOf i).toNat)
  case atStart => exact ⟨0, none, 0, 0, by omega, rfl, rfl, OwnU.nil _ _, Below.refl _ _⟩
  case round =>
    obtain ⟨x, A2, n2, c2, hx, rfl, rfl, hO, hB⟩ := hrel
    obtain ⟨WR, hWR⟩ : ∃ W, W = wr := ⟨_, rfl⟩
    subst hWR
    by_cases hlt : (x : Int) < (P : Int)
    · have hx256 : x < 256 := by omega
      have e5 : IntKind.u64.wrap ((x : Int) + 1) = (x : Int) + 1 := by rw [IntKind.wrap_u64]; omega
      have hxP : Hid (x < 2 ^ N) := Lib.hid (by rw [hP.out]; omega)
      obtain ⟨A2', c2', hV2, hcap2, hU⟩ := hO.out.form
      obtain ⟨rfl, rfl, rfl⟩ : A2 = A2' ∧ n2 = (fnd G N x).length ∧ c2 = c2' := by simpa using hV2
      obtain ⟨n2, hn2⟩ : ∃ n2, Hid ((fnd G N x).length = n2) := ⟨_, Lib.hid rfl⟩
      have hn2' : n2 ≤ 1000 := by have h1 := fnd_len G N x; have h2 := hn2.out; omega
      rw [hn2.out] at hO hcap2 ⊢
      have HU := Lib.hid hU
      have HUA : Hid (∀ W, Below W1.heap.size W1 W → Below WR.heap.size WR W → URd W A2 (fnd G N x)) := Lib.hid (fun W _ h => HU.out.below h)
      have HF : Hid (∀ y ∈ fnd G N x, y < 256) := Lib.hid (fun y hy => by have := (fnd_mem.1 hy).1; omega)
      have hsucc := fnd_succ G N x
      have HVX := Lib.hid hcap2
      clear hU hV2 hcap2
      obtain ⟨β, hβ⟩ : ∃ β, Hid (hasIn (fnd G N x) x = β) := ⟨_, Lib.hid rfl⟩
      cases β with
      | true =>
        rw [fnd_skip hM.out hxP.out hβ.out, if_neg (by decide), List.append_nil] at hsucc
        have HO3 : Hid (OwnU WR W1.heap.size (.slice A2 n2 c2) (fnd G N (x + 1))) := Lib.hid (by rw [hsucc]; exact hO.out)
        clear hsucc
        go_wp2
        go_quiet ((go_at_call 51; go_loud (exact Calls.quiet_of_same ((containsU_is (fnd G N x) x A2 n2 c2 _ (HU.out.below (below_drewN _ _)) hn2 hn2' hx256 HF hβ).mono fun _ _ ⟨he, hw⟩ => ⟨he, hw⟩))))
        go_wp2
        go_roundw
        case rel => exact ⟨x + 1, A2, n2, c2, by omega, by go_num, rfl, HO3, bdN hB.out _⟩
        case measure => simp [intOf]; omega
      | false =>
        have hmin := fnd_take hN hxP.out hβ.out
        obtain ⟨φ, hφ⟩ : ∃ φ, Hid (G (bitS N x) = φ) := ⟨_, rfl⟩
        rw [hmin, hφ.out] at hsucc
        have HALW : Hid (∀ W, Below WR.heap.size WR W → Below WR.heap.size WR W ∧ X5 W w.heap.size k s m u A n c) := Lib.hid (fun W h => ⟨h, (HALL.out W (nx hB.out h)).2⟩)
        have HAL2 : Hid (∀ W, Below WR.heap.size WR W → URd W A2 (fnd G N x) ∧ TIn (Lo W.heap.size) W ⟨k, s, m, u, A, n, c⟩ e) := Lib.hid (fun W h => ⟨HU.out.below h, HTA.out W (nx hB.out h)⟩)
        clear hmin
        cases φ with
        | false =>
          rw [if_neg (by decide), List.append_nil] at hsucc
          have HO3 : Hid (∀ W, Below WR.heap.size WR W → OwnU W W1.heap.size (.slice A2 n2 c2) (fnd G N (x + 1))) := Lib.hid (fun W h => by rw [hsucc]; exact hO.out.below h)
          clear hsucc
          go_wp2
          go_region_held3 (fun W => Below WR.heap.size WR W ∧ X5 W w.heap.size k s m u A n c)
            (first
              | exact HALW.out _ (Below.refl _ _)
              | exact HALW.out _ (bdD (Below.refl _ _))
              | (go_split_ands; exact HALW.out _ (by assumption))
              | (go_split_ands; exact HALW.out _ HB3.out)
              | (go_split_ands; exact HALW.out _ HB4.out))
            (first
              | (go_at_call 51; go_split_ands; (with_reducible refine (containsU_is (fnd G N x) x A2 n2 c2 _ (HAL2.out _ ?_).1 hn2 hn2' hx256 HF hβ).mono ?_); (· assumption); rintro z W2 ⟨rfl, rfl⟩)
              | (go_at_call 53; go_split_ands; (with_reducible refine (flags_is x N _ hx256 hN).mono ?_); rintro z W3 ⟨⟨g3, rfl, hg3⟩, hb3⟩; have HB3 : Hid (Below WR.heap.size WR W3) := Lib.hid (nx (by assumption) hb3); have HS3 : Hid (SI W3 (bitS N x) (some ⟨g3, 0, none⟩) N) := Lib.hid ⟨bitS_len _ _, hg3.br, by omega⟩; clear hb3 hg3)
              | (go_at_fn K; refine (HKc.out (some ⟨g3, 0, none⟩) _ (bitS N x) _ (HAL2.out _ HB3.out).2 HS3.out hφ).mono ?_; rintro z W4 ⟨rfl, hb4⟩; have HB4 : Hid (Below WR.heap.size WR W4) := Lib.hid (nx HB3.out hb4); clear hb4))
          all_goals (
            go_wp2
            go_roundw
            case rel => exact ⟨x + 1, A2, n2, c2, by omega, by go_num, rfl, HO3.out _ (HB4.out), nx hB.out HB4.out⟩
            case measure => simp [intOf]; omega)
        | true =>
          rw [if_pos rfl] at hsucc
          have HSU := Lib.hid hsucc
          have HOW : Hid (∀ W, Below WR.heap.size WR W → OwnU W W1.heap.size (.slice A2 n2 c2) (fnd G N x)) := Lib.hid (fun W h => hO.out.below h)
          clear hsucc
          go_wp2
          go_region_held3 (fun W => Below WR.heap.size WR W ∧ X5 W w.heap.size k s m u A n c)
            (first
              | exact HALW.out _ (Below.refl _ _)
              | exact HALW.out _ (bdD (Below.refl _ _))
              | (go_split_ands; exact HALW.out _ (by assumption))
              | (go_split_ands; exact HALW.out _ HB3.out)
              | (go_split_ands; exact HALW.out _ HB4.out))
            (first
              | (go_at_call 51; go_split_ands; (with_reducible refine (containsU_is (fnd G N x) x A2 n2 c2 _ (HAL2.out _ ?_).1 hn2 hn2' hx256 HF hβ).mono ?_); (· assumption); rintro z W2 ⟨rfl, rfl⟩)
              | (go_at_call 53; go_split_ands; (with_reducible refine (flags_is x N _ hx256 hN).mono ?_); rintro z W3 ⟨⟨g3, rfl, hg3⟩, hb3⟩; have HB3 : Hid (Below WR.heap.size WR W3) := Lib.hid (nx (by assumption) hb3); have HS3 : Hid (SI W3 (bitS N x) (some ⟨g3, 0, none⟩) N) := Lib.hid ⟨bitS_len _ _, hg3.br, by omega⟩; clear hb3 hg3)
              | (go_at_fn K; refine (HKc.out (some ⟨g3, 0, none⟩) _ (bitS N x) _ (HAL2.out _ HB3.out).2 HS3.out hφ).mono ?_; rintro z W4 ⟨rfl, hb4⟩; have HB4 : Hid (Below WR.heap.size WR W4) := Lib.hid (nx HB3.out hb4); clear hb4))
          all_goals (
            obtain ⟨k2, hk2⟩ : ∃ k2, Hid ((fnd G N x ++ [x]).length = k2) := ⟨_, rfl⟩
            have h1 : Hid ([x].length = 1) := rfl
            have hl2 : Hid ((fnd G N x).length + 1 ≤ 1000000) := by have := hn2.out; show _ ≤ _; omega
            have HB5 : Hid (Below WR.heap.size WR (W4.alloc (.cells #[.int .u64 (x : Int)] 69))) := Lib.hid (nxA HB4.out _)
            have HO5 := Lib.hid (HOW.out _ HB5.out)
            have HW5 : Hid (W1.heap.size ≤ (W4.alloc (.cells #[.int .u64 (x : Int)] 69)).heap.size) := Lib.hid (Nat.le_trans hB.out.size HB5.out.size)
            go_wp2_with (at_builtin; (refine app_bit rfl (.tmp 32) (.tmp 34) rfl W1.heap.size (.slice A2 n2 c2) (fnd G N x) _ [x] 1 1 h1 rfl rfl HO5.out (URd.one_at _ _ _ rfl) hl2 HW5.out ?_); intro V2 w2 ho2 hg2 hn2; obtain ⟨A6, c6, hV2, -⟩ := ho2.form; rw [hk2.out] at hV2; subst hV2; have HO6 : Hid (OwnU w2 W1.heap.size (.slice A6 k2 c6) (fnd G N (x + 1))) := Lib.hid (by rw [HSU.out]; exact ho2); have HB6 := Lib.hid ((nx hB.out HB5.out).trans (gB_own hg2 (fun g hg => (own_lt HO5.out hg).1) (Nat.le_trans hB.out.size HB5.out.size))); clear ho2 hg2 hn2)
            go_roundw
            case rel => exact ⟨x + 1, A6, k2, c6, by omega, by go_num, rfl, HO6, HB6⟩
            case measure => simp [intOf]; omega)
    · have hxe : x = P := by omega
      subst hxe
      obtain ⟨A2', c2', hV2, hcap2, hU⟩ := hO.out.form
      obtain ⟨rfl, rfl, rfl⟩ : A2 = A2' ∧ n2 = (fnd G N x).length ∧ c2 = c2' := by simpa using hV2
      have hlx := fnd_len G N x
      have hf := fun y (hy : y ∈ fnd G N x) => (fnd_mem.1 hy).1
      obtain ⟨F, hF⟩ : ∃ F, Hid (fnd G N x = F) := ⟨_, rfl⟩
      rw [hF.out] at hU hlx hf hO hV2 ⊢
      obtain ⟨n2, hn2⟩ : ∃ n2, Hid (F.length = n2) := ⟨_, Lib.hid rfl⟩
      rw [hn2.out] at hlx ⊢
      have HFB : Hid (∀ y ∈ F, y < 256) := Lib.hid (fun y hy => by have := hf y hy; omega)
      have HU := Lib.hid hU
      have hn2' : n2 ≤ 256 := by omega
      clear hU hf hV2 hcap2 hO hlx
      go_wp2_with fail
      go_loopw [8, 39] (fun v i wz => ∃ (j : Nat) (vs : List Value) (A3 : Option Addr) (n3 c3 : Nat), j ≤ n2 ∧ i = .int .i64 j ∧ v = .slice A3 n3 c3 ∧ Hid (OwnS wz WR.heap.size (.slice A3 n3 c3) vs) ∧ Hid (SX wz WR.heap.size vs ((F.take j).map (bitL N))) ∧ Hid (Below WR.heap.size WR wz)) (fun _ i _ => n2 - (intOf i).toNat)
      case atStart => exact ⟨0, [], none, 0, 0, by omega, rfl, rfl, OwnS.nil _ _, SX.nil _ _, Below.refl _ _⟩
      case round =>
        obtain ⟨j, vs, A3, n3, c3, hj, rfl, rfl, hS, hX, hZ⟩ := hrel
        obtain ⟨WZ, hWZ⟩ : ∃ W, W = wr := ⟨_, rfl⟩
        subst hWZ
        have hvl : Hid (vs.length = j) := Lib.hid (by rw [hX.out.len, List.length_map, List.length_take]; have := hn2.out; omega)
        by_cases hjl : (j : Int) < (n2 : Int)
        · have hjF : j < F.length := by have := hn2.out; omega
          have e6 : IntKind.i64.wrap ((j : Int) + 1) = (j : Int) + 1 := by rw [IntKind.wrap_i64]; omega
          obtain ⟨b, o, y, rfl, hb, hy, x0⟩ := (HU.out.below hZ.out).at_ (i := j) hjF
          have hy256 : y < 256 := HFB.out y (by rw [← hy.out, List.getD_eq_getElem?_getD, List.getElem?_eq_getElem hjF]; exact List.getElem_mem _)
          have hl2 : Hid (vs.length + 1 ≤ 1000000) := Lib.hid (by rw [hvl.out]; omega)
          have hXn : Hid ((F.take (j + 1)).map (bitL N) = (F.take j).map (bitL N) ++ [bitL N y]) := Lib.hid (by rw [take_snocD (d := 0) hjF, hy.out, List.map_append]; rfl)
          have HGE := Lib.hid hZ.out.size
          go_wp2_with (first
            | (go_at_call 54; refine (indices_is y N _ hy256 hN).mono ?_; rintro z W7 ⟨⟨v7, rfl, hv7⟩, hb7⟩; obtain ⟨Av, cv, hA7, hcv, -⟩ := hv7.form; obtain ⟨nv, hnv⟩ : ∃ nv, Hid ((bitL N y).length = nv) := ⟨_, rfl⟩; rw [hnv.out] at hA7; subst hA7; have HN7 : Hid (∀ o, OwnN (W7.alloc o) WR.heap.size (.slice Av nv cv) (bitL N y)) := Lib.hid (fun o => (hv7.below (newB W7 o)).mono HGE.out); have HB7z := Lib.hid hb7; have HB7 := Lib.hid (nx hZ.out hb7); have HO7 : Hid (∀ o, OwnS (W7.alloc o) WR.heap.size (.slice A3 n3 c3) vs) := Lib.hid (fun o => hS.out.below (nxA hb7 o)); have HX7 : Hid (∀ o, SX (W7.alloc o) WR.heap.size vs ((F.take j).map (bitL N))) := Lib.hid (fun o => hX.out.below (nxA hb7 o)); have HW7 := Lib.hid (Nat.le_trans HGE.out hb7.size); clear hb7 hv7 hcv)
            | (at_builtin; (refine app_sl rfl (.tmp 43) (.tmp 47) rfl WR.heap.size (.slice A3 n3 c3) vs W7.heap.size 1 (.slice Av nv cv) rfl rfl (HO7.out _) (by simp) rfl hl2 (Nat.le_trans HW7.out (by simp)) ?_); intro V2 w2 ho2 hg2 hn2q; obtain ⟨g9, c9, hV2, hc9, hbg9, hlt9, -, -⟩ := ho2.own (by simp); rw [show (vs ++ [Value.slice Av nv cv]).length = j + 1 by rw [List.length_append, List.length_singleton, hvl.out]] at hV2; subst hV2; have HO9 : Hid (OwnS w2 WR.heap.size (.slice (some ⟨g9, 0, none⟩) (j + 1) c9) (vs ++ [.slice Av nv cv])) := Lib.hid ho2; have HX9 : Hid (SX w2 WR.heap.size (vs ++ [.slice Av nv cv]) ((F.take (j + 1)).map (bitL N))) := Lib.hid (by rw [hXn.out]; exact ((HX7.out _).grown (HO7.out _) hg2).app9 (OwnN.grown (HO7.out _) (HN7.out _) hg2)); have HB9 := Lib.hid (hZ.out.trans (gB_own (gB_trans (gB_below (nxA HB7z.out _) (Nat.le_refl _)) hg2) (fun g hg => (own_lt hS.out hg).1) hZ.out.size)); clear ho2 hg2 hn2q hc9 hbg9 hlt9))
          go_roundw
          case rel => exact ⟨j + 1, _, _, _, _, by omega, by go_num, rfl, HO9, HX9, HB9⟩
          case measure => simp [intOf]; omega
        · have hje : j = n2 := by omega
          subst hje
          have HX2 : Hid (SX WZ WR.heap.size vs (F.map (bitL N))) := Lib.hid (by have h := hX.out; rw [List.take_of_length_le (by have := hn2.out; omega)] at h; exact h)
          obtain ⟨A3', c3', hV3, hcap3⟩ := hS.out.shape
          obtain ⟨rfl, rfl, rfl⟩ : A3 = A3' ∧ n3 = vs.length ∧ c3 = c3' := by simpa using hV3
          have hFl : Hid (F.length = vs.length) := Lib.hid (by have h := HX2.out.len; rw [List.length_map] at h; exact h.symm)
          have hFP : Hid (F.map (bitL N) = (fnd G N (2 ^ N)).map (bitL N)) := Lib.hid (by rw [hP.out, hF.out])
          have HBW : Hid (Below w.heap.size w WZ) := Lib.hid (nx (nx HB1.out hB.out) hZ.out)
          have HBR : Hid (w.heap.size ≤ WR.heap.size) := Lib.hid (nx HB1.out hB.out).size
          by_cases h0 : vs = []
          · subst h0
            have hF0 : F = [] := List.eq_nil_of_length_eq_zero hFl.out
            have hmn : Hid (MinOf G N []) := Lib.hid (fnd_min (by rw [← hFP.out, hF0]; exact List.Perm.refl _) List.Pairwise.nil)
            clear hF0 hV3 hcap3
            go_wp2_with (go_at_call 55; refine (sort_none A3 c3 _ _).mono ?_; rintro z W9 ⟨rfl, rfl⟩)
            go_ret
            exact ⟨⟨[], A3, c3, rfl, hmn.out, fun hx => absurd rfl hx, Nat.zero_le _⟩, HBW.out⟩
          · obtain ⟨g, cg, hVg, hcg, -, hgl, -, -⟩ := hS.out.own h0
            obtain ⟨rfl, rfl⟩ : A3 = some ⟨g, 0, none⟩ ∧ c3 = cg := by simpa using hVg
            have hso := sort_sets hS.out HX2.out (fun s hs => by obtain ⟨b, _, rfl⟩ := List.mem_map.1 hs; have := bitL_len N b; omega) (by have h1 := hvl.out; omega) h0
            have HSO := Lib.hid hso
            have HCG := Lib.hid hcg
            obtain ⟨n3, hn3⟩ : ∃ n3, Hid (vs.length = n3) := ⟨_, rfl⟩
            rw [hn3.out] at HSO HCG hFl ⊢
            clear hso hV3 hcap3 hVg hcg h0
            go_wp2_with (go_at_call 55; refine HSO.out.mono ?_; rintro z W9 ⟨rfl, X', hp, hs, hr, hb9⟩; have HP9 := Lib.hid hp; have HS9 := Lib.hid hs; have HR9 := Lib.hid hr; have HB9 := Lib.hid hb9; clear hp hs hr hb9)
            go_ret
            have hXl : X'.length = n3 := by rw [HP9.out.length_eq, List.length_map]; exact hFl.out
            exact ⟨⟨X', some ⟨g, 0, none⟩, c3, by rw [hXl]; rfl, fnd_min (by rw [← hFP.out]; exact HP9.out) HS9.out, HR9.out, by rw [hXl]; exact HCG.out⟩, HBW.out.trans (HB9.out.mono HBR.out)⟩
theorem hold_mono9 {e : Ex} {L : List A3} : Mono9 (holdF e L) L.length := fun S T _ _ h hs => hld_mono (L := L) (S := S) (T := T) h e hs
theorem blk_mono9 {e : Ex} {L : List A3} : Mono9 (blkF e L) L.length := fun S T hS hT h hs => by
  unfold blkF at *
  rw [Bool.not_eq_true'] at *
  cases hx : e.hld L (deadS L.length T) with
  | false => rfl
  | true =>
    have h1 := hld_mono (L := L) (S := deadS L.length T) (T := deadS L.length S) (fun i hi => by
      unfold deadS at *
      rw [map_getD] at *
      rw [Bool.and_eq_true] at *
      refine ⟨hi.1, ?_⟩
      rw [Bool.not_eq_true']
      cases hy : S.getD i false with
      | false => rfl
      | true => have := hi.2; rw [h i hy] at this; cases this) e hx
    rw [h1] at hs
    cases hs
theorem empty_min {X : List (List Nat)} (h : MinOf (fun _ => false) 0 X) : X = [] := by
  rcases X with _ | ⟨s, r⟩
  · rfl
  · obtain ⟨b, _, h1, _⟩ := (h.2 s).1 (by simp)
    have := (minB_iff.1 h1).1
    cases this
theorem atoms_at {e : Ex} {L : List A3} (hL : VL e L) (k : Int) (s : ByteArray) (m u : Int) (A : Option Addr) (n c : Nat) (W : World) (h : TIn (Lo W.heap.size) W ⟨k, s, m, u, A, n, c⟩ e) :
    Calls Tryz.prog 50 #[xe k s m u A n c] W fun x w' => (∃ A c, x = .returned (.slice A L.length c)) ∧ Below W.heap.size W w' :=
  (atoms8_yes k s m u A n c W h (Lib.hid hL)).mono fun x w' hh => by
    obtain ⟨⟨A1, n1, c1, h1, h2, _⟩, h4⟩ := hh
    exact ⟨⟨A1, c1, by rw [h1, h2]⟩, h4⟩
theorem atoms_no {e : Ex} (hv : ¬ Vex e) (k : Int) (s : ByteArray) (m u : Int) (A : Option Addr) (n c : Nat) (W : World) (h : TIn (Lo W.heap.size) W ⟨k, s, m, u, A, n, c⟩ e) :
    Calls Tryz.prog 50 #[xe k s m u A n c] W fun x w' => (∃ A c, x = .returned (.slice A 0 c)) ∧ Below W.heap.size W w' :=
  (atoms8_nil k s m u A n c W h (Lib.hid hv)).mono fun x w' hh => ⟨⟨none, 0, hh.1⟩, hh.2⟩
/-- minimalSets of whatever expression, by what the function that it is given answers. -/
theorem minSets_any (K : Nat) (F : Ex → List A3 → List Bool → Bool) {e : Ex} (k : Int) (s : ByteArray) (m u : Int) (A : Option Addr) (n c : Nat) (w : World) (hT : TIn (Lo w.heap.size) w ⟨k, s, m, u, A, n, c⟩ e)
    (eK : ∀ args w, (callFunc K args).run Tryz.prog w = .ok (.enter K args) w) (hM : ∀ L, Mono9 (F e L) L.length)
    (hyes : ∀ (L : List A3) (B : Option Addr) (q cq : Nat) (W : World) (S : List Bool) (r : Bool), TIn (Lo W.heap.size) W ⟨k, s, m, u, A, n, c⟩ e → SI W S B q → Hid (VL e L) → Hid (F e L S = r) → Calls Tryz.prog K #[xe k s m u A n c, .slice B q cq] W fun x w' => x = .returned (.bool r) ∧ Below W.heap.size W w')
    (hno : ∀ (B : Option Addr) (q cq : Nat) (W : World) (S : List Bool), TIn (Lo W.heap.size) W ⟨k, s, m, u, A, n, c⟩ e → SI W S B q → Hid (¬ Vex e) → Calls Tryz.prog K #[xe k s m u A n c, .slice B q cq] W fun x w' => x = .returned (.bool false) ∧ Below W.heap.size W w') :
    Calls Tryz.prog 32 #[xe k s m u A n c, .func (.func K) #[] #[]] w (SetsQ (MnR F e) w) := by
  by_cases hv : Vex e
  · obtain ⟨L, hL⟩ := VL.ex9 hv
    refine (minSets_is K (F e L) L.length k s m u A n c w hT hL.n8 (Lib.hid (hM L)) eK (Lib.hid (fun W h => atoms_at hL k s m u A n c W h)) (Lib.hid (fun B W S r h1 h2 h3 => hyes L B L.length L.length W S r h1 h2 (Lib.hid hL) h3))).mono ?_
    rintro x w' ⟨⟨X, A', c', h1, h2, h3, h4⟩, h5⟩
    exact ⟨⟨X, A', c', h1, .inl ⟨L, hL, h2⟩, h3, h4⟩, h5⟩
  · refine (minSets_is K (fun _ => false) 0 k s m u A n c w hT (by omega) (Lib.hid (fun S T _ _ _ h => h)) eK (Lib.hid (fun W h => atoms_no hv k s m u A n c W h)) (Lib.hid (fun B W S r h1 h2 h3 => by
      have h3' := h3.out
      subst h3'
      exact hno B 0 0 W S h1 h2 (Lib.hid hv)))).mono ?_
    rintro x w' ⟨⟨X, A', c', h1, h2, h3, h4⟩, h5⟩
    exact ⟨⟨X, A', c', h1, .inr ⟨hv, empty_min h2⟩, h3, h4⟩, h5⟩
theorem pmin_is {e : Ex} (k : Int) (s : ByteArray) (m u : Int) (A : Option Addr) (n c : Nat) (w : World) (hT : TIn (Lo w.heap.size) w ⟨k, s, m, u, A, n, c⟩ e) :
    Calls Tryz.prog 17 #[xe k s m u A n c] w (SetsQ (MnR holdF e) w) := by
  have HT0 := Lib.hid (hT.grow (.cells #[.int .i64 k, .string s, .int .i64 m, .int .i64 u, .slice A n c] 28))
  have HB0 := Lib.hid (newB w (.cells #[.int .i64 k, .string s, .int .i64 m, .int .i64 u, .slice A n c] 28))
  have eK : ∀ args w, (callFunc 38 args).run Tryz.prog w = .ok (.enter 38 args) w := enters_of Tryz.func38 (by kernel_rfl) rfl
  clear hT
  go_enter Tryz.func17, Tryz.ntmps17
  go_wp2_with (go_at_call 32; refine (minSets_any 38 holdF (e := e) k s m u A n c _ HT0.out eK (fun L => hold_mono9) (fun L B q cq W S r h1 h2 h3 h4 => holds8_yes k s m u A n c B q cq W h1 h2 h3 h4) (fun B q cq W S h1 h2 h3 => holds8_no (S := S) k s m u A n c B q cq W h1 h2 h3)).mono ?_; rintro x W1 ⟨⟨X, A', c', rfl, h2, h3, h4⟩, h5⟩; have H1 := Lib.hid h2; have H3 := Lib.hid h3; have H4 := Lib.hid h4; have H5 := Lib.hid h5; clear h2 h3 h4 h5)
  go_ret
  exact ⟨⟨X, A', c', rfl, H1.out, H3.out, H4.out⟩, nx HB0.out H5.out⟩
theorem pblk_is {e : Ex} (k : Int) (s : ByteArray) (m u : Int) (A : Option Addr) (n c : Nat) (w : World) (hT : TIn (Lo w.heap.size) w ⟨k, s, m, u, A, n, c⟩ e) :
    Calls Tryz.prog 9 #[xe k s m u A n c] w (SetsQ (MnR blkF e) w) := by
  have HT0 := Lib.hid (hT.grow (.cells #[.int .i64 k, .string s, .int .i64 m, .int .i64 u, .slice A n c] 28))
  have HB0 := Lib.hid (newB w (.cells #[.int .i64 k, .string s, .int .i64 m, .int .i64 u, .slice A n c] 28))
  have eK : ∀ args w, (callFunc 33 args).run Tryz.prog w = .ok (.enter 33 args) w := enters_of Tryz.func33 (by kernel_rfl) rfl
  have hyes : ∀ (L : List A3) (B : Option Addr) (q cq : Nat) (W : World) (S : List Bool) (r : Bool), TIn (Lo W.heap.size) W ⟨k, s, m, u, A, n, c⟩ e → SI W S B q → Hid (VL e L) → Hid (blkF e L S = r) → Calls Tryz.prog 33 #[xe k s m u A n c, .slice B q cq] W fun x w' => x = .returned (.bool r) ∧ Below W.heap.size W w' := fun L B q cq W S r h1 h2 h3 h4 => by
    have h := hopeless8_yes (S := S) k s m u A n c B q cq W h1 h2 h3 (r := !r) (Lib.hid (by have h5 := h4.out; unfold blkF at h5; rw [← h5, Bool.not_not]))
    rw [Bool.not_not] at h
    exact h
  have HY := Lib.hid hyes
  clear hT hyes
  go_enter Tryz.func9, Tryz.ntmps9
  go_wp2_with (go_at_call 32; refine (minSets_any 33 blkF (e := e) k s m u A n c _ HT0.out eK (fun L => blk_mono9) HY.out (fun B q cq W S h1 h2 h3 => hopeless8_no (S := S) k s m u A n c B q cq W h1 h2 h3)).mono ?_; rintro x W1 ⟨⟨X, A', c', rfl, h2, h3, h4⟩, h5⟩; have H1 := Lib.hid h2; have H3 := Lib.hid h3; have H4 := Lib.hid h4; have H5 := Lib.hid h5; clear h2 h3 h4 h5)
  go_ret
  exact ⟨⟨X, A', c', rfl, H1.out, H3.out, H4.out⟩, nx HB0.out H5.out⟩
end Go.Proofs.YtohjllnfnkajjaaGreat
