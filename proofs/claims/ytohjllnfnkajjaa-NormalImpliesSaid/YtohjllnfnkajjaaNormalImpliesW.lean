/- NormalImplies walked. -/
import Derived.Test.YtohjllnfnkajjaaQ11
namespace Go.Proofs.Ytohjllnfnkajjaa
open Go.RowKit
set_option linter.unusedVariables false
set_option linter.unusedSimpArgs false
/-- The world behind the boxes of two expressions. -/
abbrev BE2 (w : World) (k : Int) (s : ByteArray) (m u : Int) (A : Option Addr) (n c : Nat) (k' : Int) (s' : ByteArray) (m' u' : Int) (A' : Option Addr) (n' c' : Nat) : World := (BE w k s m u A n c).alloc (.cells #[.int .i64 k', .string s', .int .i64 m', .int .i64 u', .slice A' n' c'] 28)
set_option maxHeartbeats 8000000 in
set_option maxRecDepth 20000 in
theorem NormalImplies_walk (k0 : Int) (s0 : ByteArray) (m0 u0 : Int) (A0 : Option Addr) (n0 c0 : Nat) (e0 : Ex) (k1 : Int) (s1 : ByteArray) (m1 u1 : Int) (A1 : Option Addr) (n1 c1 : Nat) (e1 : Ex) (w : World) (T0 : TIn (Lo w.heap.size) w ⟨k0, s0, m0, u0, A0, n0, c0⟩ e0) (T1 : TIn (Lo w.heap.size) w ⟨k1, s1, m1, u1, A1, n1, c1⟩ e1) :
    Calls Try.prog 6 #[xe k0 s0 m0 u0 A0 n0 c0, xe k1 s1 m1 u1 A1 n1 c1] w fun x w' => x = .returned (.bool true) ∧ Below w.heap.size w w' := by
  obtain ⟨b, hb⟩ : ∃ b, w.heap.size + 1 = b := ⟨_, rfl⟩
  have hB : Hid (∀ W, Below (BE2 w k0 s0 m0 u0 A0 n0 c0 k1 s1 m1 u1 A1 n1 c1).heap.size (BE2 w k0 s0 m0 u0 A0 n0 c0 k1 s1 m1 u1 A1 n1 c1) W → Below w.heap.size w W) := Lib.hid (fun W hW => nx (nxA (newB w _) _) hW)
  have hS : Hid (∀ W, Below (BE2 w k0 s0 m0 u0 A0 n0 c0 k1 s1 m1 u1 A1 n1 c1).heap.size (BE2 w k0 s0 m0 u0 A0 n0 c0 k1 s1 m1 u1 A1 n1 c1) W → S5 W w.heap.size k0 s0 m0 u0 A0 n0 c0 ∧ S5 W (w.heap.size + 1) k1 s1 m1 u1 A1 n1 c1) := Lib.hid (fun W hW => ⟨(((Blk.new w [.int .i64 k0, .string s0, .int .i64 m0, .int .i64 u0, .slice A0 n0 c0] 28 rfl).grow _).up hW (by simp [BE]; omega)).s5, ((Blk.new (BE w k0 s0 m0 u0 A0 n0 c0) [.int .i64 k1, .string s1, .int .i64 m1, .int .i64 u1, .slice A1 n1 c1] 28 (g := w.heap.size + 1) (by simp [BE])).up hW (by simp [BE])).s5⟩)
  have hTT : Hid (∀ W, Below (BE2 w k0 s0 m0 u0 A0 n0 c0 k1 s1 m1 u1 A1 n1 c1).heap.size (BE2 w k0 s0 m0 u0 A0 n0 c0 k1 s1 m1 u1 A1 n1 c1) W → TIn (Lo W.heap.size) W ⟨k0, s0, m0, u0, A0, n0, c0⟩ e0 ∧ TIn (Lo W.heap.size) W ⟨k1, s1, m1, u1, A1, n1, c1⟩ e1) := Lib.hid (fun W hW => ⟨T0.up (hB.out W hW), T1.up (hB.out W hW)⟩)
  obtain ⟨r, hr⟩ : ∃ r, Hid (impB e0 e1 = r) := ⟨_, Lib.hid rfl⟩
  obtain ⟨q, hq⟩ : ∃ q, Hid ((impB e0 e1 && impB e1 e0) = q) := ⟨_, Lib.hid rfl⟩
  have hrr : (r == r) = true := by simp
  have hqq : (q == q) = true := by simp
  clear T0 T1 hb
  go_enter Try.func6, Try.ntmps6
  go_wp2
  go_region_held3 (fun W => Below (BE2 w k0 s0 m0 u0 A0 n0 c0 k1 s1 m1 u1 A1 n1 c1).heap.size (BE2 w k0 s0 m0 u0 A0 n0 c0 k1 s1 m1 u1 A1 n1 c1) W ∧ S5 W w.heap.size k0 s0 m0 u0 A0 n0 c0 ∧ S5 W (w.heap.size + 1) k1 s1 m1 u1 A1 n1 c1)
  (first
    | exact ⟨Below.refl _ _, hS.out _ (Below.refl _ _)⟩
    | exact ⟨bdD (Below.refl _ _), hS.out _ (bdD (Below.refl _ _))⟩
    | (go_split_ands; exact ⟨nx (by assumption) hb1, hS.out _ (nx (by assumption) hb1)⟩))
  (first
    | (go_at_call 10; (with_reducible refine (awake9_any _).mono ?_); rintro x W1 ⟨rfl, hb1⟩)
    | (go_at_call 24; go_split_ands; (with_reducible refine (pimp_is k0 s0 m0 u0 A0 n0 c0 k1 s1 m1 u1 A1 n1 c1 _ (hTT.out _ ?_).1 (hTT.out _ ?_).2 hr).mono ?_); (· assumption); (· assumption); rintro x W1 ⟨rfl, hb1⟩)
    | (go_at_call 25; go_split_ands; (with_reducible refine (rimp_is k0 s0 m0 u0 A0 n0 c0 k1 s1 m1 u1 A1 n1 c1 _ (hTT.out _ ?_).1 (hTT.out _ ?_).2 hr).mono ?_); (· assumption); (· assumption); rintro x W1 ⟨rfl, hb1⟩)
    | (go_at_call 26; go_split_ands; (with_reducible refine (peqv_is k0 s0 m0 u0 A0 n0 c0 k1 s1 m1 u1 A1 n1 c1 _ (hTT.out _ ?_).1 (hTT.out _ ?_).2 hq).mono ?_); (· assumption); (· assumption); rintro x W1 ⟨rfl, hb1⟩)
    | (go_at_call 27; go_split_ands; (with_reducible refine (reqv_is k0 s0 m0 u0 A0 n0 c0 k1 s1 m1 u1 A1 n1 c1 _ (hTT.out _ ?_).1 (hTT.out _ ?_).2 hq).mono ?_); (· assumption); (· assumption); rintro x W1 ⟨rfl, hb1⟩))
  all_goals (go_wp2; go_ret; go_split_ands; exact ⟨by simp, hB.out _ (by assumption)⟩)
end Go.Proofs.Ytohjllnfnkajjaa
