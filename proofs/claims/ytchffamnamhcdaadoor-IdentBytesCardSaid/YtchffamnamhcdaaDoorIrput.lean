/- Contracts that IdentBytes takes: the reference's PutProc, bytes.Equal with named lengths, Proc by its own bytes. -/
import Derived.Test.YtchffamnamhcdaaDoorIput
import Derived.Test.YtchffamnamhcdaaDoorIdentReadsW
namespace Go.Proofs.YtchffamnamhcdaaDoor
set_option linter.unusedVariables false
open Go.RowKit

theorem equal_ln (A B : Option Addr) (n m c d : Nat) (xs ys : List Int) (w : World) (h1 : Rd w A xs) (h2 : Rd w B ys) (hx : Byt xs) (hy : Byt ys) (hn : Hid (xs.length = n)) (hm : Hid (ys.length = m)) {r : Bool} (hr : Hid (decide (xs = ys) = r)) :
    Calls Tryd.prog 31 #[.slice A n c, .slice B m d] w fun e w' => e = .returned (.bool r) ∧ w = w' := by
  have hn' := hn.out
  have hm' := hm.out
  subst hn'
  subst hm'
  rw [← hr.out]
  exact equal_any A B c d xs ys w h1 h2 hx hy
theorem eqSelf (xs : List Int) : Hid (decide (xs = xs) = true) := decide_eq_true rfl
theorem app_ln {w : World} {ops : Array Oper} {rest : List Oper} {o : Oper} {a : Act} {Q : Exit → Act → World → Prop} (hgd : Region.wanted o (yielded ops a.tmps) = true) (s y : Operand)
    (ho : o.op = .call { callee := .builtin .append, args := #[s, y], argTypes := #[41, 41] })
    (base : Nat) (V : Value) (xs : List Int) (A : Option Addr) (ys : List Int) (m c : Nat) (hm : Hid (ys.length = m)) (hv : a.eval s = V) (hx : a.eval y = .slice A m c)
    (hd : DstB w base V xs) (hne : OwnB w base V xs ∨ 0 < m) (hs : Rd w A ys) (hlen : xs.length + m ≤ 225179981368000) (hbase : base ≤ w.heap.size)
    (h : ∀ V' w', OwnB w' base V' (xs ++ ys) → Below base w w' → (OwnB w base V xs → w.grownBy w' V.ownBlock) → (V'.ownBlock = V.ownBlock ∨ V'.ownBlock = some w.heap.size) → wpList Tryd.prog ops Q rest (a.put o.dst V') w') :
    wpList Tryd.prog ops Q (o :: rest) a w := by
  have hm' := hm.out
  subst hm'
  exact app_bytes hgd s y ho base V xs A ys c hv hx hd hne hs hlen hbase h

theorem keepQ {w W : World} {T : TypeId} {a b c : Value} (h : Below (w.alloc (.cells #[a, b, c] T)).heap.size (w.alloc (.cells #[a, b, c] T)) W) :
    Below (w.alloc (.cells #[a, b, c] T)).heap.size (w.alloc (.cells #[a, b, c] T)) W ∧ C3 W w.heap.size a b c := ⟨h, box3 h⟩
theorem refPut_K {w0 W : World} (hb : Below w0.heap.size w0 W) (A : Option Addr) (m c : Nat) (xs : List Int) (v : Int) (HK : Hid (∀ W, Below w0.heap.size w0 W → Rd W A xs)) (hm : Hid (xs.length = m)) (hl : Hid (m ≤ 150000000000000)) (hv0 : 0 ≤ v) (hv1 : v < 1000) (hc : m ≤ c) {n : Nat} (hn : Hid ((xs ++ vint v).length = n)) :
    Calls Tryd.prog 56 #[.slice A m c, .int .u64 v] W (GivesR W (xs ++ vint v) n) := refPut_rd A m c xs v W (HK.out W hb) hm hl hv0 hv1 hn

set_option maxHeartbeats 1000000 in
set_option maxRecDepth 8000 in
theorem refPutProc_yes (A : Option Addr) (m c : Nat) (xs : List Int) (a b d : Int) (w : World) (h : Rd w A xs) (hm : Hid (xs.length = m)) (hl : Hid (m ≤ 140737488351232)) (hc : m ≤ c) (hv : Hid (vpB a b d = true)) {n : Nat} (hn : Hid ((xs ++ procB a b d).length = n)) :
    Calls Tryd.prog 32 #[.slice A m c, .agg #[.int .i64 a, .int .i64 b, .int .i64 d]] w (GivesR w (xs ++ procB a b d) n) := by
  obtain ⟨b1, b2, b3, b4, b5, b6⟩ := vpB_true hv.out
  obtain ⟨n1, k1⟩ : ∃ n1, Hid ((xs ++ vint a).length = n1) := ⟨_, rfl⟩
  obtain ⟨n2, k2⟩ : ∃ n2, Hid ((xs ++ vint a ++ vint b).length = n2) := ⟨_, rfl⟩
  obtain ⟨n3, k3⟩ : ∃ n3, Hid ((xs ++ vint a ++ vint b ++ vint d).length = n3) := ⟨_, rfl⟩
  have e3 : Hid (n3 = n ∧ xs ++ vint a ++ vint b ++ vint d = xs ++ procB a b d) := by
    have e0 : xs ++ vint a ++ vint b ++ vint d = xs ++ procB a b d := by simp [procB, List.append_assoc]
    exact ⟨by rw [← k3.out, ← hn.out, e0], e0⟩
  have l0 : Hid (m ≤ 150000000000000) := by have := hl.out; show _ ≤ _; omega
  have l1 : Hid (n1 ≤ 150000000000000) := by have := hl.out; have := vint_len a; have := k1.out; have := hm.out; show _ ≤ _; rw [List.length_append] at *; omega
  have l2 : Hid (n2 ≤ 150000000000000) := by have := hl.out; have := vint_len a; have := vint_len b; have := hm.out; have h2 := k2.out; show _ ≤ _; rw [List.length_append, List.length_append] at h2; omega
  have g0 : Below w.heap.size w (w.alloc (.cells #[.int .i64 a, .int .i64 b, .int .i64 d] 23)) := newB _ _
  have HK : Hid (∀ W, Below (w.alloc (.cells #[.int .i64 a, .int .i64 b, .int .i64 d] 23)).heap.size (w.alloc (.cells #[.int .i64 a, .int .i64 b, .int .i64 d] 23)) W → Rd W A xs) := fun W hW => h.below (nx g0 hW)
  clear h
  have q1 : IntKind.u64.wrap a = a := by rw [IntKind.wrap_u64]; omega
  have q2 : IntKind.u64.wrap b = b := by rw [IntKind.wrap_u64]; omega
  have q3 : IntKind.u64.wrap d = d := by rw [IntKind.wrap_u64]; omega
  go_enter Tryd.func32, Tryd.ntmps32
  go_wp2_with (go_at_call 16; refine (refValid_b _ _ _ _ hv).mono ?_; rintro e W1 ⟨rfl, hg1⟩)
  go_region_held3 (fun W => Below (w.alloc (.cells #[.int .i64 a, .int .i64 b, .int .i64 d] 23)).heap.size (w.alloc (.cells #[.int .i64 a, .int .i64 b, .int .i64 d] 23)) W ∧ C3 W w.heap.size (.int .i64 a) (.int .i64 b) (.int .i64 d))
    (first
      | exact keepQ hg1
      | exact keepQ hg1.drew
      | (go_split_ands; exact keepQ (nx (by assumption) hg4))
      | (go_split_ands; exact keepQ (nx (by assumption) hg3))
      | (go_split_ands; exact keepQ (nx (by assumption) hg2)))
    (first
      | (go_at_call 56; go_split_ands; (with_reducible refine (refPut_K ?_ A m c xs a HK hm l0 b1 (by omega) hc k1).mono ?_); (· assumption); rintro e W2 ⟨B2, c2, rfl, hc2, hm2, hr2, hg2⟩)
      | (go_at_call 56; go_split_ands; (with_reducible refine (refPut_rd _ _ _ _ b _ hr2 k1 l1 (by omega) (by omega) k2).mono ?_); rintro e W3 ⟨B3, c3, rfl, hc3, hm3, hr3, hg3⟩)
      | (go_at_call 56; go_split_ands; (with_reducible refine (refPut_rd _ _ _ _ d _ hr3 k2 l2 (by omega) (by omega) k3).mono ?_); rintro e W4 ⟨B4, c4, rfl, hc4, hm4, hr4, hg4⟩))
  all_goals (go_wp2; go_ret; go_split_ands; have e3' := e3.out; rw [e3'.1] at hc4 ⊢; rw [e3'.2] at hr4; exact ⟨B4, c4, rfl, hc4, hm4, hr4, nx g0 (by assumption)⟩)

/-- What Proc reads behind the bytes of a valid process. -/
theorem readP_own {a b d : Int} (hv : vpB a b d = true) (tail : List Int) : readP (procB a b d ++ tail) = (a, b, d, ((procB a b d).length : Int), 0) := by
  obtain ⟨b1, b2, b3, b4, b5, b6⟩ := vpB_true hv
  have u1 : uintS (procB a b d ++ tail) = (a, ((vint a).length : Int), 0) := by
    rw [procB, List.append_assoc, List.append_assoc]
    exact uintS_put a _ (by omega) (by omega)
  have u2 : uintS ((procB a b d ++ tail).drop (vint a).length) = (b, ((vint b).length : Int), 0) := by
    rw [procB, List.append_assoc, List.append_assoc, List.drop_left]
    exact uintS_put b _ (by omega) (by omega)
  have u3 : uintS ((procB a b d ++ tail).drop ((vint a).length + (vint b).length)) = (d, ((vint d).length : Int), 0) := by
    rw [procB, List.append_assoc, List.append_assoc, ← List.drop_drop, List.drop_left, List.drop_left]
    exact uintS_put d _ (by omega) (by omega)
  unfold readP
  simp only [u1, u2, u3, Int.toNat_natCast, hv]
  simp [procB, Int.add_assoc]
end Go.Proofs.YtchffamnamhcdaaDoor
