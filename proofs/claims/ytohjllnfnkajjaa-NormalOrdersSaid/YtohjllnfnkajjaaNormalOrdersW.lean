/- NormalOrders walked. -/
import Derived.Test.YtohjllnfnkajjaaQ11
namespace Go.Proofs.Ytohjllnfnkajjaa
open Go.RowKit
set_option linter.unusedVariables false
set_option linter.unusedSimpArgs false
set_option maxHeartbeats 16000000 in
set_option maxRecDepth 20000 in
theorem NormalOrders_walk (A0 : Option Addr) (n0 c0 : Nat) (x0 : List Int) (A1 : Option Addr) (n1 c1 : Nat) (x1 : List Int) (A2 : Option Addr) (n2 c2 : Nat) (x2 : List Int) (w : World) (w0 : InI w A0 n0 c0 x0) (w1 : InI w A1 n1 c1 x1) (w2 : InI w A2 n2 c2 x2) :
    Calls Try.prog 7 #[.slice A0 n0 c0, .slice A1 n1 c1, .slice A2 n2 c2] w fun x w' => x = .returned (.bool true) ∧ Below w.heap.size w w' := by
  have HI0 := Lib.hid w0
  have HI1 := Lib.hid w1
  have HI2 := Lib.hid w2
  obtain ⟨d0, hd0⟩ : ∃ d, Hid (decide ((n0 : Int) ≤ 300) = d) := ⟨_, Lib.hid rfl⟩
  obtain ⟨d1, hd1⟩ : ∃ d, Hid (decide ((n1 : Int) ≤ 300) = d) := ⟨_, Lib.hid rfl⟩
  obtain ⟨d2, hd2⟩ : ∃ d, Hid (decide ((n2 : Int) ≤ 300) = d) := ⟨_, Lib.hid rfl⟩
  have M0 := Lib.hid trivial
  have M1 := Lib.hid trivial
  clear w0 w1 w2
  by_cases hall : d0 = true ∧ d1 = true ∧ d2 = true
  · obtain ⟨rfl, rfl, rfl⟩ := hall
    have h0 : n0 ≤ 300 := by have := of_decide_eq_true hd0.out; omega
    have h1 : n1 ≤ 300 := by have := of_decide_eq_true hd1.out; omega
    have h2 : n2 ≤ 300 := by have := of_decide_eq_true hd2.out; omega
    go_enter Try.func7, Try.ntmps7
    go_upto_region 4 with (first
      | (go_at_call 14; clear M0; (with_reducible refine (light_is A0 n0 c0 _).mono ?_); rintro e W1 ⟨rfl, rfl⟩; rw [hd0.out])
      | (go_at_call 14; clear M1; (with_reducible refine (light_is A1 n1 c1 _).mono ?_); rintro e W1 ⟨rfl, rfl⟩; rw [hd1.out])
      | (go_at_call 14; (with_reducible refine (light_is A2 n2 c2 _).mono ?_); rintro e W1 ⟨rfl, rfl⟩; rw [hd2.out])
      | (go_at_call 15; (with_reducible refine (made_is x0 A0 n0 c0 _ HI0.out h0).mono ?_); rintro x W1 ⟨⟨k3, s3, m3, u3, A3, n3, c3, a, La, rfl, ht, hL0⟩, hb⟩; have HTA := Lib.hid ht; have HB1 := Lib.hid hb; have HLA := Lib.hid hL0; have HJ1 := Lib.hid (HI1.out.below9 hb); have HJ2 := Lib.hid (HI2.out.below9 hb); clear HI0 ht hb hL0)
      | (go_at_call 15; (with_reducible refine (made_is x1 A1 n1 c1 _ HJ1.out h1).mono ?_); rintro x W2 ⟨⟨k4, s4, m4, u4, A4, n4, c4, b, Lb, rfl, ht, hL0⟩, hb⟩; have HTA2 := Lib.hid (HTA.out.up hb); have HTB := Lib.hid ht; have HB2 := Lib.hid (nx HB1.out hb); have HLB := Lib.hid hL0; have HJ3 := Lib.hid (HJ2.out.below9 hb); clear ht hb hL0)
      | (go_at_call 15; (with_reducible refine (made_is x2 A2 n2 c2 _ HJ3.out h2).mono ?_); rintro x W3 ⟨⟨k5, s5, m5, u5, A5, n5, c5, c, Lc, rfl, ht, hL0⟩, hb⟩; have HTA3 := Lib.hid (HTA2.out.up hb); have HTB3 := Lib.hid (HTB.out.up hb); have HTC3 := Lib.hid ht; have HB3 := Lib.hid (nx HB2.out hb); have HLC := Lib.hid hL0; clear ht hb hL0))
    obtain ⟨g3, hg3⟩ : ∃ g, W3.heap.size = g := ⟨_, rfl⟩
    obtain ⟨g4, hg4⟩ : ∃ g, W3.heap.size + 1 = g := ⟨_, rfl⟩
    obtain ⟨g5, hg5⟩ : ∃ g, W3.heap.size + 1 + 1 = g := ⟨_, rfl⟩
    have HBN := new3 W3 (.cells #[.int .i64 k3, .string s3, .int .i64 m3, .int .i64 u3, .slice A3 n3 c3] 28) (.cells #[.int .i64 k4, .string s4, .int .i64 m4, .int .i64 u4, .slice A4 n4 c4] 28) (.cells #[.int .i64 k5, .string s5, .int .i64 m5, .int .i64 u5, .slice A5 n5 c5] 28)
    have HK3 := ((Blk.new W3 [.int .i64 k3, .string s3, .int .i64 m3, .int .i64 u3, .slice A3 n3 c3] 28 hg3).grow (.cells #[.int .i64 k4, .string s4, .int .i64 m4, .int .i64 u4, .slice A4 n4 c4] 28)).grow (.cells #[.int .i64 k5, .string s5, .int .i64 m5, .int .i64 u5, .slice A5 n5 c5] 28)
    have HK4 := (Blk.new (W3.alloc (.cells #[.int .i64 k3, .string s3, .int .i64 m3, .int .i64 u3, .slice A3 n3 c3] 28)) [.int .i64 k4, .string s4, .int .i64 m4, .int .i64 u4, .slice A4 n4 c4] 28 (g := g4) (by simp [hg4])).grow (.cells #[.int .i64 k5, .string s5, .int .i64 m5, .int .i64 u5, .slice A5 n5 c5] 28)
    have HK5 := Blk.new ((W3.alloc (.cells #[.int .i64 k3, .string s3, .int .i64 m3, .int .i64 u3, .slice A3 n3 c3] 28)).alloc (.cells #[.int .i64 k4, .string s4, .int .i64 m4, .int .i64 u4, .slice A4 n4 c4] 28)) [.int .i64 k5, .string s5, .int .i64 m5, .int .i64 u5, .slice A5 n5 c5] 28 (g := g5) (by simp [hg5])
    rw [hg5, hg4, hg3]
    generalize ((W3.alloc (.cells #[.int .i64 k3, .string s3, .int .i64 m3, .int .i64 u3, .slice A3 n3 c3] 28)).alloc (.cells #[.int .i64 k4, .string s4, .int .i64 m4, .int .i64 u4, .slice A4 n4 c4] 28)).alloc (.cells #[.int .i64 k5, .string s5, .int .i64 m5, .int .i64 u5, .slice A5 n5 c5] 28) = W4 at HBN HK3 HK4 HK5 ⊢
    have HALL : Hid (∀ W, Below W4.heap.size W4 W → S5 W g3 k3 s3 m3 u3 A3 n3 c3 ∧ S5 W g4 k4 s4 m4 u4 A4 n4 c4 ∧ S5 W g5 k5 s5 m5 u5 A5 n5 c5) := Lib.hid (fun W h => ⟨(HK3.up h HK3.lt).s5, (HK4.up h HK4.lt).s5, (HK5.up h HK5.lt).s5⟩)
    have TA : Hid (∀ W, Below W4.heap.size W4 W → TIn (Lo W.heap.size) W ⟨k3, s3, m3, u3, A3, n3, c3⟩ a) := Lib.hid (fun W h => HTA3.out.up (nx HBN h))
    have TB : Hid (∀ W, Below W4.heap.size W4 W → TIn (Lo W.heap.size) W ⟨k4, s4, m4, u4, A4, n4, c4⟩ b) := Lib.hid (fun W h => HTB3.out.up (nx HBN h))
    have TC : Hid (∀ W, Below W4.heap.size W4 W → TIn (Lo W.heap.size) W ⟨k5, s5, m5, u5, A5, n5, c5⟩ c) := Lib.hid (fun W h => HTC3.out.up (nx HBN h))
    have HB4 := Lib.hid (nx HB3.out HBN)
    have haa : Hid (impB a a = true) := Lib.hid (impB_iff.2 ⟨HLA.out.1, HLA.out.1, Imp.refl _⟩)
    obtain ⟨α, hab⟩ : ∃ α, Hid (impB a b = α) := ⟨_, Lib.hid rfl⟩
    obtain ⟨β, hbc⟩ : ∃ β, Hid (impB b c = β) := ⟨_, Lib.hid rfl⟩
    obtain ⟨γ, hac⟩ : ∃ γ, Hid (impB a c = γ) := ⟨_, Lib.hid rfl⟩
    have hdd : Hid (impB (dual9 b) (dual9 a) = α) := Lib.hid (by rw [dual9_yes HLA.out.1, dual9_yes HLB.out.1, ← impB_dual HLA.out HLB.out, hab.out])
    have htr : α = true → β = true → γ = true := fun h1 h2 => by
      have h3 := impB_iff.1 (hab.out.trans h1)
      have h4 := impB_iff.1 (hbc.out.trans h2)
      rw [← hac.out]
      exact impB_iff.2 ⟨h3.1, h4.2.1, Imp.trans h3.2.2 h4.2.2⟩
    have HTR := Lib.hid htr
    clear htr HK3 HK4 HK5 HBN hg3 hg4 hg5 HTA3 HTB3 HTC3 HTA HTA2 HTB HB1 HB2 HB3 HI1 HI2 HJ1 HJ2 HJ3 h0 h1 h2 hd0 hd1 hd2
    cases α with
    | false =>
      refine wp_region_held_drew (S := fun W => S5 W g3 k3 s3 m3 u3 A3 n3 c3 ∧ S5 W g4 k4 s4 m4 u4 A4 n4 c4 ∧ S5 W g5 k5 s5 m5 u5 A5 n5 c5) (by kernel_rfl) (HALL.out _ (bdD (Below.refl _ _))) (fun hHeld => ?_)
      refine wpAnyH_ready (rs := [0]) (by kernel_rfl) (by simp) ?_
      refine AllReadyH.cons (o := { dst := some 30, op := Op.call { callee := Callee.value (Operand.func 10), args := #[], argTypes := #[] }, type := 4, pos := "law.go:119", after := #[], guard := none }) rfl (fun K hK => ?_) AllReadyH.nil
      go_simp
      (go_at_call 10; refine (awake9_any _).mono ?_; rintro z V1 ⟨rfl, hb1⟩; have HW1 : Hid (Below W4.heap.size W4 V1) := Lib.hid (nx (bdD (Below.refl _ _)) hb1); clear hb1)
      refine hK.out _ _ (HALL.out _ HW1.out) (fun hHeld => ?_)
      clear hK K
      (try simp only [Act.put, List.setIfInBounds_toArray, List.set_cons_zero, List.set_cons_succ])
      refine wpAnyH_take (i := 1) (oi := { dst := some 31, op := Op.move (Operand.tmp 30), type := 4, pos := "law.go:119", after := #[{ on := 0, ground := Ground.data }, { on := 0, ground := Ground.chain }], guard := none }) (v := .bool true) rfl (by kernel_rfl) (by kernel_rfl) (by kernel_rfl) (fun _ _ _ h => h) (Or.inl ⟨by rfl, ?_⟩) (by assumption) ?_
      · intro w hSw; (try dsimp only at hSw); go_split_ands; go_simp
      (try simp only [Act.put, List.setIfInBounds_toArray, List.set_cons_zero, List.set_cons_succ])
      refine wpAnyH_take (i := 2) (oi := { dst := some 32, op := Op.load 28 (Operand.tmp 7), type := 28, pos := "law.go:119", after := #[{ on := 1, ground := Ground.guard }], guard := some (1, true) }) (v := .agg #[.int .i64 k3, .string s3, .int .i64 m3, .int .i64 u3, .slice A3 n3 c3]) rfl (by kernel_rfl) (by kernel_rfl) (by kernel_rfl) (fun _ _ _ h => h) (Or.inl ⟨by rfl, ?_⟩) (by assumption) ?_
      · intro w hSw; (try dsimp only at hSw); go_split_ands; go_simp
      (try simp only [Act.put, List.setIfInBounds_toArray, List.set_cons_zero, List.set_cons_succ])
      refine wpAnyH_take (i := 3) (oi := { dst := some 33, op := Op.load 28 (Operand.tmp 7), type := 28, pos := "law.go:119", after := #[{ on := 1, ground := Ground.guard }], guard := some (1, true) }) (v := .agg #[.int .i64 k3, .string s3, .int .i64 m3, .int .i64 u3, .slice A3 n3 c3]) rfl (by kernel_rfl) (by kernel_rfl) (by kernel_rfl) (fun _ _ _ h => h) (Or.inl ⟨by rfl, ?_⟩) (by assumption) ?_
      · intro w hSw; (try dsimp only at hSw); go_split_ands; go_simp
      (try simp only [Act.put, List.setIfInBounds_toArray, List.set_cons_zero, List.set_cons_succ])
      refine wpAnyH_ready (rs := [4]) (by kernel_rfl) (by simp) ?_
      refine AllReadyH.cons (o := { dst := some 34, op := Op.call { callee := Callee.value (Operand.func 24), args := #[Operand.tmp 32, Operand.tmp 33], argTypes := #[28, 28] }, type := 4, pos := "law.go:119", after := #[{ on := 2, ground := Ground.data }, { on := 3, ground := Ground.data }, { on := 1, ground := Ground.chain }, { on := 1, ground := Ground.guard }], guard := some (1, true) }) rfl (fun K hK => ?_) AllReadyH.nil
      go_simp
      (go_at_call 24; (with_reducible refine (pimp_is k3 s3 m3 u3 A3 n3 c3 k3 s3 m3 u3 A3 n3 c3 _ (TA.out _ HW1.out) (TA.out _ HW1.out) haa).mono ?_); rintro z V2 ⟨rfl, hb1⟩; have HW2 : Hid (Below W4.heap.size W4 V2) := Lib.hid (nx HW1.out hb1); clear hb1)
      refine hK.out _ _ (HALL.out _ HW2.out) (fun hHeld => ?_)
      clear hK K
      (try simp only [Act.put, List.setIfInBounds_toArray, List.set_cons_zero, List.set_cons_succ])
      refine wpAnyH_take (i := 5) (oi := { dst := some 35, op := Op.pick (Operand.tmp 31) (Operand.tmp 34) (Operand.const (Value.bool false)), type := 4, pos := "law.go:119", after := #[{ on := 1, ground := Ground.data }, { on := 4, ground := Ground.data }], guard := none }) (v := .bool true) rfl (by kernel_rfl) (by kernel_rfl) (by kernel_rfl) (fun _ _ _ h => h) (Or.inl ⟨by rfl, ?_⟩) (by assumption) ?_
      · intro w hSw; (try dsimp only at hSw); go_split_ands; go_simp
      (try simp only [Act.put, List.setIfInBounds_toArray, List.set_cons_zero, List.set_cons_succ])
      refine wpAnyH_take (i := 6) (oi := { dst := some 36, op := Op.move (Operand.tmp 35), type := 4, pos := "law.go:119", after := #[{ on := 5, ground := Ground.data }, { on := 4, ground := Ground.chain }], guard := none }) (v := .bool true) rfl (by kernel_rfl) (by kernel_rfl) (by kernel_rfl) (fun _ _ _ h => h) (Or.inl ⟨by rfl, ?_⟩) (by assumption) ?_
      · intro w hSw; (try dsimp only at hSw); go_split_ands; go_simp
      (try simp only [Act.put, List.setIfInBounds_toArray, List.set_cons_zero, List.set_cons_succ])
      refine wpAnyH_take (i := 7) (oi := { dst := some 37, op := Op.load 28 (Operand.tmp 7), type := 28, pos := "law.go:119", after := #[{ on := 6, ground := Ground.guard }], guard := some (6, true) }) (v := .agg #[.int .i64 k3, .string s3, .int .i64 m3, .int .i64 u3, .slice A3 n3 c3]) rfl (by kernel_rfl) (by kernel_rfl) (by kernel_rfl) (fun _ _ _ h => h) (Or.inl ⟨by rfl, ?_⟩) (by assumption) ?_
      · intro w hSw; (try dsimp only at hSw); go_split_ands; go_simp
      (try simp only [Act.put, List.setIfInBounds_toArray, List.set_cons_zero, List.set_cons_succ])
      refine wpAnyH_take (i := 8) (oi := { dst := some 38, op := Op.load 28 (Operand.tmp 8), type := 28, pos := "law.go:119", after := #[{ on := 6, ground := Ground.guard }], guard := some (6, true) }) (v := .agg #[.int .i64 k4, .string s4, .int .i64 m4, .int .i64 u4, .slice A4 n4 c4]) rfl (by kernel_rfl) (by kernel_rfl) (by kernel_rfl) (fun _ _ _ h => h) (Or.inl ⟨by rfl, ?_⟩) (by assumption) ?_
      · intro w hSw; (try dsimp only at hSw); go_split_ands; go_simp
      (try simp only [Act.put, List.setIfInBounds_toArray, List.set_cons_zero, List.set_cons_succ])
      refine wpAnyH_ready (rs := [9]) (by kernel_rfl) (by simp) ?_
      refine AllReadyH.cons (o := { dst := some 39, op := Op.call { callee := Callee.value (Operand.func 24), args := #[Operand.tmp 37, Operand.tmp 38], argTypes := #[28, 28] }, type := 4, pos := "law.go:119", after := #[{ on := 7, ground := Ground.data }, { on := 8, ground := Ground.data }, { on := 6, ground := Ground.chain }, { on := 6, ground := Ground.guard }], guard := some (6, true) }) rfl (fun K hK => ?_) AllReadyH.nil
      go_simp
      (go_at_call 24; (with_reducible refine (pimp_is k3 s3 m3 u3 A3 n3 c3 k4 s4 m4 u4 A4 n4 c4 _ (TA.out _ HW2.out) (TB.out _ HW2.out) hab).mono ?_); rintro z V3 ⟨rfl, hb1⟩; have HW3 : Hid (Below W4.heap.size W4 V3) := Lib.hid (nx HW2.out hb1); clear hb1)
      refine hK.out _ _ (HALL.out _ HW3.out) (fun hHeld => ?_)
      clear hK K
      (try simp only [Act.put, List.setIfInBounds_toArray, List.set_cons_zero, List.set_cons_succ])
      refine wpAnyH_take (i := 10) (oi := { dst := some 40, op := Op.unOp UnOp.not 4 (Operand.tmp 39), type := 4, pos := "law.go:119", after := #[{ on := 9, ground := Ground.data }, { on := 6, ground := Ground.guard }], guard := some (6, true) }) (v := .bool true) rfl (by kernel_rfl) (by kernel_rfl) (by kernel_rfl) (fun _ _ _ h => h) (Or.inl ⟨by rfl, ?_⟩) (by assumption) ?_
      · intro w hSw; (try dsimp only at hSw); go_split_ands; go_simp
      (try simp only [Act.put, List.setIfInBounds_toArray, List.set_cons_zero, List.set_cons_succ])
      refine wpAnyH_take (i := 11) (oi := { dst := some 41, op := Op.move (Operand.tmp 40), type := 4, pos := "law.go:119", after := #[{ on := 10, ground := Ground.data }, { on := 9, ground := Ground.chain }, { on := 6, ground := Ground.guard }], guard := some (6, true) }) (v := .bool true) rfl (by kernel_rfl) (by kernel_rfl) (by kernel_rfl) (fun _ _ _ h => h) (Or.inl ⟨by rfl, ?_⟩) (by assumption) ?_
      · intro w hSw; (try dsimp only at hSw); go_split_ands; go_simp
      (try simp only [Act.put, List.setIfInBounds_toArray, List.set_cons_zero, List.set_cons_succ])
      refine wpAnyH_take (i := 12) (oi := { dst := some 42, op := Op.load 28 (Operand.tmp 8), type := 28, pos := "law.go:119", after := #[{ on := 11, ground := Ground.guard }], guard := some (11, false) }) (v := undef) rfl (by kernel_rfl) (by kernel_rfl) (by kernel_rfl) (fun _ _ _ h => h) (Or.inr ⟨by rfl, rfl⟩) (by assumption) ?_
      (try simp only [Act.put, List.setIfInBounds_toArray, List.set_cons_zero, List.set_cons_succ])
      refine wpAnyH_take (i := 13) (oi := { dst := some 43, op := Op.load 28 (Operand.tmp 9), type := 28, pos := "law.go:119", after := #[{ on := 11, ground := Ground.guard }], guard := some (11, false) }) (v := undef) rfl (by kernel_rfl) (by kernel_rfl) (by kernel_rfl) (fun _ _ _ h => h) (Or.inr ⟨by rfl, rfl⟩) (by assumption) ?_
      (try simp only [Act.put, List.setIfInBounds_toArray, List.set_cons_zero, List.set_cons_succ])
      refine wpAnyH_ready (rs := [14]) (by kernel_rfl) (by simp) ?_
      refine AllReadyH.cons (o := { dst := some 44, op := Op.call { callee := Callee.value (Operand.func 24), args := #[Operand.tmp 42, Operand.tmp 43], argTypes := #[28, 28] }, type := 4, pos := "law.go:119", after := #[{ on := 12, ground := Ground.data }, { on := 13, ground := Ground.data }, { on := 11, ground := Ground.chain }, { on := 11, ground := Ground.guard }], guard := some (11, false) }) rfl (fun K hK => ?_) AllReadyH.nil
      go_simp
      refine hK.out _ _ (HALL.out _ HW3.out) (fun hHeld => ?_)
      clear hK K
      (try simp only [Act.put, List.setIfInBounds_toArray, List.set_cons_zero, List.set_cons_succ])
      refine wpAnyH_take (i := 15) (oi := { dst := some 45, op := Op.unOp UnOp.not 4 (Operand.tmp 44), type := 4, pos := "law.go:119", after := #[{ on := 14, ground := Ground.data }, { on := 11, ground := Ground.guard }], guard := some (11, false) }) (v := undef) rfl (by kernel_rfl) (by kernel_rfl) (by kernel_rfl) (fun _ _ _ h => h) (Or.inr ⟨by rfl, rfl⟩) (by assumption) ?_
      (try simp only [Act.put, List.setIfInBounds_toArray, List.set_cons_zero, List.set_cons_succ])
      refine wpAnyH_take (i := 16) (oi := { dst := some 46, op := Op.pick (Operand.tmp 41) (Operand.const (Value.bool true)) (Operand.tmp 45), type := 4, pos := "law.go:119", after := #[{ on := 11, ground := Ground.data }, { on := 15, ground := Ground.data }, { on := 6, ground := Ground.guard }], guard := some (6, true) }) (v := .bool true) rfl (by kernel_rfl) (by kernel_rfl) (by kernel_rfl) (fun _ _ _ h => h) (Or.inl ⟨by rfl, ?_⟩) (by assumption) ?_
      · intro w hSw; (try dsimp only at hSw); go_split_ands; go_simp
      (try simp only [Act.put, List.setIfInBounds_toArray, List.set_cons_zero, List.set_cons_succ])
      refine wpAnyH_take (i := 17) (oi := { dst := some 47, op := Op.move (Operand.tmp 46), type := 4, pos := "law.go:119", after := #[{ on := 16, ground := Ground.data }, { on := 14, ground := Ground.chain }, { on := 6, ground := Ground.guard }], guard := some (6, true) }) (v := .bool true) rfl (by kernel_rfl) (by kernel_rfl) (by kernel_rfl) (fun _ _ _ h => h) (Or.inl ⟨by rfl, ?_⟩) (by assumption) ?_
      · intro w hSw; (try dsimp only at hSw); go_split_ands; go_simp
      (try simp only [Act.put, List.setIfInBounds_toArray, List.set_cons_zero, List.set_cons_succ])
      refine wpAnyH_take (i := 18) (oi := { dst := some 48, op := Op.load 28 (Operand.tmp 7), type := 28, pos := "law.go:119", after := #[{ on := 17, ground := Ground.guard }], guard := some (17, false) }) (v := undef) rfl (by kernel_rfl) (by kernel_rfl) (by kernel_rfl) (fun _ _ _ h => h) (Or.inr ⟨by rfl, rfl⟩) (by assumption) ?_
      (try simp only [Act.put, List.setIfInBounds_toArray, List.set_cons_zero, List.set_cons_succ])
      refine wpAnyH_take (i := 19) (oi := { dst := some 49, op := Op.load 28 (Operand.tmp 9), type := 28, pos := "law.go:119", after := #[{ on := 17, ground := Ground.guard }], guard := some (17, false) }) (v := undef) rfl (by kernel_rfl) (by kernel_rfl) (by kernel_rfl) (fun _ _ _ h => h) (Or.inr ⟨by rfl, rfl⟩) (by assumption) ?_
      (try simp only [Act.put, List.setIfInBounds_toArray, List.set_cons_zero, List.set_cons_succ])
      refine wpAnyH_ready (rs := [20]) (by kernel_rfl) (by simp) ?_
      refine AllReadyH.cons (o := { dst := some 50, op := Op.call { callee := Callee.value (Operand.func 24), args := #[Operand.tmp 48, Operand.tmp 49], argTypes := #[28, 28] }, type := 4, pos := "law.go:119", after := #[{ on := 18, ground := Ground.data }, { on := 19, ground := Ground.data }, { on := 17, ground := Ground.chain }, { on := 17, ground := Ground.guard }], guard := some (17, false) }) rfl (fun K hK => ?_) AllReadyH.nil
      go_simp
      refine hK.out _ _ (HALL.out _ HW3.out) (fun hHeld => ?_)
      clear hK K
      (try simp only [Act.put, List.setIfInBounds_toArray, List.set_cons_zero, List.set_cons_succ])
      refine wpAnyH_take (i := 21) (oi := { dst := some 51, op := Op.pick (Operand.tmp 47) (Operand.const (Value.bool true)) (Operand.tmp 50), type := 4, pos := "law.go:119", after := #[{ on := 17, ground := Ground.data }, { on := 20, ground := Ground.data }, { on := 6, ground := Ground.guard }], guard := some (6, true) }) (v := .bool true) rfl (by kernel_rfl) (by kernel_rfl) (by kernel_rfl) (fun _ _ _ h => h) (Or.inl ⟨by rfl, ?_⟩) (by assumption) ?_
      · intro w hSw; (try dsimp only at hSw); go_split_ands; go_simp
      (try simp only [Act.put, List.setIfInBounds_toArray, List.set_cons_zero, List.set_cons_succ])
      refine wpAnyH_take (i := 22) (oi := { dst := some 52, op := Op.pick (Operand.tmp 36) (Operand.tmp 51) (Operand.const (Value.bool false)), type := 4, pos := "law.go:119", after := #[{ on := 6, ground := Ground.data }, { on := 21, ground := Ground.data }], guard := none }) (v := .bool true) rfl (by kernel_rfl) (by kernel_rfl) (by kernel_rfl) (fun _ _ _ h => h) (Or.inl ⟨by rfl, ?_⟩) (by assumption) ?_
      · intro w hSw; (try dsimp only at hSw); go_split_ands; go_simp
      (try simp only [Act.put, List.setIfInBounds_toArray, List.set_cons_zero, List.set_cons_succ])
      refine wpAnyH_take (i := 23) (oi := { dst := some 53, op := Op.move (Operand.tmp 52), type := 4, pos := "law.go:119", after := #[{ on := 22, ground := Ground.data }, { on := 20, ground := Ground.chain }], guard := none }) (v := .bool true) rfl (by kernel_rfl) (by kernel_rfl) (by kernel_rfl) (fun _ _ _ h => h) (Or.inl ⟨by rfl, ?_⟩) (by assumption) ?_
      · intro w hSw; (try dsimp only at hSw); go_split_ands; go_simp
      (try simp only [Act.put, List.setIfInBounds_toArray, List.set_cons_zero, List.set_cons_succ])
      refine wpAnyH_take (i := 24) (oi := { dst := some 54, op := Op.load 28 (Operand.tmp 7), type := 28, pos := "law.go:119", after := #[{ on := 23, ground := Ground.guard }], guard := some (23, true) }) (v := .agg #[.int .i64 k3, .string s3, .int .i64 m3, .int .i64 u3, .slice A3 n3 c3]) rfl (by kernel_rfl) (by kernel_rfl) (by kernel_rfl) (fun _ _ _ h => h) (Or.inl ⟨by rfl, ?_⟩) (by assumption) ?_
      · intro w hSw; (try dsimp only at hSw); go_split_ands; go_simp
      (try simp only [Act.put, List.setIfInBounds_toArray, List.set_cons_zero, List.set_cons_succ])
      refine wpAnyH_take (i := 25) (oi := { dst := some 55, op := Op.load 28 (Operand.tmp 8), type := 28, pos := "law.go:119", after := #[{ on := 23, ground := Ground.guard }], guard := some (23, true) }) (v := .agg #[.int .i64 k4, .string s4, .int .i64 m4, .int .i64 u4, .slice A4 n4 c4]) rfl (by kernel_rfl) (by kernel_rfl) (by kernel_rfl) (fun _ _ _ h => h) (Or.inl ⟨by rfl, ?_⟩) (by assumption) ?_
      · intro w hSw; (try dsimp only at hSw); go_split_ands; go_simp
      (try simp only [Act.put, List.setIfInBounds_toArray, List.set_cons_zero, List.set_cons_succ])
      refine wpAnyH_take (i := 27) (oi := { dst := some 57, op := Op.load 28 (Operand.tmp 8), type := 28, pos := "law.go:119", after := #[{ on := 23, ground := Ground.guard }], guard := some (23, true) }) (v := .agg #[.int .i64 k4, .string s4, .int .i64 m4, .int .i64 u4, .slice A4 n4 c4]) rfl (by kernel_rfl) (by kernel_rfl) (by kernel_rfl) (fun _ _ _ h => h) (Or.inl ⟨by rfl, ?_⟩) (by assumption) ?_
      · intro w hSw; (try dsimp only at hSw); go_split_ands; go_simp
      (try simp only [Act.put, List.setIfInBounds_toArray, List.set_cons_zero, List.set_cons_succ])
      refine wpAnyH_take (i := 29) (oi := { dst := some 59, op := Op.load 28 (Operand.tmp 7), type := 28, pos := "law.go:119", after := #[{ on := 23, ground := Ground.guard }], guard := some (23, true) }) (v := .agg #[.int .i64 k3, .string s3, .int .i64 m3, .int .i64 u3, .slice A3 n3 c3]) rfl (by kernel_rfl) (by kernel_rfl) (by kernel_rfl) (fun _ _ _ h => h) (Or.inl ⟨by rfl, ?_⟩) (by assumption) ?_
      · intro w hSw; (try dsimp only at hSw); go_split_ands; go_simp
      (try simp only [Act.put, List.setIfInBounds_toArray, List.set_cons_zero, List.set_cons_succ])
      refine wpAnyH_ready (rs := [26]) (by kernel_rfl) (by simp) ?_
      refine AllReadyH.cons (o := { dst := some 56, op := Op.call { callee := Callee.value (Operand.func 24), args := #[Operand.tmp 54, Operand.tmp 55], argTypes := #[28, 28] }, type := 4, pos := "law.go:119", after := #[{ on := 24, ground := Ground.data }, { on := 25, ground := Ground.data }, { on := 23, ground := Ground.chain }, { on := 23, ground := Ground.guard }], guard := some (23, true) }) rfl (fun K hK => ?_) AllReadyH.nil
      go_simp
      (go_at_call 24; (with_reducible refine (pimp_is k3 s3 m3 u3 A3 n3 c3 k4 s4 m4 u4 A4 n4 c4 _ (TA.out _ HW3.out) (TB.out _ HW3.out) hab).mono ?_); rintro z V4 ⟨rfl, hb1⟩; have HW4 : Hid (Below W4.heap.size W4 V4) := Lib.hid (nx HW3.out hb1); clear hb1)
      refine hK.out _ _ (HALL.out _ HW4.out) (fun hHeld => ?_)
      clear hK K
      (try simp only [Act.put, List.setIfInBounds_toArray, List.set_cons_zero, List.set_cons_succ])
      refine wpAnyH_ready (rs := [28]) (by kernel_rfl) (by simp) ?_
      refine AllReadyH.cons (o := { dst := some 58, op := Op.call { callee := Callee.value (Operand.func 18), args := #[Operand.tmp 57], argTypes := #[28] }, type := 28, pos := "law.go:119", after := #[{ on := 27, ground := Ground.data }, { on := 26, ground := Ground.chain }, { on := 23, ground := Ground.guard }], guard := some (23, true) }) rfl (fun K hK => ?_) AllReadyH.nil
      go_simp
      (go_at_call 18; (with_reducible refine (pdual_is k4 s4 m4 u4 A4 n4 c4 _ (TB.out _ HW4.out)).mono ?_); rintro z V5 ⟨⟨k6, s6, m6, u6, A6, n6, c6, rfl, ht⟩, hb1⟩; have HW5 : Hid (Below W4.heap.size W4 V5) := Lib.hid (nx HW4.out hb1); have HD6 := Lib.hid ht; clear ht hb1)
      refine hK.out _ _ (HALL.out _ HW5.out) (fun hHeld => ?_)
      clear hK K
      (try simp only [Act.put, List.setIfInBounds_toArray, List.set_cons_zero, List.set_cons_succ])
      refine wpAnyH_ready (rs := [30]) (by kernel_rfl) (by simp) ?_
      refine AllReadyH.cons (o := { dst := some 60, op := Op.call { callee := Callee.value (Operand.func 18), args := #[Operand.tmp 59], argTypes := #[28] }, type := 28, pos := "law.go:119", after := #[{ on := 29, ground := Ground.data }, { on := 28, ground := Ground.chain }, { on := 23, ground := Ground.guard }], guard := some (23, true) }) rfl (fun K hK => ?_) AllReadyH.nil
      go_simp
      (go_at_call 18; (with_reducible refine (pdual_is k3 s3 m3 u3 A3 n3 c3 _ (TA.out _ HW5.out)).mono ?_); rintro z V6 ⟨⟨k7, s7, m7, u7, A7, n7, c7, rfl, ht⟩, hb1⟩; have HW6 : Hid (Below W4.heap.size W4 V6) := Lib.hid (nx HW5.out hb1); have HD7 := Lib.hid ht; have HD67 := Lib.hid (HD6.out.up hb1); clear ht hb1)
      refine hK.out _ _ (HALL.out _ HW6.out) (fun hHeld => ?_)
      clear hK K
      (try simp only [Act.put, List.setIfInBounds_toArray, List.set_cons_zero, List.set_cons_succ])
      refine wpAnyH_ready (rs := [31]) (by kernel_rfl) (by simp) ?_
      refine AllReadyH.cons (o := { dst := some 61, op := Op.call { callee := Callee.value (Operand.func 24), args := #[Operand.tmp 58, Operand.tmp 60], argTypes := #[28, 28] }, type := 4, pos := "law.go:119", after := #[{ on := 28, ground := Ground.data }, { on := 30, ground := Ground.data }, { on := 30, ground := Ground.chain }, { on := 23, ground := Ground.guard }], guard := some (23, true) }) rfl (fun K hK => ?_) AllReadyH.nil
      go_simp
      (go_at_call 24; (with_reducible refine (pimp_is k6 s6 m6 u6 A6 n6 c6 k7 s7 m7 u7 A7 n7 c7 _ HD67.out HD7.out hdd).mono ?_); rintro z V7 ⟨rfl, hb1⟩; have HW7 : Hid (Below W4.heap.size W4 V7) := Lib.hid (nx HW6.out hb1); clear hb1)
      refine hK.out _ _ (HALL.out _ HW7.out) (fun hHeld => ?_)
      clear hK K
      (try simp only [Act.put, List.setIfInBounds_toArray, List.set_cons_zero, List.set_cons_succ])
      refine wpAnyH_take (i := 32) (oi := { dst := some 62, op := Op.binOp BinOp.eql 4 (Operand.tmp 56) (Operand.tmp 61) 4, type := 4, pos := "law.go:119", after := #[{ on := 26, ground := Ground.data }, { on := 31, ground := Ground.data }, { on := 23, ground := Ground.guard }], guard := some (23, true) }) (v := .bool true) rfl (by kernel_rfl) (by kernel_rfl) (by kernel_rfl) (fun _ _ _ h => h) (Or.inl ⟨by rfl, ?_⟩) (by assumption) ?_
      · intro w hSw; (try dsimp only at hSw); go_split_ands; go_simp
      (try simp only [Act.put, List.setIfInBounds_toArray, List.set_cons_zero, List.set_cons_succ])
      refine wpAnyH_take (i := 33) (oi := { dst := some 63, op := Op.pick (Operand.tmp 53) (Operand.tmp 62) (Operand.const (Value.bool false)), type := 4, pos := "law.go:119", after := #[{ on := 23, ground := Ground.data }, { on := 32, ground := Ground.data }], guard := none }) (v := .bool true) rfl (by kernel_rfl) (by kernel_rfl) (by kernel_rfl) (fun _ _ _ h => h) (Or.inl ⟨by rfl, ?_⟩) (by assumption) ?_
      · intro w hSw; (try dsimp only at hSw); go_split_ands; go_simp
      (try simp only [Act.put, List.setIfInBounds_toArray, List.set_cons_zero, List.set_cons_succ])
      refine wpAnyH_take (i := 34) (oi := { dst := some 6, op := Op.assign (Operand.tmp 63), type := 4, pos := "law.go:119", after := #[{ on := 33, ground := Ground.data }, { on := 31, ground := Ground.chain }, { on := 0, ground := Ground.phase }, { on := 1, ground := Ground.phase }, { on := 2, ground := Ground.phase }, { on := 3, ground := Ground.phase }, { on := 4, ground := Ground.phase }, { on := 5, ground := Ground.phase }, { on := 6, ground := Ground.phase }, { on := 7, ground := Ground.phase }, { on := 8, ground := Ground.phase }, { on := 9, ground := Ground.phase }, { on := 10, ground := Ground.phase }, { on := 11, ground := Ground.phase }, { on := 12, ground := Ground.phase }, { on := 13, ground := Ground.phase }, { on := 14, ground := Ground.phase }, { on := 15, ground := Ground.phase }, { on := 16, ground := Ground.phase }, { on := 17, ground := Ground.phase }, { on := 18, ground := Ground.phase }, { on := 19, ground := Ground.phase }, { on := 20, ground := Ground.phase }, { on := 21, ground := Ground.phase }, { on := 22, ground := Ground.phase }, { on := 23, ground := Ground.phase }, { on := 24, ground := Ground.phase }, { on := 25, ground := Ground.phase }, { on := 26, ground := Ground.phase }, { on := 27, ground := Ground.phase }, { on := 28, ground := Ground.phase }, { on := 29, ground := Ground.phase }, { on := 30, ground := Ground.phase }, { on := 31, ground := Ground.phase }, { on := 32, ground := Ground.phase }, { on := 33, ground := Ground.phase }], guard := none }) (v := .bool true) rfl (by kernel_rfl) (by kernel_rfl) (by kernel_rfl) (fun _ _ _ h => h) (Or.inl ⟨by rfl, ?_⟩) (by assumption) ?_
      · intro w hSw; (try dsimp only at hSw); go_split_ands; go_simp
      (try simp only [Act.put, List.setIfInBounds_toArray, List.set_cons_zero, List.set_cons_succ])
      refine wpAnyH_done (by kernel_rfl) ?_ _
      go_wp2
      go_ret
      exact ⟨by simp, nx HB4.out HW7.out⟩
    | true =>
      cases β with
      | false =>
        refine wp_region_held_drew (S := fun W => S5 W g3 k3 s3 m3 u3 A3 n3 c3 ∧ S5 W g4 k4 s4 m4 u4 A4 n4 c4 ∧ S5 W g5 k5 s5 m5 u5 A5 n5 c5) (by kernel_rfl) (HALL.out _ (bdD (Below.refl _ _))) (fun hHeld => ?_)
        refine wpAnyH_ready (rs := [0]) (by kernel_rfl) (by simp) ?_
        refine AllReadyH.cons (o := { dst := some 30, op := Op.call { callee := Callee.value (Operand.func 10), args := #[], argTypes := #[] }, type := 4, pos := "law.go:119", after := #[], guard := none }) rfl (fun K hK => ?_) AllReadyH.nil
        go_simp
        (go_at_call 10; refine (awake9_any _).mono ?_; rintro z V1 ⟨rfl, hb1⟩; have HW1 : Hid (Below W4.heap.size W4 V1) := Lib.hid (nx (bdD (Below.refl _ _)) hb1); clear hb1)
        refine hK.out _ _ (HALL.out _ HW1.out) (fun hHeld => ?_)
        clear hK K
        (try simp only [Act.put, List.setIfInBounds_toArray, List.set_cons_zero, List.set_cons_succ])
        refine wpAnyH_take (i := 1) (oi := { dst := some 31, op := Op.move (Operand.tmp 30), type := 4, pos := "law.go:119", after := #[{ on := 0, ground := Ground.data }, { on := 0, ground := Ground.chain }], guard := none }) (v := .bool true) rfl (by kernel_rfl) (by kernel_rfl) (by kernel_rfl) (fun _ _ _ h => h) (Or.inl ⟨by rfl, ?_⟩) (by assumption) ?_
        · intro w hSw; (try dsimp only at hSw); go_split_ands; go_simp
        (try simp only [Act.put, List.setIfInBounds_toArray, List.set_cons_zero, List.set_cons_succ])
        refine wpAnyH_take (i := 2) (oi := { dst := some 32, op := Op.load 28 (Operand.tmp 7), type := 28, pos := "law.go:119", after := #[{ on := 1, ground := Ground.guard }], guard := some (1, true) }) (v := .agg #[.int .i64 k3, .string s3, .int .i64 m3, .int .i64 u3, .slice A3 n3 c3]) rfl (by kernel_rfl) (by kernel_rfl) (by kernel_rfl) (fun _ _ _ h => h) (Or.inl ⟨by rfl, ?_⟩) (by assumption) ?_
        · intro w hSw; (try dsimp only at hSw); go_split_ands; go_simp
        (try simp only [Act.put, List.setIfInBounds_toArray, List.set_cons_zero, List.set_cons_succ])
        refine wpAnyH_take (i := 3) (oi := { dst := some 33, op := Op.load 28 (Operand.tmp 7), type := 28, pos := "law.go:119", after := #[{ on := 1, ground := Ground.guard }], guard := some (1, true) }) (v := .agg #[.int .i64 k3, .string s3, .int .i64 m3, .int .i64 u3, .slice A3 n3 c3]) rfl (by kernel_rfl) (by kernel_rfl) (by kernel_rfl) (fun _ _ _ h => h) (Or.inl ⟨by rfl, ?_⟩) (by assumption) ?_
        · intro w hSw; (try dsimp only at hSw); go_split_ands; go_simp
        (try simp only [Act.put, List.setIfInBounds_toArray, List.set_cons_zero, List.set_cons_succ])
        refine wpAnyH_ready (rs := [4]) (by kernel_rfl) (by simp) ?_
        refine AllReadyH.cons (o := { dst := some 34, op := Op.call { callee := Callee.value (Operand.func 24), args := #[Operand.tmp 32, Operand.tmp 33], argTypes := #[28, 28] }, type := 4, pos := "law.go:119", after := #[{ on := 2, ground := Ground.data }, { on := 3, ground := Ground.data }, { on := 1, ground := Ground.chain }, { on := 1, ground := Ground.guard }], guard := some (1, true) }) rfl (fun K hK => ?_) AllReadyH.nil
        go_simp
        (go_at_call 24; (with_reducible refine (pimp_is k3 s3 m3 u3 A3 n3 c3 k3 s3 m3 u3 A3 n3 c3 _ (TA.out _ HW1.out) (TA.out _ HW1.out) haa).mono ?_); rintro z V2 ⟨rfl, hb1⟩; have HW2 : Hid (Below W4.heap.size W4 V2) := Lib.hid (nx HW1.out hb1); clear hb1)
        refine hK.out _ _ (HALL.out _ HW2.out) (fun hHeld => ?_)
        clear hK K
        (try simp only [Act.put, List.setIfInBounds_toArray, List.set_cons_zero, List.set_cons_succ])
        refine wpAnyH_take (i := 5) (oi := { dst := some 35, op := Op.pick (Operand.tmp 31) (Operand.tmp 34) (Operand.const (Value.bool false)), type := 4, pos := "law.go:119", after := #[{ on := 1, ground := Ground.data }, { on := 4, ground := Ground.data }], guard := none }) (v := .bool true) rfl (by kernel_rfl) (by kernel_rfl) (by kernel_rfl) (fun _ _ _ h => h) (Or.inl ⟨by rfl, ?_⟩) (by assumption) ?_
        · intro w hSw; (try dsimp only at hSw); go_split_ands; go_simp
        (try simp only [Act.put, List.setIfInBounds_toArray, List.set_cons_zero, List.set_cons_succ])
        refine wpAnyH_take (i := 6) (oi := { dst := some 36, op := Op.move (Operand.tmp 35), type := 4, pos := "law.go:119", after := #[{ on := 5, ground := Ground.data }, { on := 4, ground := Ground.chain }], guard := none }) (v := .bool true) rfl (by kernel_rfl) (by kernel_rfl) (by kernel_rfl) (fun _ _ _ h => h) (Or.inl ⟨by rfl, ?_⟩) (by assumption) ?_
        · intro w hSw; (try dsimp only at hSw); go_split_ands; go_simp
        (try simp only [Act.put, List.setIfInBounds_toArray, List.set_cons_zero, List.set_cons_succ])
        refine wpAnyH_take (i := 7) (oi := { dst := some 37, op := Op.load 28 (Operand.tmp 7), type := 28, pos := "law.go:119", after := #[{ on := 6, ground := Ground.guard }], guard := some (6, true) }) (v := .agg #[.int .i64 k3, .string s3, .int .i64 m3, .int .i64 u3, .slice A3 n3 c3]) rfl (by kernel_rfl) (by kernel_rfl) (by kernel_rfl) (fun _ _ _ h => h) (Or.inl ⟨by rfl, ?_⟩) (by assumption) ?_
        · intro w hSw; (try dsimp only at hSw); go_split_ands; go_simp
        (try simp only [Act.put, List.setIfInBounds_toArray, List.set_cons_zero, List.set_cons_succ])
        refine wpAnyH_take (i := 8) (oi := { dst := some 38, op := Op.load 28 (Operand.tmp 8), type := 28, pos := "law.go:119", after := #[{ on := 6, ground := Ground.guard }], guard := some (6, true) }) (v := .agg #[.int .i64 k4, .string s4, .int .i64 m4, .int .i64 u4, .slice A4 n4 c4]) rfl (by kernel_rfl) (by kernel_rfl) (by kernel_rfl) (fun _ _ _ h => h) (Or.inl ⟨by rfl, ?_⟩) (by assumption) ?_
        · intro w hSw; (try dsimp only at hSw); go_split_ands; go_simp
        (try simp only [Act.put, List.setIfInBounds_toArray, List.set_cons_zero, List.set_cons_succ])
        refine wpAnyH_ready (rs := [9]) (by kernel_rfl) (by simp) ?_
        refine AllReadyH.cons (o := { dst := some 39, op := Op.call { callee := Callee.value (Operand.func 24), args := #[Operand.tmp 37, Operand.tmp 38], argTypes := #[28, 28] }, type := 4, pos := "law.go:119", after := #[{ on := 7, ground := Ground.data }, { on := 8, ground := Ground.data }, { on := 6, ground := Ground.chain }, { on := 6, ground := Ground.guard }], guard := some (6, true) }) rfl (fun K hK => ?_) AllReadyH.nil
        go_simp
        (go_at_call 24; (with_reducible refine (pimp_is k3 s3 m3 u3 A3 n3 c3 k4 s4 m4 u4 A4 n4 c4 _ (TA.out _ HW2.out) (TB.out _ HW2.out) hab).mono ?_); rintro z V3 ⟨rfl, hb1⟩; have HW3 : Hid (Below W4.heap.size W4 V3) := Lib.hid (nx HW2.out hb1); clear hb1)
        refine hK.out _ _ (HALL.out _ HW3.out) (fun hHeld => ?_)
        clear hK K
        (try simp only [Act.put, List.setIfInBounds_toArray, List.set_cons_zero, List.set_cons_succ])
        refine wpAnyH_take (i := 10) (oi := { dst := some 40, op := Op.unOp UnOp.not 4 (Operand.tmp 39), type := 4, pos := "law.go:119", after := #[{ on := 9, ground := Ground.data }, { on := 6, ground := Ground.guard }], guard := some (6, true) }) (v := .bool false) rfl (by kernel_rfl) (by kernel_rfl) (by kernel_rfl) (fun _ _ _ h => h) (Or.inl ⟨by rfl, ?_⟩) (by assumption) ?_
        · intro w hSw; (try dsimp only at hSw); go_split_ands; go_simp
        (try simp only [Act.put, List.setIfInBounds_toArray, List.set_cons_zero, List.set_cons_succ])
        refine wpAnyH_take (i := 11) (oi := { dst := some 41, op := Op.move (Operand.tmp 40), type := 4, pos := "law.go:119", after := #[{ on := 10, ground := Ground.data }, { on := 9, ground := Ground.chain }, { on := 6, ground := Ground.guard }], guard := some (6, true) }) (v := .bool false) rfl (by kernel_rfl) (by kernel_rfl) (by kernel_rfl) (fun _ _ _ h => h) (Or.inl ⟨by rfl, ?_⟩) (by assumption) ?_
        · intro w hSw; (try dsimp only at hSw); go_split_ands; go_simp
        (try simp only [Act.put, List.setIfInBounds_toArray, List.set_cons_zero, List.set_cons_succ])
        refine wpAnyH_take (i := 12) (oi := { dst := some 42, op := Op.load 28 (Operand.tmp 8), type := 28, pos := "law.go:119", after := #[{ on := 11, ground := Ground.guard }], guard := some (11, false) }) (v := .agg #[.int .i64 k4, .string s4, .int .i64 m4, .int .i64 u4, .slice A4 n4 c4]) rfl (by kernel_rfl) (by kernel_rfl) (by kernel_rfl) (fun _ _ _ h => h) (Or.inl ⟨by rfl, ?_⟩) (by assumption) ?_
        · intro w hSw; (try dsimp only at hSw); go_split_ands; go_simp
        (try simp only [Act.put, List.setIfInBounds_toArray, List.set_cons_zero, List.set_cons_succ])
        refine wpAnyH_take (i := 13) (oi := { dst := some 43, op := Op.load 28 (Operand.tmp 9), type := 28, pos := "law.go:119", after := #[{ on := 11, ground := Ground.guard }], guard := some (11, false) }) (v := .agg #[.int .i64 k5, .string s5, .int .i64 m5, .int .i64 u5, .slice A5 n5 c5]) rfl (by kernel_rfl) (by kernel_rfl) (by kernel_rfl) (fun _ _ _ h => h) (Or.inl ⟨by rfl, ?_⟩) (by assumption) ?_
        · intro w hSw; (try dsimp only at hSw); go_split_ands; go_simp
        (try simp only [Act.put, List.setIfInBounds_toArray, List.set_cons_zero, List.set_cons_succ])
        refine wpAnyH_ready (rs := [14]) (by kernel_rfl) (by simp) ?_
        refine AllReadyH.cons (o := { dst := some 44, op := Op.call { callee := Callee.value (Operand.func 24), args := #[Operand.tmp 42, Operand.tmp 43], argTypes := #[28, 28] }, type := 4, pos := "law.go:119", after := #[{ on := 12, ground := Ground.data }, { on := 13, ground := Ground.data }, { on := 11, ground := Ground.chain }, { on := 11, ground := Ground.guard }], guard := some (11, false) }) rfl (fun K hK => ?_) AllReadyH.nil
        go_simp
        (go_at_call 24; (with_reducible refine (pimp_is k4 s4 m4 u4 A4 n4 c4 k5 s5 m5 u5 A5 n5 c5 _ (TB.out _ HW3.out) (TC.out _ HW3.out) hbc).mono ?_); rintro z V4 ⟨rfl, hb1⟩; have HW4 : Hid (Below W4.heap.size W4 V4) := Lib.hid (nx HW3.out hb1); clear hb1)
        refine hK.out _ _ (HALL.out _ HW4.out) (fun hHeld => ?_)
        clear hK K
        (try simp only [Act.put, List.setIfInBounds_toArray, List.set_cons_zero, List.set_cons_succ])
        refine wpAnyH_take (i := 15) (oi := { dst := some 45, op := Op.unOp UnOp.not 4 (Operand.tmp 44), type := 4, pos := "law.go:119", after := #[{ on := 14, ground := Ground.data }, { on := 11, ground := Ground.guard }], guard := some (11, false) }) (v := .bool true) rfl (by kernel_rfl) (by kernel_rfl) (by kernel_rfl) (fun _ _ _ h => h) (Or.inl ⟨by rfl, ?_⟩) (by assumption) ?_
        · intro w hSw; (try dsimp only at hSw); go_split_ands; go_simp
        (try simp only [Act.put, List.setIfInBounds_toArray, List.set_cons_zero, List.set_cons_succ])
        refine wpAnyH_take (i := 16) (oi := { dst := some 46, op := Op.pick (Operand.tmp 41) (Operand.const (Value.bool true)) (Operand.tmp 45), type := 4, pos := "law.go:119", after := #[{ on := 11, ground := Ground.data }, { on := 15, ground := Ground.data }, { on := 6, ground := Ground.guard }], guard := some (6, true) }) (v := .bool true) rfl (by kernel_rfl) (by kernel_rfl) (by kernel_rfl) (fun _ _ _ h => h) (Or.inl ⟨by rfl, ?_⟩) (by assumption) ?_
        · intro w hSw; (try dsimp only at hSw); go_split_ands; go_simp
        (try simp only [Act.put, List.setIfInBounds_toArray, List.set_cons_zero, List.set_cons_succ])
        refine wpAnyH_take (i := 17) (oi := { dst := some 47, op := Op.move (Operand.tmp 46), type := 4, pos := "law.go:119", after := #[{ on := 16, ground := Ground.data }, { on := 14, ground := Ground.chain }, { on := 6, ground := Ground.guard }], guard := some (6, true) }) (v := .bool true) rfl (by kernel_rfl) (by kernel_rfl) (by kernel_rfl) (fun _ _ _ h => h) (Or.inl ⟨by rfl, ?_⟩) (by assumption) ?_
        · intro w hSw; (try dsimp only at hSw); go_split_ands; go_simp
        (try simp only [Act.put, List.setIfInBounds_toArray, List.set_cons_zero, List.set_cons_succ])
        refine wpAnyH_take (i := 18) (oi := { dst := some 48, op := Op.load 28 (Operand.tmp 7), type := 28, pos := "law.go:119", after := #[{ on := 17, ground := Ground.guard }], guard := some (17, false) }) (v := undef) rfl (by kernel_rfl) (by kernel_rfl) (by kernel_rfl) (fun _ _ _ h => h) (Or.inr ⟨by rfl, rfl⟩) (by assumption) ?_
        (try simp only [Act.put, List.setIfInBounds_toArray, List.set_cons_zero, List.set_cons_succ])
        refine wpAnyH_take (i := 19) (oi := { dst := some 49, op := Op.load 28 (Operand.tmp 9), type := 28, pos := "law.go:119", after := #[{ on := 17, ground := Ground.guard }], guard := some (17, false) }) (v := undef) rfl (by kernel_rfl) (by kernel_rfl) (by kernel_rfl) (fun _ _ _ h => h) (Or.inr ⟨by rfl, rfl⟩) (by assumption) ?_
        (try simp only [Act.put, List.setIfInBounds_toArray, List.set_cons_zero, List.set_cons_succ])
        refine wpAnyH_ready (rs := [20]) (by kernel_rfl) (by simp) ?_
        refine AllReadyH.cons (o := { dst := some 50, op := Op.call { callee := Callee.value (Operand.func 24), args := #[Operand.tmp 48, Operand.tmp 49], argTypes := #[28, 28] }, type := 4, pos := "law.go:119", after := #[{ on := 18, ground := Ground.data }, { on := 19, ground := Ground.data }, { on := 17, ground := Ground.chain }, { on := 17, ground := Ground.guard }], guard := some (17, false) }) rfl (fun K hK => ?_) AllReadyH.nil
        go_simp
        refine hK.out _ _ (HALL.out _ HW4.out) (fun hHeld => ?_)
        clear hK K
        (try simp only [Act.put, List.setIfInBounds_toArray, List.set_cons_zero, List.set_cons_succ])
        refine wpAnyH_take (i := 21) (oi := { dst := some 51, op := Op.pick (Operand.tmp 47) (Operand.const (Value.bool true)) (Operand.tmp 50), type := 4, pos := "law.go:119", after := #[{ on := 17, ground := Ground.data }, { on := 20, ground := Ground.data }, { on := 6, ground := Ground.guard }], guard := some (6, true) }) (v := .bool true) rfl (by kernel_rfl) (by kernel_rfl) (by kernel_rfl) (fun _ _ _ h => h) (Or.inl ⟨by rfl, ?_⟩) (by assumption) ?_
        · intro w hSw; (try dsimp only at hSw); go_split_ands; go_simp
        (try simp only [Act.put, List.setIfInBounds_toArray, List.set_cons_zero, List.set_cons_succ])
        refine wpAnyH_take (i := 22) (oi := { dst := some 52, op := Op.pick (Operand.tmp 36) (Operand.tmp 51) (Operand.const (Value.bool false)), type := 4, pos := "law.go:119", after := #[{ on := 6, ground := Ground.data }, { on := 21, ground := Ground.data }], guard := none }) (v := .bool true) rfl (by kernel_rfl) (by kernel_rfl) (by kernel_rfl) (fun _ _ _ h => h) (Or.inl ⟨by rfl, ?_⟩) (by assumption) ?_
        · intro w hSw; (try dsimp only at hSw); go_split_ands; go_simp
        (try simp only [Act.put, List.setIfInBounds_toArray, List.set_cons_zero, List.set_cons_succ])
        refine wpAnyH_take (i := 23) (oi := { dst := some 53, op := Op.move (Operand.tmp 52), type := 4, pos := "law.go:119", after := #[{ on := 22, ground := Ground.data }, { on := 20, ground := Ground.chain }], guard := none }) (v := .bool true) rfl (by kernel_rfl) (by kernel_rfl) (by kernel_rfl) (fun _ _ _ h => h) (Or.inl ⟨by rfl, ?_⟩) (by assumption) ?_
        · intro w hSw; (try dsimp only at hSw); go_split_ands; go_simp
        (try simp only [Act.put, List.setIfInBounds_toArray, List.set_cons_zero, List.set_cons_succ])
        refine wpAnyH_take (i := 24) (oi := { dst := some 54, op := Op.load 28 (Operand.tmp 7), type := 28, pos := "law.go:119", after := #[{ on := 23, ground := Ground.guard }], guard := some (23, true) }) (v := .agg #[.int .i64 k3, .string s3, .int .i64 m3, .int .i64 u3, .slice A3 n3 c3]) rfl (by kernel_rfl) (by kernel_rfl) (by kernel_rfl) (fun _ _ _ h => h) (Or.inl ⟨by rfl, ?_⟩) (by assumption) ?_
        · intro w hSw; (try dsimp only at hSw); go_split_ands; go_simp
        (try simp only [Act.put, List.setIfInBounds_toArray, List.set_cons_zero, List.set_cons_succ])
        refine wpAnyH_take (i := 25) (oi := { dst := some 55, op := Op.load 28 (Operand.tmp 8), type := 28, pos := "law.go:119", after := #[{ on := 23, ground := Ground.guard }], guard := some (23, true) }) (v := .agg #[.int .i64 k4, .string s4, .int .i64 m4, .int .i64 u4, .slice A4 n4 c4]) rfl (by kernel_rfl) (by kernel_rfl) (by kernel_rfl) (fun _ _ _ h => h) (Or.inl ⟨by rfl, ?_⟩) (by assumption) ?_
        · intro w hSw; (try dsimp only at hSw); go_split_ands; go_simp
        (try simp only [Act.put, List.setIfInBounds_toArray, List.set_cons_zero, List.set_cons_succ])
        refine wpAnyH_take (i := 27) (oi := { dst := some 57, op := Op.load 28 (Operand.tmp 8), type := 28, pos := "law.go:119", after := #[{ on := 23, ground := Ground.guard }], guard := some (23, true) }) (v := .agg #[.int .i64 k4, .string s4, .int .i64 m4, .int .i64 u4, .slice A4 n4 c4]) rfl (by kernel_rfl) (by kernel_rfl) (by kernel_rfl) (fun _ _ _ h => h) (Or.inl ⟨by rfl, ?_⟩) (by assumption) ?_
        · intro w hSw; (try dsimp only at hSw); go_split_ands; go_simp
        (try simp only [Act.put, List.setIfInBounds_toArray, List.set_cons_zero, List.set_cons_succ])
        refine wpAnyH_take (i := 29) (oi := { dst := some 59, op := Op.load 28 (Operand.tmp 7), type := 28, pos := "law.go:119", after := #[{ on := 23, ground := Ground.guard }], guard := some (23, true) }) (v := .agg #[.int .i64 k3, .string s3, .int .i64 m3, .int .i64 u3, .slice A3 n3 c3]) rfl (by kernel_rfl) (by kernel_rfl) (by kernel_rfl) (fun _ _ _ h => h) (Or.inl ⟨by rfl, ?_⟩) (by assumption) ?_
        · intro w hSw; (try dsimp only at hSw); go_split_ands; go_simp
        (try simp only [Act.put, List.setIfInBounds_toArray, List.set_cons_zero, List.set_cons_succ])
        refine wpAnyH_ready (rs := [26]) (by kernel_rfl) (by simp) ?_
        refine AllReadyH.cons (o := { dst := some 56, op := Op.call { callee := Callee.value (Operand.func 24), args := #[Operand.tmp 54, Operand.tmp 55], argTypes := #[28, 28] }, type := 4, pos := "law.go:119", after := #[{ on := 24, ground := Ground.data }, { on := 25, ground := Ground.data }, { on := 23, ground := Ground.chain }, { on := 23, ground := Ground.guard }], guard := some (23, true) }) rfl (fun K hK => ?_) AllReadyH.nil
        go_simp
        (go_at_call 24; (with_reducible refine (pimp_is k3 s3 m3 u3 A3 n3 c3 k4 s4 m4 u4 A4 n4 c4 _ (TA.out _ HW4.out) (TB.out _ HW4.out) hab).mono ?_); rintro z V5 ⟨rfl, hb1⟩; have HW5 : Hid (Below W4.heap.size W4 V5) := Lib.hid (nx HW4.out hb1); clear hb1)
        refine hK.out _ _ (HALL.out _ HW5.out) (fun hHeld => ?_)
        clear hK K
        (try simp only [Act.put, List.setIfInBounds_toArray, List.set_cons_zero, List.set_cons_succ])
        refine wpAnyH_ready (rs := [28]) (by kernel_rfl) (by simp) ?_
        refine AllReadyH.cons (o := { dst := some 58, op := Op.call { callee := Callee.value (Operand.func 18), args := #[Operand.tmp 57], argTypes := #[28] }, type := 28, pos := "law.go:119", after := #[{ on := 27, ground := Ground.data }, { on := 26, ground := Ground.chain }, { on := 23, ground := Ground.guard }], guard := some (23, true) }) rfl (fun K hK => ?_) AllReadyH.nil
        go_simp
        (go_at_call 18; (with_reducible refine (pdual_is k4 s4 m4 u4 A4 n4 c4 _ (TB.out _ HW5.out)).mono ?_); rintro z V6 ⟨⟨k6, s6, m6, u6, A6, n6, c6, rfl, ht⟩, hb1⟩; have HW6 : Hid (Below W4.heap.size W4 V6) := Lib.hid (nx HW5.out hb1); have HD6 := Lib.hid ht; clear ht hb1)
        refine hK.out _ _ (HALL.out _ HW6.out) (fun hHeld => ?_)
        clear hK K
        (try simp only [Act.put, List.setIfInBounds_toArray, List.set_cons_zero, List.set_cons_succ])
        refine wpAnyH_ready (rs := [30]) (by kernel_rfl) (by simp) ?_
        refine AllReadyH.cons (o := { dst := some 60, op := Op.call { callee := Callee.value (Operand.func 18), args := #[Operand.tmp 59], argTypes := #[28] }, type := 28, pos := "law.go:119", after := #[{ on := 29, ground := Ground.data }, { on := 28, ground := Ground.chain }, { on := 23, ground := Ground.guard }], guard := some (23, true) }) rfl (fun K hK => ?_) AllReadyH.nil
        go_simp
        (go_at_call 18; (with_reducible refine (pdual_is k3 s3 m3 u3 A3 n3 c3 _ (TA.out _ HW6.out)).mono ?_); rintro z V7 ⟨⟨k7, s7, m7, u7, A7, n7, c7, rfl, ht⟩, hb1⟩; have HW7 : Hid (Below W4.heap.size W4 V7) := Lib.hid (nx HW6.out hb1); have HD7 := Lib.hid ht; have HD67 := Lib.hid (HD6.out.up hb1); clear ht hb1)
        refine hK.out _ _ (HALL.out _ HW7.out) (fun hHeld => ?_)
        clear hK K
        (try simp only [Act.put, List.setIfInBounds_toArray, List.set_cons_zero, List.set_cons_succ])
        refine wpAnyH_ready (rs := [31]) (by kernel_rfl) (by simp) ?_
        refine AllReadyH.cons (o := { dst := some 61, op := Op.call { callee := Callee.value (Operand.func 24), args := #[Operand.tmp 58, Operand.tmp 60], argTypes := #[28, 28] }, type := 4, pos := "law.go:119", after := #[{ on := 28, ground := Ground.data }, { on := 30, ground := Ground.data }, { on := 30, ground := Ground.chain }, { on := 23, ground := Ground.guard }], guard := some (23, true) }) rfl (fun K hK => ?_) AllReadyH.nil
        go_simp
        (go_at_call 24; (with_reducible refine (pimp_is k6 s6 m6 u6 A6 n6 c6 k7 s7 m7 u7 A7 n7 c7 _ HD67.out HD7.out hdd).mono ?_); rintro z V8 ⟨rfl, hb1⟩; have HW8 : Hid (Below W4.heap.size W4 V8) := Lib.hid (nx HW7.out hb1); clear hb1)
        refine hK.out _ _ (HALL.out _ HW8.out) (fun hHeld => ?_)
        clear hK K
        (try simp only [Act.put, List.setIfInBounds_toArray, List.set_cons_zero, List.set_cons_succ])
        refine wpAnyH_take (i := 32) (oi := { dst := some 62, op := Op.binOp BinOp.eql 4 (Operand.tmp 56) (Operand.tmp 61) 4, type := 4, pos := "law.go:119", after := #[{ on := 26, ground := Ground.data }, { on := 31, ground := Ground.data }, { on := 23, ground := Ground.guard }], guard := some (23, true) }) (v := .bool true) rfl (by kernel_rfl) (by kernel_rfl) (by kernel_rfl) (fun _ _ _ h => h) (Or.inl ⟨by rfl, ?_⟩) (by assumption) ?_
        · intro w hSw; (try dsimp only at hSw); go_split_ands; go_simp
        (try simp only [Act.put, List.setIfInBounds_toArray, List.set_cons_zero, List.set_cons_succ])
        refine wpAnyH_take (i := 33) (oi := { dst := some 63, op := Op.pick (Operand.tmp 53) (Operand.tmp 62) (Operand.const (Value.bool false)), type := 4, pos := "law.go:119", after := #[{ on := 23, ground := Ground.data }, { on := 32, ground := Ground.data }], guard := none }) (v := .bool true) rfl (by kernel_rfl) (by kernel_rfl) (by kernel_rfl) (fun _ _ _ h => h) (Or.inl ⟨by rfl, ?_⟩) (by assumption) ?_
        · intro w hSw; (try dsimp only at hSw); go_split_ands; go_simp
        (try simp only [Act.put, List.setIfInBounds_toArray, List.set_cons_zero, List.set_cons_succ])
        refine wpAnyH_take (i := 34) (oi := { dst := some 6, op := Op.assign (Operand.tmp 63), type := 4, pos := "law.go:119", after := #[{ on := 33, ground := Ground.data }, { on := 31, ground := Ground.chain }, { on := 0, ground := Ground.phase }, { on := 1, ground := Ground.phase }, { on := 2, ground := Ground.phase }, { on := 3, ground := Ground.phase }, { on := 4, ground := Ground.phase }, { on := 5, ground := Ground.phase }, { on := 6, ground := Ground.phase }, { on := 7, ground := Ground.phase }, { on := 8, ground := Ground.phase }, { on := 9, ground := Ground.phase }, { on := 10, ground := Ground.phase }, { on := 11, ground := Ground.phase }, { on := 12, ground := Ground.phase }, { on := 13, ground := Ground.phase }, { on := 14, ground := Ground.phase }, { on := 15, ground := Ground.phase }, { on := 16, ground := Ground.phase }, { on := 17, ground := Ground.phase }, { on := 18, ground := Ground.phase }, { on := 19, ground := Ground.phase }, { on := 20, ground := Ground.phase }, { on := 21, ground := Ground.phase }, { on := 22, ground := Ground.phase }, { on := 23, ground := Ground.phase }, { on := 24, ground := Ground.phase }, { on := 25, ground := Ground.phase }, { on := 26, ground := Ground.phase }, { on := 27, ground := Ground.phase }, { on := 28, ground := Ground.phase }, { on := 29, ground := Ground.phase }, { on := 30, ground := Ground.phase }, { on := 31, ground := Ground.phase }, { on := 32, ground := Ground.phase }, { on := 33, ground := Ground.phase }], guard := none }) (v := .bool true) rfl (by kernel_rfl) (by kernel_rfl) (by kernel_rfl) (fun _ _ _ h => h) (Or.inl ⟨by rfl, ?_⟩) (by assumption) ?_
        · intro w hSw; (try dsimp only at hSw); go_split_ands; go_simp
        (try simp only [Act.put, List.setIfInBounds_toArray, List.set_cons_zero, List.set_cons_succ])
        refine wpAnyH_done (by kernel_rfl) ?_ _
        go_wp2
        go_ret
        exact ⟨by simp, nx HB4.out HW8.out⟩
      | true =>
        have hg := HTR.out rfl rfl
        subst hg
        go_region_held3 (fun W => S5 W g3 k3 s3 m3 u3 A3 n3 c3 ∧ S5 W g4 k4 s4 m4 u4 A4 n4 c4 ∧ S5 W g5 k5 s5 m5 u5 A5 n5 c5)
        (first
          | with_reducible exact HALL.out _ (bdD (Below.refl _ _))
          | with_reducible exact HALL.out _ HWN.out)
        (first
          | (go_at_call 10; (with_reducible refine (awake9_any _).mono ?_); rintro z V ⟨rfl, hb1⟩; have HWN : Hid (Below W4.heap.size W4 V) := Lib.hid (nx (bdD (Below.refl _ _)) hb1); clear hb1)
          | (go_at_call 24; (with_reducible refine (pimp_is k3 s3 m3 u3 A3 n3 c3 k3 s3 m3 u3 A3 n3 c3 _ (TA.out _ HWN.out) (TA.out _ HWN.out) haa).mono ?_); rintro z V ⟨rfl, hb1⟩; have HWM : Hid (Below W4.heap.size W4 V) := Lib.hid (nx HWN.out hb1); clear hb1 HWN; have HWN := HWM; clear HWM)
          | (go_at_call 24; (with_reducible refine (pimp_is k3 s3 m3 u3 A3 n3 c3 k4 s4 m4 u4 A4 n4 c4 _ (TA.out _ HWN.out) (TB.out _ HWN.out) hab).mono ?_); rintro z V ⟨rfl, hb1⟩; have HWM : Hid (Below W4.heap.size W4 V) := Lib.hid (nx HWN.out hb1); clear hb1 HWN; have HWN := HWM; clear HWM)
          | (go_at_call 24; (with_reducible refine (pimp_is k4 s4 m4 u4 A4 n4 c4 k5 s5 m5 u5 A5 n5 c5 _ (TB.out _ HWN.out) (TC.out _ HWN.out) hbc).mono ?_); rintro z V ⟨rfl, hb1⟩; have HWM : Hid (Below W4.heap.size W4 V) := Lib.hid (nx HWN.out hb1); clear hb1 HWN; have HWN := HWM; clear HWM)
          | (go_at_call 24; (with_reducible refine (pimp_is k3 s3 m3 u3 A3 n3 c3 k5 s5 m5 u5 A5 n5 c5 _ (TA.out _ HWN.out) (TC.out _ HWN.out) hac).mono ?_); rintro z V ⟨rfl, hb1⟩; have HWM : Hid (Below W4.heap.size W4 V) := Lib.hid (nx HWN.out hb1); clear hb1 HWN; have HWN := HWM; clear HWM)
          | (go_at_call 18; (with_reducible refine (pdual_is k4 s4 m4 u4 A4 n4 c4 _ (TB.out _ HWN.out)).mono ?_); rintro z V ⟨⟨k6, s6, m6, u6, A6, n6, c6, rfl, ht⟩, hb1⟩; have HWM : Hid (Below W4.heap.size W4 V) := Lib.hid (nx HWN.out hb1); have HD6 := Lib.hid ht; clear hb1 ht HWN; have HWN := HWM; clear HWM)
          | (go_at_call 18; (with_reducible refine (pdual_is k3 s3 m3 u3 A3 n3 c3 _ (TA.out _ HWN.out)).mono ?_); rintro z V ⟨⟨k7, s7, m7, u7, A7, n7, c7, rfl, ht⟩, hb1⟩; have HWM : Hid (Below W4.heap.size W4 V) := Lib.hid (nx HWN.out hb1); have HD7 := Lib.hid ht; have HD67 := Lib.hid (HD6.out.up hb1); clear hb1 ht HWN; have HWN := HWM; clear HWM)
          | (go_at_call 24; (with_reducible refine (pimp_is k6 s6 m6 u6 A6 n6 c6 k7 s7 m7 u7 A7 n7 c7 _ HD67.out HD7.out hdd).mono ?_); rintro z V ⟨rfl, hb1⟩; have HWM : Hid (Below W4.heap.size W4 V) := Lib.hid (nx HWN.out hb1); clear hb1 HWN; have HWN := HWM; clear HWM))
        all_goals (go_wp2; go_ret; exact ⟨by simp, nx HB4.out HWN.out⟩)
  · cases d0 with
    | false =>
      go_enter Try.func7, Try.ntmps7
      go_wp2_with (first
        | (go_at_call 14; clear M0; (with_reducible refine (light_is A0 n0 c0 _).mono ?_); rintro e W1 ⟨rfl, rfl⟩; rw [hd0.out])
        | (go_at_call 10; refine (awake9_any _).mono ?_; rintro z W8 ⟨rfl, hb⟩; have HB8 := Lib.hid hb; clear hb))
      go_ret
      exact ⟨by simp, HB8.out⟩
    | true =>
      cases d1 with
      | false =>
        go_enter Try.func7, Try.ntmps7
        go_wp2_with (first
          | (go_at_call 14; clear M0; (with_reducible refine (light_is A0 n0 c0 _).mono ?_); rintro e W1 ⟨rfl, rfl⟩; rw [hd0.out])
          | (go_at_call 14; clear M1; (with_reducible refine (light_is A1 n1 c1 _).mono ?_); rintro e W1 ⟨rfl, rfl⟩; rw [hd1.out])
          | (go_at_call 10; refine (awake9_any _).mono ?_; rintro z W8 ⟨rfl, hb⟩; have HB8 := Lib.hid hb; clear hb))
        go_ret
        exact ⟨by simp, HB8.out⟩
      | true =>
        cases d2 with
        | true => exact absurd ⟨rfl, rfl, rfl⟩ hall
        | false =>
          go_enter Try.func7, Try.ntmps7
          go_wp2_with (first
            | (go_at_call 14; clear M0; (with_reducible refine (light_is A0 n0 c0 _).mono ?_); rintro e W1 ⟨rfl, rfl⟩; rw [hd0.out])
            | (go_at_call 14; clear M1; (with_reducible refine (light_is A1 n1 c1 _).mono ?_); rintro e W1 ⟨rfl, rfl⟩; rw [hd1.out])
            | (go_at_call 14; (with_reducible refine (light_is A2 n2 c2 _).mono ?_); rintro e W1 ⟨rfl, rfl⟩; rw [hd2.out])
            | (go_at_call 10; refine (awake9_any _).mono ?_; rintro z W8 ⟨rfl, hb⟩; have HB8 := Lib.hid hb; clear hb))
          go_ret
          exact ⟨by simp, HB8.out⟩
end Go.Proofs.Ytohjllnfnkajjaa
