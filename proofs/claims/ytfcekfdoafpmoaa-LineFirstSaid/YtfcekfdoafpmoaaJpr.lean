/- Picked from Hval Hpr Hrf Hrv Rsz. -/
import Derived.Test.YtfcekfdoafpmoaaJrow
import Derived.Test.YtfcekfdoafpmoaaMval
namespace Go.Proofs.Ytfcekfdoafpmoaa
open Go.RowKit
open Go.Sort (grow grow_grow alloc_eq_grow)
set_option linter.unusedVariables false
set_option linter.unusedSimpArgs false

theorem eqPrIn (a b c x y z : Int) (w : World) : (Op.equalIn 9999 24 (.agg #[.int .i64 a, .int .i64 b, .int .i64 c]) (.agg #[.int .i64 x, .int .i64 y, .int .i64 z])).run Try.prog w = .ok (decide (a = x ∧ b = y ∧ c = z)) w := by
  have u3 := Try.underlying3
  have hS : Try.prog.underlying 24 = some (.struct (Try.prog.fieldsOf 24)) := by kernel_rfl
  have hp : Try.prog.stoodInHeld 24 = false := by kernel_rfl
  rw [show (9999 : Nat) = 9998 + 1 from rfl, run_equalIn_agg w 9998 24 _ _ hS hp]
  simp only [Program.fieldsOf, Try.underlying24]
  go_simp
  by_cases h1 : a = x <;> by_cases h2 : b = y <;> by_cases h3 : c = z <;> simp [h1, h2, h3]
theorem eqAmIn (m n p q : Int) (w : World) : (Op.equalIn 9999 26 (.agg #[.int .i64 m, .int .i64 n]) (.agg #[.int .i64 p, .int .i64 q])).run Try.prog w = .ok (decide (m = p ∧ n = q)) w := by
  have u3 := Try.underlying3
  have hS : Try.prog.underlying 26 = some (.struct (Try.prog.fieldsOf 26)) := by kernel_rfl
  have hp : Try.prog.stoodInHeld 26 = false := by kernel_rfl
  rw [show (9999 : Nat) = 9998 + 1 from rfl, run_equalIn_agg w 9998 26 _ _ hS hp]
  simp only [Program.fieldsOf, Try.underlying26]
  go_simp
  by_cases h1 : m = p <;> by_cases h2 : n = q <;> simp [h1, h2]
def pvs : List P3 → List Value
  | [] => []
  | p :: l => .int .i64 p.1 :: .int .i64 p.2.1 :: .int .i64 p.2.2 :: pvs l
theorem pvs_length : ∀ l : List P3, (pvs l).length = l.length * 3
  | [] => rfl
  | p :: l => by simp [pvs, pvs_length l]; omega
theorem pvs_append : ∀ l r : List P3, pvs (l ++ r) = pvs l ++ pvs r
  | [], r => rfl
  | p :: l, r => by simp [pvs, pvs_append l r]
theorem pvs_at : ∀ (l : List P3) (i : Nat), i < l.length → (pvs l)[i * 3]? = some (.int .i64 (l.getD i default).1) ∧ (pvs l)[i * 3 + 1]? = some (.int .i64 (l.getD i default).2.1) ∧ (pvs l)[i * 3 + 2]? = some (.int .i64 (l.getD i default).2.2)
  | [], i, h => by simp at h
  | p :: l, 0, _ => by simp [pvs]
  | p :: l, i + 1, h => by
    have := pvs_at l i (by simpa using h)
    rw [show (i + 1) * 3 = i * 3 + 1 + 1 + 1 by omega]
    simpa [pvs] using this
theorem pvs_one (l : List P3) : ∀ u ∈ pvs l, u.oneCell' = true := by
  induction l with
  | nil => intro u hu; cases hu
  | cons p l ih =>
    intro u hu
    simp only [pvs, List.mem_cons] at hu
    rcases hu with rfl | rfl | rfl | hu
    · rfl
    · rfl
    · rfl
    · exact ih u hu
theorem PRd.cell {w : World} {b o : Nat} {l : List P3} (hc : ∀ i, i < l.length → w.cell? ⟨b, o + i * 3, none⟩ = some (.int .i64 (l.getD i default).1) ∧ w.cell? ⟨b, o + i * 3 + 1, none⟩ = some (.int .i64 (l.getD i default).2.1) ∧ w.cell? ⟨b, o + i * 3 + 2, none⟩ = some (.int .i64 (l.getD i default).2.2)) {j : Nat} {u : Value} (hu : (pvs l)[j]? = some u) : w.cell? ⟨b, o + j, none⟩ = some u := by
  have hj : j < l.length * 3 := by rw [← pvs_length]; exact (List.getElem?_eq_some_iff.1 hu).1
  obtain ⟨h1, h2, h3⟩ := hc (j / 3) (by omega)
  obtain ⟨g1, g2, g3⟩ := pvs_at l (j / 3) (by omega)
  have hd : j % 3 = 0 ∨ j % 3 = 1 ∨ j % 3 = 2 := by omega
  rcases hd with e | e | e
  · rw [show o + j = o + j / 3 * 3 by omega, h1, ← g1, show j / 3 * 3 = j by omega, hu]
  · rw [show o + j = o + j / 3 * 3 + 1 by omega, h2, ← g2, show j / 3 * 3 + 1 = j by omega, hu]
  · rw [show o + j = o + j / 3 * 3 + 2 by omega, h3, ← g3, show j / 3 * 3 + 2 = j by omega, hu]
theorem PRd.nil (w : World) (A : Option Addr) : PRd w A [] := fun h => absurd rfl h
theorem prd_one {w : World} {g : Nat} {x y z : Int} (h : w.cell? ⟨g, 0, none⟩ = some (.int .i64 x) ∧ w.cell? ⟨g, 1, none⟩ = some (.int .i64 y) ∧ w.cell? ⟨g, 2, none⟩ = some (.int .i64 z)) : PRd w (some ⟨g, 0, none⟩) [(x, y, z)] := fun _ => ⟨g, 0, rfl, World.block_lt_of_cell? w _ h.1, fun i hi => by
  obtain rfl : i = 0 := by simpa using hi
  simpa using h⟩
abbrev OwnPr (w : World) (base : Nat) (v : Value) (l : List P3) : Prop := w.ownsRow base 24 3 v l.length (pvs l)
theorem OwnPr.form {w : World} {base : Nat} {v : Value} {l : List P3} (h : OwnPr w base v l) :
    ∃ A c, v = .slice A l.length c ∧ l.length ≤ c ∧ PRd w A l ∧ (0 < l.length → ∃ g, A = some ⟨g, 0, none⟩ ∧ base ≤ g ∧ g < w.heap.size) := by
  rcases h.2 with ⟨rfl, hn⟩ | ⟨g, cap, cur, rfl, hb, hg, hnc, hcm, _, _⟩
  · exact ⟨none, 0, by rw [hn], by omega, fun hx => absurd (List.eq_nil_of_length_eq_zero hn) hx, fun h0 => by omega⟩
  · have hlt : g < w.heap.size := (Array.getElem?_eq_some_iff.1 hg).1
    refine ⟨_, cap, rfl, hnc, fun _ => ⟨g, 0, rfl, hlt, fun i hi => ?_⟩, fun _ => ⟨g, rfl, hb, hlt⟩⟩
    obtain ⟨g1, g2, g3⟩ := pvs_at l i hi
    have h1 := h.cellAt (i * 3) (by omega)
    have h2 := h.cellAt (i * 3 + 1) (by omega)
    have h3 := h.cellAt (i * 3 + 2) (by omega)
    rw [g1] at h1
    rw [g2] at h2
    rw [g3] at h3
    rw [Nat.zero_add]
    exact ⟨h1, h2, h3⟩
theorem OwnPr.below {w w' : World} {base : Nat} {v : Value} {l : List P3} (h : OwnPr w base v l) (hb : Below w.heap.size w w') : OwnPr w' base v l := by
  refine ⟨h.1, ?_⟩
  rcases h.2 with hn | ⟨g, cap, cur, rfl, hbg, hg, rest⟩
  · exact .inl hn
  · exact .inr ⟨g, cap, cur, rfl, hbg, by rw [hb.block g (Array.getElem?_eq_some_iff.1 hg).1]; exact hg, rest⟩
theorem OwnPr.nil (w : World) (base : Nat) : OwnPr w base (.slice none 0 0) [] := World.ownsRow_nil w base _ 3
theorem Src.procs {w : World} {tx e' : TypeId} (hk : Try.prog.underlying tx = some (.slice e')) {A : Option Addr} {ys : List P3} (c : Nat) (h : PRd w A ys) : Src Try.prog 3 tx (.slice A ys.length c) ys.length (pvs ys) w := by
  cases A with
  | none =>
    have hx : ys = [] := by
      rcases ys with _ | ⟨x, r⟩
      · rfl
      · obtain ⟨_, _, h, _⟩ := h (by simp)
        cases h
    subst hx
    exact Src.ofNil w hk c
  | some a =>
    rcases ys with _ | ⟨x, r⟩
    · exact Src.ofSlice w hk a 0 c [] rfl (fun j u h => by simp at h) (fun u h => by cases h)
    · obtain ⟨b, o, hA, _, hc⟩ := h (by simp)
      injection hA with hA
      subst hA
      refine Src.ofSlice w hk _ _ c _ (by rw [pvs_length]) (fun j u hu => ?_) (pvs_one _)
      rw [add_at]
      exact PRd.cell hc hu
theorem pr_info : (Try.prog.info? 24).map (fun i => (i.zero, i.size, i.bytes)) = some (some (.agg #[.int .i64 0, .int .i64 0, .int .i64 0]), 3, 24) := by kernel_rfl
theorem app_pr {w : World} {ops : Array Oper} {rest : List Oper} {o : Oper} {a : Act} {Q : Exit → Act → World → Prop} (hgd : Region.wanted o (yielded ops a.tmps) = true) (s y : Operand)
    (ho : o.op = .call { callee := .builtin .append, args := #[s, y], argTypes := #[41, 41] })
    (base : Nat) (V : Value) (xs : List P3) (A : Option Addr) (ys : List P3) (n c : Nat) (hn : Hid (ys.length = n)) (hv : a.eval s = V) (hx : a.eval y = .slice A n c)
    (hd : OwnPr w base V xs) (hs : PRd w A ys) (hlen : Hid (xs.length + n ≤ 1000000)) (hbase : base ≤ w.heap.size)
    (h : ∀ V' w', OwnPr w' base V' (xs ++ ys) → Below base w w' → wpList Try.prog ops Q rest (a.put o.dst V') w') :
    wpList Try.prog ops Q (o :: rest) a w := by
  have hn' := hn.out
  subst hn'
  obtain ⟨i0, hi, hz0, hz1, hz2⟩ := info_parts pr_info
  have hl := hlen.out
  refine wpList_app w hgd s y 41 41 ho base 24 i0 _ 3 24 Try.underlying41 hi hz0 hz1 hz2 rfl V xs.length (pvs xs) _ ys.length (pvs ys) hv hx (.inl hd)
    (Src.procs Try.underlying41 c hs) (by simp only [maxLen]; omega) (fits_half (by omega)) hbase (fun V' w' h1 h2 h3 h4 => h V' w' ?_ h2)
  unfold OwnPr
  rw [List.length_append, pvs_append]
  exact h1
theorem neqPr (x y z a b c : Int) (w : World) : (binOp .neq 24 (.agg #[.int .i64 x, .int .i64 y, .int .i64 z]) (.agg #[.int .i64 a, .int .i64 b, .int .i64 c])).run Try.prog w = .ok (.bool (!decide (x = a ∧ y = b ∧ z = c))) w := by
  have h := eqPr x y z a b c w
  simp only [binOp, Sem.run_bind] at h ⊢
  generalize (Op.equal 24 (.agg #[.int .i64 x, .int .i64 y, .int .i64 z]) (.agg #[.int .i64 a, .int .i64 b, .int .i64 c])).run Try.prog w = r at h ⊢
  cases r with
  | ok v w1 =>
    simp only [Result.andThen_ok, Sem.run_pure, Result.ok.injEq, Value.bool.injEq] at h ⊢
    exact ⟨by rw [h.1], h.2⟩
  | halt h1 w1 => simp [Result.andThen] at h
set_option maxHeartbeats 2000000 in
set_option maxRecDepth 8000 in
theorem sameProcs_yes (A B : Option Addr) (n c c' : Nat) (l : List P3) (w : World) (hA : PRd w A l) (hB : PRd w B l) (hn : Hid (l.length = n)) (hm : Hid (n ≤ 1000)) :
    Calls Try.prog 22 #[.slice A n c, .slice B n c'] w fun e w' => e = .returned (.bool true) ∧ Below w.heap.size w w' := by
  have HA := Lib.hid hA
  have HB := Lib.hid hB
  clear hA hB
  go_enter Try.func22, Try.ntmps22
  go_wp2
  go_loopw [5] (fun i wr => ∃ (k : Nat), k ≤ n ∧ i = .int .i64 k ∧ Hid (Below w.heap.size w wr)) (fun i _ => n - (intOf i).toNat)
  case atStart => exact ⟨0, by omega, rfl, Below.refl _ _⟩
  case round =>
    obtain ⟨k, hk, rfl, hbl⟩ := hrel
    by_cases hlt : (k : Int) < (n : Int)
    · obtain ⟨g, o, x, y, z, rfl, hg, hx, c1, c2, c3⟩ := (HA.out.below hbl.out).at_ (i := k) (by have := hn.out; omega)
      obtain ⟨g', o', x', y', z', rfl, hg', hx', d1, d2, d3⟩ := (HB.out.below hbl.out).at_ (i := k) (by have := hn.out; omega)
      have hxx := hx.out.symm.trans hx'.out
      simp only [Prod.mk.injEq] at hxx
      obtain ⟨rfl, rfl, rfl⟩ := hxx
      have e5 : IntKind.i64.wrap ((k : Int) + 1) = (k : Int) + 1 := by have := hm.out; rw [IntKind.wrap_i64]; omega
      have hne : ∀ W : World, (binOp .neq 24 (.agg #[.int .i64 x, .int .i64 y, .int .i64 z]) (.agg #[.int .i64 x, .int .i64 y, .int .i64 z])).run Try.prog W = .ok (.bool false) W := fun W => by rw [neqPr]; simp
      go_wp2
      go_quiet (fail)
      go_wp2
      go_roundw
      case rel => exact ⟨k + 1, by omega, by go_num, bdN hbl.out _⟩
      case measure => simp [intOf]; omega
    · go_wp2
      go_ret
      exact ⟨rfl, hbl.out⟩
theorem refVmd_is (a : Int) (w : World) {r : Bool} (h : Hid (vmd a = r)) : Calls Try.prog 44 #[.int .i64 a] w fun e w' => e = .returned (.bool r) ∧ w = w' := by rw [← h.out]; exact refValid_any a w
set_option maxHeartbeats 1000000 in
set_option maxRecDepth 8000 in
theorem usable_is (m u : Int) (w : World) {r : Bool} (hr : Hid (usJ m u = r)) : Calls Try.prog 34 #[aa m u] w fun e w' => e = .returned (.bool r) ∧ Below w.heap.size w w' := by
  obtain ⟨v, hv⟩ : ∃ v, Hid (vmd m = v) := ⟨_, rfl⟩
  have hu : Hid (usJ m u = ((v && decide (u = 0)) || (decide (m = 0) && decide (1 ≤ u) && decide (u ≤ 8)))) := by
    show _ = _
    rw [← hv.out]
    unfold usJ vmd
    rw [Bool.eq_iff_iff]
    simp
    omega
  have hend : Hid (r = ((v && decide (u = 0)) || (decide (m = 0) && decide (1 ≤ u) && decide (u ≤ 8)))) := by show _ = _; rw [← hr.out]; exact hu.out
  clear hr hu
  cases v with
  | false =>
    go_enter Try.func34, Try.ntmps34
    go_wp2_with (go_at_call 44; refine (refVmd_is _ _ hv).mono ?_; rintro e W1 ⟨rfl, rfl⟩)
    all_goals (
      go_ret
      have h := hend.out
      refine ⟨ret_bool ?_, newB _ _⟩
      subst h
      (try simp only [beq_iff_eq, beq_eq_false_iff_ne, ne_eq] at *)
      rw [Bool.eq_iff_iff]
      simp
      omega)
  | true =>
    go_enter Try.func34, Try.ntmps34
    go_wp2_with (go_at_call 44; refine (refVmd_is _ _ hv).mono ?_; rintro e W1 ⟨rfl, rfl⟩)
    all_goals (
      go_ret
      have h := hend.out
      refine ⟨ret_bool ?_, newB _ _⟩
      subst h
      (try simp only [beq_iff_eq, beq_eq_false_iff_ne, ne_eq] at *)
      rw [Bool.eq_iff_iff]
      simp
      omega)
/-! ### == of waiting claims -/
theorem partPrW (x y z m n p q : Int) (w : World) : (part 24 #[.int .i64 x, .int .i64 y, .int .i64 z, .int .i64 m, .int .i64 n, .int .i64 p, .int .i64 q] 0).run Try.prog w = .ok (.agg #[.int .i64 x, .int .i64 y, .int .i64 z]) w := by kernel_rfl
theorem partAmW (x y z m n p q : Int) (w : World) : (part 26 #[.int .i64 x, .int .i64 y, .int .i64 z, .int .i64 m, .int .i64 n, .int .i64 p, .int .i64 q] 3).run Try.prog w = .ok (.agg #[.int .i64 m, .int .i64 n]) w := by kernel_rfl
theorem partP5 (x y z m n p q : Int) (w : World) : (part 3 #[.int .i64 x, .int .i64 y, .int .i64 z, .int .i64 m, .int .i64 n, .int .i64 p, .int .i64 q] 5).run Try.prog w = .ok (.int .i64 p) w := by kernel_rfl
theorem partP6 (x y z m n p q : Int) (w : World) : (part 3 #[.int .i64 x, .int .i64 y, .int .i64 z, .int .i64 m, .int .i64 n, .int .i64 p, .int .i64 q] 6).run Try.prog w = .ok (.int .i64 q) w := by kernel_rfl
theorem eqIntIn (a b : Int) (w : World) : (Op.equalIn 9999 3 (.int .i64 a) (.int .i64 b)).run Try.prog w = .ok (decide (a = b)) w := by
  have u3 := Try.underlying3
  rw [show (9999 : Nat) = 9998 + 1 from rfl]
  go_simp
  rw [Bool.eq_iff_iff]
  simp
theorem eqWait (x y z m n p q a b c d e f g : Int) (w : World) : (binOp .eql 28 (wag x y z m n p q) (wag a b c d e f g)).run Try.prog w = .ok (.bool (decide (x = a ∧ y = b ∧ z = c ∧ m = d ∧ n = e ∧ p = f ∧ q = g))) w := by
  have hS : Try.prog.underlying 28 = some (.struct (Try.prog.fieldsOf 28)) := by kernel_rfl
  have hp : Try.prog.stoodInHeld 28 = false := by kernel_rfl
  rw [run_eql_struct, show (10000 : Nat) = 9999 + 1 from rfl, run_equalIn_agg w 9999 28 _ _ hS hp]
  simp only [Program.fieldsOf, Try.underlying28, Op.eqFields, Sem.run_bind, partPrW, partAmW, partP5, partP6, eqPrIn, eqAmIn, eqIntIn, Result.andThen_ok, Sem.run_ite, Sem.run_pure]
  by_cases h1 : x = a <;> by_cases h2 : y = b <;> by_cases h3 : z = c <;> by_cases h4 : m = d <;> by_cases h5 : n = e <;> simp [h1, h2, h3, h4, h5, Sem.run_bind, partAmW, partP5, partP6, eqAmIn, eqIntIn] <;> by_cases h6 : p = f <;> simp [h6, Sem.run_bind, partP6, eqIntIn] <;> by_cases h7 : q = g <;> simp [h7]
theorem neqWait (x y z m n p q a b c d e f g : Int) (w : World) : (binOp .neq 28 (wag x y z m n p q) (wag a b c d e f g)).run Try.prog w = .ok (.bool (!decide (x = a ∧ y = b ∧ z = c ∧ m = d ∧ n = e ∧ p = f ∧ q = g))) w := by
  have h := eqWait x y z m n p q a b c d e f g w
  simp only [binOp, Sem.run_bind] at h ⊢
  generalize (Op.equal 28 (wag x y z m n p q) (wag a b c d e f g)).run Try.prog w = r at h ⊢
  cases r with
  | ok v w1 =>
    simp only [Result.andThen_ok, Sem.run_pure, Result.ok.injEq, Value.bool.injEq] at h ⊢
    exact ⟨by rw [h.1], h.2⟩
  | halt h1 w1 => simp [Result.andThen] at h
end Go.Proofs.Ytfcekfdoafpmoaa
