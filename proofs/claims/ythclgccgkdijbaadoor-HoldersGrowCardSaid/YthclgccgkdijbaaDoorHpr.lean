/- Rows of processes and of amounts of the call's own: append, make, stores; == of grants. -/
import Derived.Test.YthclgccgkdijbaaDoorHrow
namespace Go.Proofs.YthclgccgkdijbaaDoor
open Go.RowKit
set_option linter.unusedVariables false
set_option linter.unusedSimpArgs false

theorem eqPrIn (a b c x y z : Int) (w : World) : (Op.equalIn 9999 26 (.agg #[.int .i64 a, .int .i64 b, .int .i64 c]) (.agg #[.int .i64 x, .int .i64 y, .int .i64 z])).run Tryd.prog w = .ok (decide (a = x ∧ b = y ∧ c = z)) w := by
  have u3 := Tryd.underlying3
  have hS : Tryd.prog.underlying 26 = some (.struct (Tryd.prog.fieldsOf 26)) := by kernel_rfl
  have hp : Tryd.prog.stoodInHeld 26 = false := by kernel_rfl
  rw [show (9999 : Nat) = 9998 + 1 from rfl, run_equalIn_agg w 9998 26 _ _ hS hp]
  simp only [Program.fieldsOf, Tryd.underlying26]
  go_simp
  by_cases h1 : a = x <;> by_cases h2 : b = y <;> by_cases h3 : c = z <;> simp [h1, h2, h3]
theorem eqAmIn (m n p q : Int) (w : World) : (Op.equalIn 9999 30 (.agg #[.int .i64 m, .int .i64 n]) (.agg #[.int .i64 p, .int .i64 q])).run Tryd.prog w = .ok (decide (m = p ∧ n = q)) w := by
  have u3 := Tryd.underlying3
  have hS : Tryd.prog.underlying 30 = some (.struct (Tryd.prog.fieldsOf 30)) := by kernel_rfl
  have hp : Tryd.prog.stoodInHeld 30 = false := by kernel_rfl
  rw [show (9999 : Nat) = 9998 + 1 from rfl, run_equalIn_agg w 9998 30 _ _ hS hp]
  simp only [Program.fieldsOf, Tryd.underlying30]
  go_simp
  by_cases h1 : m = p <;> by_cases h2 : n = q <;> simp [h1, h2]
theorem partPr (a b c m n : Int) (w : World) : (part 26 #[.int .i64 a, .int .i64 b, .int .i64 c, .int .i64 m, .int .i64 n] 0).run Tryd.prog w = .ok (.agg #[.int .i64 a, .int .i64 b, .int .i64 c]) w := by kernel_rfl
theorem partAm (a b c m n : Int) (w : World) : (part 30 #[.int .i64 a, .int .i64 b, .int .i64 c, .int .i64 m, .int .i64 n] 3).run Tryd.prog w = .ok (.agg #[.int .i64 m, .int .i64 n]) w := by kernel_rfl
theorem eqHold (a b c m n x y z p q : Int) (w : World) : (binOp .eql 53 (hag a b c m n) (hag x y z p q)).run Tryd.prog w = .ok (.bool (decide (a = x ∧ b = y ∧ c = z ∧ m = p ∧ n = q))) w := by
  have hS : Tryd.prog.underlying 53 = some (.struct (Tryd.prog.fieldsOf 53)) := by kernel_rfl
  have hp : Tryd.prog.stoodInHeld 53 = false := by kernel_rfl
  rw [run_eql_struct, show (10000 : Nat) = 9999 + 1 from rfl, run_equalIn_agg w 9999 53 _ _ hS hp]
  simp only [Program.fieldsOf, Tryd.underlying53, Op.eqFields, Sem.run_bind, partPr, partAm, eqPrIn, eqAmIn, Result.andThen_ok, Sem.run_ite, Sem.run_pure]
  by_cases h1 : a = x <;> by_cases h2 : b = y <;> by_cases h3 : c = z <;> by_cases h4 : m = p <;> by_cases h5 : n = q <;> simp [h1, h2, h3, h4, h5, Sem.run_bind, partAm, eqAmIn]
/-! ### Processes -/
def pvs : List P3 → List Value
  | [] => []
  | p :: l => .int .i64 p.1 :: .int .i64 p.2.1 :: .int .i64 p.2.2 :: pvs l
theorem pvs_length : ∀ l : List P3, (pvs l).length = l.length * 3
  | [] => rfl
  | p :: l => by simp [pvs, pvs_length l]; omega
theorem pvs_append : ∀ l r : List P3, pvs (l ++ r) = pvs l ++ pvs r
  | [], r => rfl
  | p :: l, r => by simp [pvs, pvs_append l r]
theorem pvs_at : ∀ (l : List P3) (i : Nat), i < l.length → (pvs l)[i * 3]? = some (.int .i64 (l.getD i default).1) ∧ (pvs l)[i * 3 + 1]? = some (.int .i64 (l.getD i default).2.1) ∧ (pvs l)[i * 3 + 2]? = some (.int .i64 (l.getD i default).2.2)
  | [], i, h => by simp at h
  | p :: l, 0, _ => by simp [pvs]
  | p :: l, i + 1, h => by
    have := pvs_at l i (by simpa using h)
    rw [show (i + 1) * 3 = i * 3 + 1 + 1 + 1 by omega]
    simpa [pvs] using this
theorem pvs_one (l : List P3) : ∀ u ∈ pvs l, u.oneCell' = true := by
  induction l with
  | nil => intro u hu; cases hu
  | cons p l ih =>
    intro u hu
    simp only [pvs, List.mem_cons] at hu
    rcases hu with rfl | rfl | rfl | hu
    · rfl
    · rfl
    · rfl
    · exact ih u hu
theorem pvs_set : ∀ (l : List P3) (i : Nat) (x : P3), (((pvs l).set (i * 3) (.int .i64 x.1)).set (i * 3 + 1) (.int .i64 x.2.1)).set (i * 3 + 2) (.int .i64 x.2.2) = pvs (l.set i x)
  | [], i, x => by simp [pvs]
  | p :: l, 0, x => by simp [pvs]
  | p :: l, i + 1, x => by
    have := pvs_set l i x
    rw [show (i + 1) * 3 = i * 3 + 1 + 1 + 1 by omega]
    simpa [pvs] using this
theorem pvs_zero : ∀ n : Nat, pvs (List.replicate n ((0, 0, 0) : P3)) = List.replicate (n * 3) (.int .i64 0)
  | 0 => rfl
  | n + 1 => by rw [List.replicate_succ, pvs, pvs_zero n, show (n + 1) * 3 = n * 3 + 1 + 1 + 1 by omega]; rfl
theorem av_set : ∀ (l : List P2) (i : Nat) (x : P2), ((av l).set (i * 2) (.int .i64 x.1)).set (i * 2 + 1) (.int .i64 x.2) = av (l.set i x)
  | [], i, x => by simp [av]
  | p :: l, 0, x => by simp [av]
  | p :: l, i + 1, x => by
    have := av_set l i x
    rw [show (i + 1) * 2 = i * 2 + 1 + 1 by omega]
    simpa [av] using this
theorem av_zero : ∀ n : Nat, av (List.replicate n ((0, 0) : P2)) = List.replicate (n * 2) (.int .i64 0)
  | 0 => rfl
  | n + 1 => by rw [List.replicate_succ, av, av_zero n, show (n + 1) * 2 = n * 2 + 1 + 1 by omega]; rfl
theorem PRd.cell {w : World} {b o : Nat} {l : List P3} (hc : ∀ i, i < l.length → w.cell? ⟨b, o + i * 3, none⟩ = some (.int .i64 (l.getD i default).1) ∧ w.cell? ⟨b, o + i * 3 + 1, none⟩ = some (.int .i64 (l.getD i default).2.1) ∧ w.cell? ⟨b, o + i * 3 + 2, none⟩ = some (.int .i64 (l.getD i default).2.2)) {j : Nat} {u : Value} (hu : (pvs l)[j]? = some u) : w.cell? ⟨b, o + j, none⟩ = some u := by
  have hj : j < l.length * 3 := by rw [← pvs_length]; exact (List.getElem?_eq_some_iff.1 hu).1
  obtain ⟨h1, h2, h3⟩ := hc (j / 3) (by omega)
  obtain ⟨g1, g2, g3⟩ := pvs_at l (j / 3) (by omega)
  have hd : j % 3 = 0 ∨ j % 3 = 1 ∨ j % 3 = 2 := by omega
  rcases hd with e | e | e
  · rw [show o + j = o + j / 3 * 3 by omega, h1, ← g1, show j / 3 * 3 = j by omega, hu]
  · rw [show o + j = o + j / 3 * 3 + 1 by omega, h2, ← g2, show j / 3 * 3 + 1 = j by omega, hu]
  · rw [show o + j = o + j / 3 * 3 + 2 by omega, h3, ← g3, show j / 3 * 3 + 2 = j by omega, hu]
theorem PRd.nil (w : World) (A : Option Addr) : PRd w A [] := fun h => absurd rfl h
theorem prd_one {w : World} {g : Nat} {x y z : Int} (h : w.cell? ⟨g, 0, none⟩ = some (.int .i64 x) ∧ w.cell? ⟨g, 1, none⟩ = some (.int .i64 y) ∧ w.cell? ⟨g, 2, none⟩ = some (.int .i64 z)) : PRd w (some ⟨g, 0, none⟩) [(x, y, z)] := fun _ => ⟨g, 0, rfl, World.block_lt_of_cell? w _ h.1, fun i hi => by
  obtain rfl : i = 0 := by simpa using hi
  simpa using h⟩
abbrev OwnPr (w : World) (base : Nat) (v : Value) (l : List P3) : Prop := w.ownsRow base 26 3 v l.length (pvs l)
theorem OwnPr.form {w : World} {base : Nat} {v : Value} {l : List P3} (h : OwnPr w base v l) :
    ∃ A c, v = .slice A l.length c ∧ l.length ≤ c ∧ PRd w A l ∧ (0 < l.length → ∃ g, A = some ⟨g, 0, none⟩ ∧ base ≤ g ∧ g < w.heap.size) := by
  rcases h.2 with ⟨rfl, hn⟩ | ⟨g, cap, cur, rfl, hb, hg, hnc, hcm, _, _⟩
  · exact ⟨none, 0, by rw [hn], by omega, fun hx => absurd (List.eq_nil_of_length_eq_zero hn) hx, fun h0 => by omega⟩
  · have hlt : g < w.heap.size := (Array.getElem?_eq_some_iff.1 hg).1
    refine ⟨_, cap, rfl, hnc, fun _ => ⟨g, 0, rfl, hlt, fun i hi => ?_⟩, fun _ => ⟨g, rfl, hb, hlt⟩⟩
    obtain ⟨g1, g2, g3⟩ := pvs_at l i hi
    have h1 := h.cellAt (i * 3) (by omega)
    have h2 := h.cellAt (i * 3 + 1) (by omega)
    have h3 := h.cellAt (i * 3 + 2) (by omega)
    rw [g1] at h1
    rw [g2] at h2
    rw [g3] at h3
    rw [Nat.zero_add]
    exact ⟨h1, h2, h3⟩
theorem OwnPr.below {w w' : World} {base : Nat} {v : Value} {l : List P3} (h : OwnPr w base v l) (hb : Below w.heap.size w w') : OwnPr w' base v l := by
  refine ⟨h.1, ?_⟩
  rcases h.2 with hn | ⟨g, cap, cur, rfl, hbg, hg, rest⟩
  · exact .inl hn
  · exact .inr ⟨g, cap, cur, rfl, hbg, by rw [hb.block g (Array.getElem?_eq_some_iff.1 hg).1]; exact hg, rest⟩
theorem OwnPr.nil (w : World) (base : Nat) : OwnPr w base (.slice none 0 0) [] := World.ownsRow_nil w base _ 3
theorem Src.procs {w : World} {tx e' : TypeId} (hk : Tryd.prog.underlying tx = some (.slice e')) {A : Option Addr} {ys : List P3} (c : Nat) (h : PRd w A ys) : Src Tryd.prog 3 tx (.slice A ys.length c) ys.length (pvs ys) w := by
  cases A with
  | none =>
    have hx : ys = [] := by
      rcases ys with _ | ⟨x, r⟩
      · rfl
      · obtain ⟨_, _, h, _⟩ := h (by simp)
        cases h
    subst hx
    exact Src.ofNil w hk c
  | some a =>
    rcases ys with _ | ⟨x, r⟩
    · exact Src.ofSlice w hk a 0 c [] rfl (fun j u h => by simp at h) (fun u h => by cases h)
    · obtain ⟨b, o, hA, _, hc⟩ := h (by simp)
      injection hA with hA
      subst hA
      refine Src.ofSlice w hk _ _ c _ (by rw [pvs_length]) (fun j u hu => ?_) (pvs_one _)
      rw [add_at]
      exact PRd.cell hc hu
theorem pr_info : (Tryd.prog.info? 26).map (fun i => (i.zero, i.size, i.bytes)) = some (some (.agg #[.int .i64 0, .int .i64 0, .int .i64 0]), 3, 24) := by kernel_rfl
theorem app_pr {w : World} {ops : Array Oper} {rest : List Oper} {o : Oper} {a : Act} {Q : Exit → Act → World → Prop} (hgd : Region.wanted o (yielded ops a.tmps) = true) (s y : Operand)
    (ho : o.op = .call { callee := .builtin .append, args := #[s, y], argTypes := #[33, 33] })
    (base : Nat) (V : Value) (xs : List P3) (A : Option Addr) (ys : List P3) (n c : Nat) (hn : Hid (ys.length = n)) (hv : a.eval s = V) (hx : a.eval y = .slice A n c)
    (hd : OwnPr w base V xs) (hs : PRd w A ys) (hlen : Hid (xs.length + n ≤ 1000000)) (hbase : base ≤ w.heap.size)
    (h : ∀ V' w', OwnPr w' base V' (xs ++ ys) → Below base w w' → wpList Tryd.prog ops Q rest (a.put o.dst V') w') :
    wpList Tryd.prog ops Q (o :: rest) a w := by
  have hn' := hn.out
  subst hn'
  obtain ⟨i0, hi, hz0, hz1, hz2⟩ := info_parts pr_info
  have hl := hlen.out
  refine wpList_app w hgd s y 33 33 ho base 26 i0 _ 3 24 Tryd.underlying33 hi hz0 hz1 hz2 rfl V xs.length (pvs xs) _ ys.length (pvs ys) hv hx (.inl hd)
    (Src.procs Tryd.underlying33 c hs) (by simp only [maxLen]; omega) (fits_half (by omega)) hbase (fun V' w' h1 h2 h3 h4 => h V' w' ?_ h2)
  unfold OwnPr
  rw [List.length_append, pvs_append]
  exact h1
/-! ### make and stores -/
theorem made_same (z : Value) (m : Nat) : (madeCells #[z, z, z] m) = (List.replicate m z).toArray ∧ (madeCells #[z, z] m) = (List.replicate m z).toArray := by
  refine ⟨Array.ext (by simp [madeCells]) fun i h1 h2 => ?_, Array.ext (by simp [madeCells]) fun i h1 h2 => ?_⟩
  · have hf : ∀ k : Nat, (#[z, z, z] : Array Value)[k % 3]! = z := fun k => by
      have hc : k % 3 = 0 ∨ k % 3 = 1 ∨ k % 3 = 2 := by omega
      rcases hc with e | e | e <;> rw [e] <;> rfl
    simp [madeCells, hf]
  · have hf : ∀ k : Nat, (#[z, z] : Array Value)[k % 2]! = z := fun k => by
      have hc : k % 2 = 0 ∨ k % 2 = 1 := by omega
      rcases hc with e | e <;> rw [e] <;> rfl
    simp [madeCells, hf]
abbrev zPr (n : Nat) : List P3 := List.replicate n (0, 0, 0)
abbrev zAm (n : Nat) : List P2 := List.replicate n (0, 0)
theorem make_pr (n : Nat) (hn : n ≤ 1000000) (w : World) : (Instr.makeSlice 33 (.int .i64 (n : Int)) (.int .i64 (n : Int))).run Tryd.prog w = .ok (.slice (some ⟨w.heap.size, 0, none⟩) n n) (w.alloc (.cells (pvs (zPr n)).toArray 26)) := by
  obtain ⟨i0, hi, hz0, hz1, hz2⟩ := info_parts pr_info
  have hr := run_make (P := Tryd.prog) w 33 26 i0 _ Tryd.underlying33 hi hz0 .i64 .i64 n n (by omega) (Int.le_refl _) (by rw [hz2]; omega) (by omega)
  rw [hr]
  simp only [Int.toNat_natCast, hz1, Value.cells, (made_same _ _).1, pvs_zero]
theorem make_am (n : Nat) (hn : n ≤ 1000000) (w : World) : (Instr.makeSlice 58 (.int .i64 (n : Int)) (.int .i64 (n : Int))).run Tryd.prog w = .ok (.slice (some ⟨w.heap.size, 0, none⟩) n n) (w.alloc (.cells (av (zAm n)).toArray 30)) := by
  obtain ⟨i0, hi, hz0, hz1, hz2⟩ := info_parts am_info
  have hr := run_make (P := Tryd.prog) w 58 30 i0 _ Tryd.underlying58 hi hz0 .i64 .i64 n n (by omega) (Int.le_refl _) (by rw [hz2]; omega) (by omega)
  rw [hr]
  simp only [Int.toNat_natCast, hz1, Value.cells, (made_same _ _).2, av_zero]
theorem own_pr_new (w : World) (n : Nat) (hn : n ≤ 1000000) : OwnPr (w.alloc (.cells (pvs (zPr n)).toArray 26)) w.heap.size (.slice (some ⟨w.heap.size, 0, none⟩) n n) (zPr n) := by
  have := World.ownsRow_lit (base := w.heap.size) (e := 26) (size := 3) w (pvs (zPr n)).toArray n (Nat.le_refl _) (by simp only [maxLen]; omega) (by simp [pvs_length])
  unfold OwnPr
  rw [List.length_replicate]
  exact this
theorem own_am_new (w : World) (n : Nat) (hn : n ≤ 1000000) : OwnA (w.alloc (.cells (av (zAm n)).toArray 30)) w.heap.size (.slice (some ⟨w.heap.size, 0, none⟩) n n) (zAm n) := by
  have := World.ownsRow_lit (base := w.heap.size) (e := 30) (size := 2) w (av (zAm n)).toArray n (Nat.le_refl _) (by simp only [maxLen]; omega) (by simp [av_length])
  unfold OwnA
  rw [List.length_replicate]
  exact this
theorem OwnPr.store {w : World} {base g n cap : Nat} {l : List P3} (h : OwnPr w base (.slice (some ⟨g, 0, none⟩) n cap) l) (hn : l.length = n) (i : Nat) (x : P3) :
    OwnPr (((w.setCell ⟨g, i * 3, none⟩ (.int .i64 x.1)).setCell ⟨g, i * 3 + 1, none⟩ (.int .i64 x.2.1)).setCell ⟨g, i * 3 + 2, none⟩ (.int .i64 x.2.2)) base (.slice (some ⟨g, 0, none⟩) n cap) (l.set i x) := by
  subst hn
  have h1 := ((h.stored (i * 3) (.int .i64 x.1)).1.stored (i * 3 + 1) (.int .i64 x.2.1)).1.stored (i * 3 + 2) (.int .i64 x.2.2)
  unfold OwnPr
  rw [List.length_set, ← pvs_set]
  exact h1.1
theorem OwnA.store {w : World} {base g n cap : Nat} {l : List P2} (h : OwnA w base (.slice (some ⟨g, 0, none⟩) n cap) l) (hn : l.length = n) (i : Nat) (x : P2) :
    OwnA ((w.setCell ⟨g, i * 2, none⟩ (.int .i64 x.1)).setCell ⟨g, i * 2 + 1, none⟩ (.int .i64 x.2)) base (.slice (some ⟨g, 0, none⟩) n cap) (l.set i x) := by
  subst hn
  have h1 := (h.stored (i * 2) (.int .i64 x.1)).1.stored (i * 2 + 1) (.int .i64 x.2)
  unfold OwnA
  rw [List.length_set, ← av_set]
  exact h1.1
/-- What a row filled from the front holds after k steps. -/
theorem fill_step {α : Type} [Inhabited α] (l : List α) (z : α) {k n : Nat} (hn : l.length = n) (hk : k < n) : (l.take k ++ List.replicate (n - k) z).set k (l.getD k default) = l.take (k + 1) ++ List.replicate (n - (k + 1)) z := by
  rw [List.take_succ_eq_append_getElem (by omega), List.set_append, if_neg (by simp; omega), List.length_take, show min k l.length = k by omega, Nat.sub_self, show n - k = (n - (k + 1)) + 1 by omega, List.replicate_succ, List.set_cons_zero, List.getD_eq_getElem?_getD, List.getElem?_eq_getElem (by omega), List.append_assoc]
  rfl
end Go.Proofs.YthclgccgkdijbaaDoor
