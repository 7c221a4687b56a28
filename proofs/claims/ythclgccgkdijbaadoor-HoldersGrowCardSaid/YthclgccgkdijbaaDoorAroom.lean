/- Contracts: whether there is room for one amount more. -/
import Derived.Test.YthclgccgkdijbaaDoorAcat
import Derived.Test.YthclgccgkdijbaaDoorArcomp
import Derived.Deep.AppendLies
namespace Go.Proofs.YthclgccgkdijbaaDoor
open Go.RowKit
open Go.Sort (grow)
set_option linter.unusedVariables false
set_option linter.unusedSimpArgs false

abbrev E2 (W : World) (g : Nat) (x y : Int) : Prop := W.cell? ⟨g, 0, none⟩ = some (.int .i64 x) ∧ W.cell? ⟨g, 1, none⟩ = some (.int .i64 y)
theorem E2.of {w W : World} {g : Nat} {x y : Int} (hb : Below w.heap.size w W) (hg : g < w.heap.size) (hc : E2 w g x y) : E2 W g x y :=
  ⟨(hb.cell (p := ⟨g, 0, none⟩) hg).trans hc.1, (hb.cell (p := ⟨g, 1, none⟩) hg).trans hc.2⟩
theorem ard_one {W : World} {g : Nat} {x y : Int} (h : E2 W g x y) : ARd W (some ⟨g, 0, none⟩) [(x, y)] := fun _ =>
  ⟨g, 0, rfl, World.block_lt_of_cell? W _ h.1, fun i hi => by
    obtain rfl : i = 0 := by simpa using hi
    exact h⟩
/-- The two boxes of a call on a resource and an amount. -/
abbrev T2 (w : World) (s : ByteArray) (k u h m n : Int) : World := (w.alloc (.cells #[.string s, .int .i64 k, .int .i64 u, .int .i64 h] 23)).alloc (.cells #[.int .i64 m, .int .i64 n] 30)
theorem keep2 {w W : World} {s : ByteArray} {k u h m n : Int} (hW : Below (T2 w s k u h m n).heap.size (T2 w s k u h m n) W) :
    Below (T2 w s k u h m n).heap.size (T2 w s k u h m n) W ∧ S4 W w.heap.size s k u h ∧ E2 W (w.heap.size + 1) m n :=
  ⟨hW, S4.of hW (by simp [T2]; omega) ⟨by simp [T2], by simp [T2], by simp [T2], by simp [T2]⟩, E2.of hW (by simp [T2]) ⟨by simp [T2], by simp [T2]⟩⟩

abbrev T4 (w : World) (s : ByteArray) (k u h m n : Int) (A : Option Addr) (q c : Nat) : World := ((T2 w s k u h m n).alloc (.cells #[.int .i64 m, .int .i64 n] 30)).alloc (.cells #[.slice A q c, .slice (some ⟨w.heap.size + 1 + 1, 0, none⟩) 1 1] 58)
theorem concat_two (w : World) (s : ByteArray) (k u h x y : Int) (A : Option Addr) (n c : Nat) (l : List P2) (hl : ARd w A l) (hn : Hid (l.length = n)) (hm : Hid (n ≤ 900)) :
    Calls Tryd.prog 72 #[.slice (some ⟨w.heap.size + 1 + 1 + 1, 0, none⟩) 2 2] (T4 w s k u h x y A n c).drew fun e w' => ∃ A' c', e = .returned (.slice A' (n + 1) c') ∧ ARd w' A' (l ++ [(x, y)]) ∧ Below (T2 w s k u h x y).heap.size (T2 w s k u h x y) w' := by
  refine (concat_am (w.heap.size + 1 + 1 + 1) n 1 c 1 A (some ⟨w.heap.size + 1 + 1, 0, none⟩) l [(x, y)] _ ?_ ?_ ?_ ?_ hn rfl ?_ ?_).mono ?_
  · show (T4 w s k u h x y A n c).cell? _ = _; simp [T4, T2, go_sem]
  · show (T4 w s k u h x y A n c).cell? _ = _; simp [T4, T2, go_sem]
  · exact hl.below (bdD (new4 w _ _ _ _))
  · exact ard_one ⟨by show (T4 w s k u h x y A n c).cell? _ = _; simp [T4, T2, go_sem], by show (T4 w s k u h x y A n c).cell? _ = _; simp [T4, T2, go_sem]⟩
  · have := hm.out
    show _ ≤ _
    omega
  · show _ < _
    omega
  · rintro e w' ⟨V, rfl, ho, hb⟩
    obtain ⟨A', c', rfl, _, hr, _⟩ := ho.form
    have hn' := hn.out
    refine ⟨A', c', by simp [hn'], hr, nx (bdD (new2 _ _ _)) hb⟩
set_option maxHeartbeats 2000000 in
set_option maxRecDepth 8000 in
theorem room_is (s : ByteArray) (k u h : Int) (A : Option Addr) (n c : Nat) (l : List P2) (x y : Int) (w : World) (hV : Vars w) (hl : ARd w A l) (hn : Hid (l.length = n)) (hm : Hid (n ≤ 900)) {r : Bool} (hr : Hid (Cmp k u (l ++ [(x, y)]) ↔ r = true)) :
    Calls Tryd.prog 53 #[ra s k u h, .slice A n c, aa x y] w fun e w' => e = .returned (.bool r) ∧ Below w.heap.size w w' := by
  have HC := Lib.hid (concat_two w s k u h x y A n c l hl hn hm)
  have HV : Hid (∀ W, Below (T2 w s k u h x y).heap.size (T2 w s k u h x y) W → Vars W) := fun W hW => hV.below (nx (new2 w _ _) hW)
  have hn1 : Hid ((l ++ [(x, y)]).length = n + 1) := by show _ = _; rw [List.length_append, hn.out]; rfl
  have hm1 : Hid (n + 1 ≤ 1000) := by have := hm.out; show _ ≤ _; omega
  clear hl hV
  go_enter Tryd.func53, Tryd.ntmps53
  go_wp2
  go_region_held3 (fun W => Below (T2 w s k u h x y).heap.size (T2 w s k u h x y) W ∧ S4 W w.heap.size s k u h ∧ E2 W (w.heap.size + 1) x y)
    (first
      | exact keep2 (Below.refl _ _)
      | exact keep2 (bdD (Below.refl _ _))
      | exact keep2 hb1
      | (go_split_ands; exact keep2 (nxA (by assumption) _))
      | (go_split_ands; exact keep2 (nx (by assumption) hb2)))
    (first
      | (go_at_call 72; (with_reducible refine HC.out.mono ?_); rintro e W1 ⟨A1, c1, rfl, ha1, hb1⟩; have HA1 := Lib.hid ha1; clear ha1)
      | (go_at_call 35; (with_reducible refine (compat_is _ _ _ _ _ _ _ _ _ (HV.out _ hb1) HA1.out hn1 hm1 hr).mono ?_); rintro e W2 ⟨rfl, hb2⟩))
  all_goals (go_wp2; go_ret; go_split_ands; exact ⟨rfl, nx (new2 w _ _) (by assumption)⟩)

/-- append of amounts at a step of a region that draws. -/
theorem step_app_am {w : World} {ops : Array Oper} {o : Oper} {a : Act} {K : Act → World → Prop} {Q : Exit → Act → World → Prop} {E : Prop} (hgd : o.guard = none) (s y : Operand)
    (ho : o.op = .call { callee := .builtin .append, args := #[s, y], argTypes := #[58, 58] })
    (base : Nat) (V : Value) (xs : List P2) (A : Option Addr) (ys : List P2) (n c : Nat) (hn : Hid (ys.length = n)) (hv : a.eval s = V) (hx : a.eval y = .slice A n c)
    (hd : OwnA w base V xs) (hs : ARd w A ys) (hlen : Hid (xs.length + n ≤ 1000000)) (hbase : base ≤ w.heap.size)
    (h : ∀ V' w', OwnA w' base V' (xs ++ ys) → Below base w w' → w.grownBy w' V.ownBlock → K (a.put o.dst V') w') :
    if Region.wanted o (yielded ops a.tmps) = true then Oper.wp Tryd.prog o a w K Q else E := by
  have hw : Region.wanted o (yielded ops a.tmps) = true := by simp [Region.wanted, hgd]
  rw [if_pos hw]
  have hn' := hn.out
  subst hn'
  obtain ⟨i0, hi, hz0, hz1, hz2⟩ := info_parts am_info
  have hl := hlen.out
  obtain ⟨v', w', hr, h2, h3, h4, _⟩ := run_app (P := Tryd.prog) w base 58 58 o.type 30 i0 _ 2 16 Tryd.underlying58 hi hz0 hz1 hz2 rfl V xs.length (av xs) _ ys.length (av ys) (.inl hd)
    (Src.ams Tryd.underlying58 c hs) (by simp only [maxLen]; omega) (fits_half (by omega)) hbase
  unfold Oper.wp execOp
  simp only [ho, resolve, invoke, builtin, Sem.run_bind, Sem.run_pure, Result.andThen_ok, List.map_toArray, List.map_cons, List.map_nil, hv, hx, hr]
  refine h v' w' ?_ h3 (h4 hd)
  unfold OwnA
  rw [List.length_append, av_append]
  exact h2

theorem step_app_form {w : World} {ops : Array Oper} {o : Oper} {a : Act} {K : Act → World → Prop} {Q : Exit → Act → World → Prop} {E : Prop} (hgd : o.guard = none) (s y : Operand)
    (ho : o.op = .call { callee := .builtin .append, args := #[s, y], argTypes := #[58, 58] })
    (base : Nat) (V : Value) (xs : List P2) (A : Option Addr) (ys : List P2) (n c : Nat) (hn : Hid (ys.length = n)) (hv : a.eval s = V) (hx : a.eval y = .slice A n c)
    (hd : OwnA w base V xs) (hs : ARd w A ys) (hlen : Hid (xs.length + n ≤ 1000000)) (hbase : base ≤ w.heap.size) (zs : List P2) (hz : xs ++ ys = zs) (q : Nat) (hq : Hid (zs.length = q))
    (h : ∀ A' c' w', Hid (ARd w' A' zs) → Hid (Below base w w') → K (a.put o.dst (.slice A' q c')) w') :
    if Region.wanted o (yielded ops a.tmps) = true then Oper.wp Tryd.prog o a w K Q else E :=
  step_app_am hgd s y ho base V xs A ys n c hn hv hx hd hs hlen hbase fun V' w' h1 h2 _ => by
    obtain ⟨A2, c2, rfl, _, hr2, _⟩ := h1.form
    rw [hz, hq.out]
    rw [hz] at hr2
    exact h A2 c2 w' hr2 h2
theorem E2.far {w w' : World} {row : Option Nat} (hg : w.grownBy w' row) {g : Nat} {x y : Int} (h : E2 w g x y) (hne : some g ≠ row) : E2 w' g x y := by
  have hlt : g < w.heap.size := World.block_lt_of_cell? w _ h.1
  exact ⟨(hg.cell_far ⟨g, 0, none⟩ hlt hne).trans h.1, (hg.cell_far ⟨g, 1, none⟩ hlt hne).trans h.2⟩
theorem size_T2 (w : World) (s : ByteArray) (k u h x y : Int) : (T2 w s k u h x y).heap.size = w.heap.size + 1 + 1 := by simp [T2]
abbrev oE : Obj := .cells #[] 30
abbrev oB (x y : Int) : Obj := .cells #[.int .i64 x, .int .i64 y] 30
theorem ownA_a (W : World) (G : Nat) (hG : W.heap.size = G) : OwnA (W.alloc oE).drew W.heap.size (.slice (some ⟨G, 0, none⟩) 0 0) [] := by
  subst hG
  exact (OwnA.empty W W.heap.size (Nat.le_refl _)).below (bdD (Below.refl _ _))
theorem ownA_b (W : World) (o : Obj) (G : Nat) (hG : W.heap.size = G) : OwnA ((W.alloc oE).alloc o).drew W.heap.size (.slice (some ⟨G, 0, none⟩) 0 0) [] := by
  subst hG
  exact (OwnA.empty W W.heap.size (Nat.le_refl _)).below (bdD (newB _ _))
theorem ownA_c (W : World) (o : Obj) (G : Nat) (hG : W.heap.size + 1 = G) : OwnA ((W.alloc o).alloc oE).drew W.heap.size (.slice (some ⟨G, 0, none⟩) 0 0) [] := by
  have e : (W.alloc o).heap.size = G := by simpa using hG
  subst e
  exact (OwnA.empty (W.alloc o) W.heap.size (by simp)).below (bdD (Below.refl _ _))

end Go.Proofs.YthclgccgkdijbaaDoor
