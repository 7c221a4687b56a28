/- What Parse's loop body owes: a list in a box of its own, to which one resource is appended. -/
import Derived.Test.YtmfdafffafbmpaaDoorCpar
import Derived.RangeFuncBox
namespace Go.Proofs.YtmfdafffafbmpaaDoor
open Go.RowKit Go.Shelf
set_option linter.unusedVariables false
set_option linter.unusedSimpArgs false

theorem step_app_resIn {F : Fence} {m : Nat} {w : World} {ops : Array Oper} {o : Oper} {a : Act} {K : Act → World → Prop} {Q : Exit → Act → World → Prop} {E : Prop} (hgd : o.guard = none) (s y : Operand)
    (ho : o.op = .call { callee := .builtin .append, args := #[s, y], argTypes := #[24, 24] })
    (base : Nat) (V : Value) (xs : List P4) (A : Option Addr) (ys : List P4) (n c : Nat) (hn : Hid (ys.length = n)) (hv : a.eval s = V) (hx : a.eval y = .slice A n c)
    (hd : OwnR w base V xs) (hs : RRd w A ys) (hlen : Hid (xs.length + n ≤ 1000000)) (hbase : base ≤ w.heap.size)
    (h : ∀ V' w', OwnR w' base V' (xs ++ ys) → Below base w w' → w.grownBy w' V.ownBlock → K (a.put o.dst V') w') :
    if Region.wanted o (yielded ops a.tmps) = true then Oper.wpIn F m Tryd.prog o a w K Q else E := by
  have hw : Region.wanted o (yielded ops a.tmps) = true := by simp [Region.wanted, hgd]
  rw [if_pos hw]
  have hn' := hn.out
  subst hn'
  obtain ⟨i0, hi, hz0, hz1, hz2⟩ := info_parts res_info
  have hl := hlen.out
  obtain ⟨v', w', hr, h2, h3, h4, _⟩ := run_app (P := Tryd.prog) w base 24 24 o.type 26 i0 _ 4 40 Tryd.underlying24 hi hz0 hz1 hz2 rfl V xs.length (rvs xs) _ ys.length (rvs ys) (.inl hd)
    (Src.ress Tryd.underlying24 c hs) (by simp only [maxLen]; omega) (fits_half (by omega)) hbase
  unfold Oper.wpIn
  refine ⟨by simp [Oper.about, ho, resolve, Target.leads, Sem.run_pure], ?_⟩
  rw [Oper.semAt_plain F _ _ (by rw [ho]; intro c hc; cases hc)]
  simp only [execOp, ho, resolve, invoke, builtin, Sem.run_bind, Sem.run_pure, Result.andThen_ok, List.map_toArray, List.map_cons, List.map_nil, hv, hx, hr]
  refine h v' w' ?_ h3 (h4 hd)
  unfold OwnR
  rw [List.length_append, rvs_append]
  exact h2

/-- The box B holds a row of the call's own, the resources l; block D is another box, of a string. -/
def Col (B D n0 : Nat) (l : List P4) (W : World) : Prop := (∃ v, Boxed W B 24 v ∧ OwnR W n0 v l) ∧ ∃ u, Boxed W D 9 u
theorem OwnR.kept {W W' : World} {base : Nat} {v : Value} {l : List P4} (h : OwnR W base v l) {row : Option Nat} (hg : W.grownBy W' row) (hne : v.ownBlock = none ∨ v.ownBlock ≠ row) : OwnR W' base v l := World.ownsRow.kept h hg hne
theorem Col.own (B D n0 : Nat) : Go.Own (Col B D n0) := by
  rintro s X Y row ⟨⟨v, hv, hr⟩, u, hu⟩ hg hrow
  refine ⟨⟨v, hv.kept hg (fun e' => ?_), hr.kept hg ?_⟩, u, hu.kept hg (fun e' => ?_)⟩
  · obtain ⟨o, ho, hc⟩ := hrow B e'.symm
    rw [show X.heap[B]? = _ from hv] at ho; cases ho; cases hc
  · rcases hr.2 with ⟨rfl, _⟩ | ⟨g, cap, cur, rfl, _, hgb, _⟩
    · exact .inl rfl
    · refine .inr fun e' => ?_
      obtain ⟨o, ho, hc⟩ := hrow g (by simpa [Value.ownBlock] using e'.symm)
      rw [hgb] at ho; cases ho; cases hc
  · obtain ⟨o, ho, hc⟩ := hrow D e'.symm
    rw [show X.heap[D]? = _ from hu] at ho; cases ho; cases hc
theorem boxed_drew {W : World} {B : Nat} {t : TypeId} {v : Value} (h : Boxed W B t v) : Boxed W.drew B t v := h
theorem Col.sets {B D n0 : Nat} (hne : B ≠ D) {l : List P4} {X Y : World} (h : Col B D n0 l X) (hs : Sets D X Y) : Col B D n0 l Y := by
  obtain ⟨⟨v, hv, hr⟩, u, hu⟩ := h
  have key : ∀ z, Col B D n0 l (X.setCell ⟨D, 0, none⟩ z) := fun z =>
    ⟨⟨v, hv.kept (grownBy_setCell' X D z) (fun e => hne (by cases e; rfl)), hr.kept (grownBy_setCell' X D z) (.inr (hu.not_row (by decide) hr).symm)⟩, z, hu.set z⟩
  rcases hs with ⟨z, rfl⟩ | ⟨z, rfl⟩
  · exact key z
  · obtain ⟨⟨v, hv, hr⟩, u, hu⟩ := key z
    exact ⟨⟨v, boxed_drew hv, hr.drew⟩, u, boxed_drew hu⟩
theorem boxed_of {W W' : World} {B k : Nat} {t : TypeId} {v : Value} (h : Boxed W B t v) (hb : Below k W W') (hk : B < k) : Boxed W' B t v := (hb.block B hk).trans h
/-- One more: behind the reading of the line (W1), the literal (tmp) and the append (w1), what the store leaves. -/
theorem Col.more {B D n0 : Nat} (hne : B ≠ D) (hB : n0 ≤ B) {l : List P4} {W W1 w1 : World} {V V' : Value} {r : P4} {tmp : Obj} (hbx : Boxed W B 24 V) (hown : OwnR W n0 V l) {u : Value} (hu : Boxed W D 9 u)
    (hn0 : n0 ≤ W.heap.size) (hb : Below W.heap.size W.drew W1) (ho : OwnR w1 n0 V' (l ++ [r])) (hg : (W1.alloc tmp).grownBy w1 V.ownBlock) :
    Boxed w1 B 24 V ∧ KeepsOthers W (w1.setCell ⟨B, 0, none⟩ V') ∧ KeepC D W (w1.setCell ⟨B, 0, none⟩ V') ∧ Col B D n0 (l ++ [r]) (w1.setCell ⟨B, 0, none⟩ V') ∧ Below n0 W (w1.setCell ⟨B, 0, none⟩ V') := by
  have hbx1 : Boxed W1 B 24 V := boxed_of (boxed_drew hbx) hb hbx.lt
  have hu1 : Boxed W1 D 9 u := boxed_of (boxed_drew hu) hb hu.lt
  have hown1 : OwnR W1 n0 V l := OwnR.below (w := W.drew) hown.drew hb
  obtain ⟨k1, k2, k3, k4, k5⟩ := hbx1.appended (by decide) hown1 (Nat.le_trans hn0 hb.size) hB ho hg
  have hu2 : Boxed (w1.setCell ⟨B, 0, none⟩ V') D 9 u := ((hu1.alloc tmp).kept hg (hu1.not_row (by decide) hown1)).kept (grownBy_setCell' w1 B V') (fun e => hne (by cases e; rfl))
  have hk0 : KeepsOthers W W1 := ⟨hb.size, fun k o hk _ => (hb.block k (Array.getElem?_eq_some_iff.1 hk).1).trans hk⟩
  refine ⟨k1, hk0.trans k4, fun v hv hf => ?_, ⟨⟨V', k2, k3⟩, u, hu2⟩, ((bdD (Below.refl n0 W)).trans (hb.mono hn0)).trans k5⟩
  rw [hu.cell] at hv
  cases hv
  exact ⟨hu2.cell, hu2.frozen⟩
theorem KeepC.trans {D : Nat} {X Y Z : World} (h : KeepC D X Y) (k : KeepC D Y Z) : KeepC D X Z := fun v hv hf => by
  obtain ⟨h1, h2⟩ := h v hv hf
  exact k v h1 h2
theorem KeepC.put {D : Nat} {W : World} {l : Nat} {o : Obj} (o' : Obj) (hl : W.heap[l]? = some o) (ho : o.isCells = false) : KeepC D W (W.putObj l o') := fun v hv hf => by
  have hne : D ≠ l := by
    rintro rfl
    simp only [World.cell?, hl] at hv
    cases o <;> simp_all [Obj.isCells]
  have he : (W.putObj l o').heap[D]? = W.heap[D]? := World.putObj_heap_other hne
  exact ⟨by simpa [World.cell?, he] using hv, by simpa [World.frozen?, he] using hf⟩
theorem Sets.same {D : Nat} {X Y : World} (h : Sets D X Y) (k : Nat) (o : Obj) (hk : X.heap[k]? = some o) (ho : o.isCells = false) : Y.heap[k]? = some o := by
  rcases h with ⟨z, rfl⟩ | ⟨z, rfl⟩
  · exact (KeepsOthers.setCell X _ z).same k o hk ho
  · exact (KeepsOthers.setCell X _ z).same k o hk ho
theorem Sets.below {D n0 : Nat} (hD : n0 ≤ D) {X Y w : World} (h : Sets D X Y) (hb : Below n0 w X) : Below n0 w Y := by
  rcases h with ⟨z, rfl⟩ | ⟨z, rfl⟩
  · exact hb.setCell (p := ⟨D, 0, none⟩) hD z
  · exact bdD (hb.setCell (p := ⟨D, 0, none⟩) hD z)
end Go.Proofs.YtmfdafffafbmpaaDoor
