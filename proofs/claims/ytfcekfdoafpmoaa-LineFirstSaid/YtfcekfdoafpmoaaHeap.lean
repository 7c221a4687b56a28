/- Slices of bytes as lists of integers, and one law on append for every kind of source and of destination. Nothing here speaks of a program. -/
import Derived.Deep.AppendSrc
import Derived.WalkKit
namespace Go.Proofs.Ytfcekfdoafpmoaa
open Go.RowKit

/-- Whatever capacity the slice had, room for 'need' elements is no more than the machine bears. -/
def Fits (need bytes : Nat) : Prop := ∀ old, old < need → Builtin.nextslicecap need old * bytes ≤ 281474976710656

theorem fits_half {need bytes : Nat} (h : need * bytes ≤ 140737488355328) : Fits need bytes := fun _ ho => growslice_fits ho h

theorem growBy_le (n : Nat) : ∀ (r c : Nat), c ≤ n + (n + 768) / 4 → Builtin.growBy n r c ≤ n + (n + 768) / 4
  | 0, c, h => by simpa [Builtin.growBy] using h
  | r + 1, c, h => by
    unfold Builtin.growBy
    split
    · exact h
    · exact growBy_le n r _ (by omega)

theorem fits_bytes {need : Nat} (h : need ≤ 225179981368000) : Fits need 1 := by
  intro old ho
  unfold Builtin.nextslicecap
  split
  · omega
  · split
    · omega
    · have := growBy_le need 4 old (by omega)
      omega

section
variable {P : Program} (w : World)

theorem run_append_room_own (t tx ty e : TypeId) (i : TypeInfo) (ht : P.underlying t = some (.slice e)) (hi : P.info? e = some i)
    (g sLen sCap : Nat) (cur : Array Value) (hg : w.heap[g]? = some (.cells cur e (0, 0)))
    (x : Value) (m : Nat) (news : List Value) (hs : Src P i.size tx x m news w)
    (hroom : sLen + m ≤ sCap) (hfit : sLen * i.size + news.length ≤ cur.size) :
    (Builtin.append_ #[t, tx] ty #[.slice (some ⟨g, 0, none⟩) sLen sCap, x]).run P w =
      .ok (.slice (some ⟨g, 0, none⟩) (sLen + m) sCap) (w.setRow g (cur.toList.take (sLen * i.size) ++ news ++ cur.toList.drop (sLen * i.size + news.length)).toArray) := by
  have hst := run_storeCells_at P g (sLen * i.size) e news 0 cur w hg (by simpa using hfit) hs.one
  simp only [Nat.add_zero] at hst
  rcases hs.kind with ⟨e', hk⟩ | hk <;> simp [Builtin.append_, run_underlying ht, run_underlying hk, sizeOf, typeInfo, hi, hs.len, hroom, hs.cells, Addr.add_lit, hst]

/-- A slice that is read, not owned, and has no room left. -/
def FullRow (w : World) (size : Nat) (v : Value) (n : Nat) (xs : List Value) : Prop :=
  xs.length = n * size ∧ ∃ A : Option Addr, v = .slice A n n ∧ (A = none → n = 0) ∧ ∀ b, A = some b → ∀ j u, xs[j]? = some u → w.cell? (b.add j) = some u

/-- append onto a row of the call's own, or onto a full slice (then something is appended): the result is the call's own row. -/
theorem run_app (base : Nat) (t tx ty e : TypeId) (i : TypeInfo) (z : Value) (size bytes : Nat) (ht : P.underlying t = some (.slice e)) (hi : P.info? e = some i) (hz : i.zero = some z)
    (hsize : i.size = size) (hby : i.bytes = bytes) (hzs : z.cells.size = size)
    (v : Value) (n : Nat) (xs : List Value) (x : Value) (m : Nat) (news : List Value)
    (hd : w.ownsRow base e size v n xs ∨ (FullRow w size v n xs ∧ 0 < m)) (hs : Src P size tx x m news w)
    (h63 : n + m ≤ maxLen) (hfit : Fits (n + m) bytes) (hbase : base ≤ w.heap.size) :
    ∃ v' w', (Builtin.append_ #[t, tx] ty #[v, x]).run P w = .ok v' w' ∧ w'.ownsRow base e size v' (n + m) (xs ++ news) ∧ Below base w w' ∧
      (w.ownsRow base e size v n xs → w.grownBy w' v.ownBlock) ∧ (v'.ownBlock = v.ownBlock ∨ v'.ownBlock = some w.heap.size) := by
  subst hsize
  subst hby
  have hlen : ∀ h : xs.length = n * i.size, (xs ++ news).length = (n + m) * i.size := fun h => by rw [List.length_append, h, hs.newsLen, Nat.add_mul]
  have grown : ∀ (old : Nat), xs.length = n * i.size → old < n + m → ∀ (row : Option Nat),
      (w.drew.alloc (.cells ((xs ++ news).toArray ++ Builtin.zeroCells z.cells (grownCap w (n + m) old e - (n + m))) e)).ownsRow base e i.size
        (.slice (some ⟨w.heap.size, 0, none⟩) (n + m) (grownCap w (n + m) old e)) (n + m) (xs ++ news) ∧
      w.grownBy (w.drew.alloc (.cells ((xs ++ news).toArray ++ Builtin.zeroCells z.cells (grownCap w (n + m) old e - (n + m))) e)) row := by
    intro old hx ho row
    have hge := grownCap_ge w (n + m) old e
    have hcm : grownCap w (n + m) old e ≤ maxLen := grownCap_le_maxLen w (n + m) old e h63
    refine ⟨⟨hlen hx, .inr ⟨w.heap.size, _, _, rfl, hbase, heap_alloc_new w.drew _, hge, hcm, ?_, ?_⟩⟩, ⟨rfl, rfl, rfl, by simp, fun k hk _ => heap_alloc_old w.drew _ hk⟩⟩
    · rw [Array.size_append, List.size_toArray, size_zeroCells, hzs, hlen hx, ← Nat.add_mul]
      congr 1
      omega
    · rw [Array.toList_append, ← hlen hx]
      exact List.take_left
  have hsmall : ((n + m : Nat) : Int) ≤ 9223372036854775807 := by simp only [maxLen] at h63; omega
  rcases hd with ⟨hxl, hn | ⟨g, cap, cur, rfl, hbg, hg, hnc, hcm, hcs, htake⟩⟩ | ⟨⟨hxl, A, rfl, hA, hcell⟩, hm⟩
  · obtain ⟨rfl, rfl⟩ := hn
    have hx : xs = [] := List.eq_nil_of_length_eq_zero (by simpa using hxl)
    subst hx
    by_cases hm : m = 0
    · subst hm
      have hn : news = [] := List.eq_nil_of_length_eq_zero (by simpa using hs.newsLen)
      subst hn
      refine ⟨.slice none 0 0, w, ?_, World.ownsRow_nil w base e i.size, Below.refl _ _, fun _ => ⟨rfl, rfl, rfl, Nat.le_refl _, fun _ _ _ => rfl⟩, .inl rfl⟩
      have hc := hs.cells
      rcases hs.kind with ⟨e', hk⟩ | hk <;> simp [Builtin.append_, run_underlying ht, run_underlying hk, sizeOf, typeInfo, hi, hs.len, hc]
    · have hr := run_append_grow_src (P := P) w t tx ty e i z ht hi hz none 0 0 [] (run_firstCells_none w.drew i.size 0 0 0) x m news hs (by omega) hsmall (hfit 0 (by omega))
      have hgr := grown 0 hxl (by omega) (Value.ownBlock (.slice none 0 0))
      exact ⟨_, _, hr, hgr.1, (Below.refl _ _).grown hgr.2 hbase (by simp [Value.ownBlock]), fun _ => hgr.2, .inr rfl⟩
  · by_cases hroom : n + m ≤ cap
    · have hfit' : n * i.size + news.length ≤ cur.size := by rw [hs.newsLen, hcs, ← Nat.add_mul]; exact Nat.mul_le_mul_right _ hroom
      have hr := run_append_room_own (P := P) w t tx ty e i ht hi g n cap cur hg x m news hs hroom hfit'
      have hgb : w.grownBy (w.setRow g (cur.toList.take (n * i.size) ++ news ++ cur.toList.drop (n * i.size + news.length)).toArray) (some g) :=
        ⟨rfl, rfl, rfl, by simp, fun k _ hk => setRow_other w g k _ (fun e => hk (by simp [e]))⟩
      refine ⟨_, _, hr, ⟨hlen hxl, .inr ⟨g, cap, _, rfl, hbg, setRow_heap w g cur _ e _ hg, hroom, hcm, ?_, ?_⟩⟩, (Below.refl _ _).grown hgb hbase (fun k hk => by injection hk with hk; omega), fun _ => hgb, .inl rfl⟩
      · simp only [List.size_toArray, List.length_append, List.length_take, List.length_drop, Array.length_toList]
        omega
      · rw [htake, ← hlen hxl]
        exact List.take_left
    · have holds : ∀ j u, xs[j]? = some u → w.cell? ((⟨g, 0, none⟩ : Addr).add j) = some u :=
        World.ownsRow.cells (w := w) (base := base) (e := e) (size := i.size) (v := .slice (some ⟨g, 0, none⟩) n cap) (n := n) ⟨hxl, .inr ⟨g, cap, cur, rfl, hbg, hg, hnc, hcm, hcs, htake⟩⟩ rfl
      have hold := run_firstCells_some (P := P) w.drew i.size n ⟨g, 0, none⟩ n cap xs hxl (by simpa using holds)
      have hr := run_append_grow_src (P := P) w t tx ty e i z ht hi hz (some ⟨g, 0, none⟩) n cap xs hold x m news hs (by omega) hsmall (hfit cap (by omega))
      have hgr := grown cap hxl (by omega) (some g)
      exact ⟨_, _, hr, hgr.1, (Below.refl _ _).grown hgr.2 hbase (fun k hk => by injection hk with hk; omega), fun _ => hgr.2, .inr rfl⟩
  · have hold : (Builtin.firstCells i.size n (.slice A n n)).run P w.drew = .ok xs.toArray w.drew := by
      cases A with
      | none =>
        have h0 := hA rfl
        subst h0
        have hx : xs = [] := List.eq_nil_of_length_eq_zero (by simpa using hxl)
        subst hx
        exact run_firstCells_none w.drew i.size 0 0 0
      | some b => exact run_firstCells_some (P := P) w.drew i.size n b n n xs hxl (by simpa using hcell b rfl)
    have hr := run_append_grow_src (P := P) w t tx ty e i z ht hi hz A n n xs hold x m news hs (by omega) hsmall (hfit n (by omega))
    have hgr := grown n hxl (by omega) none
    refine ⟨_, _, hr, hgr.1, (Below.refl _ _).grown hgr.2 hbase (by simp), fun ho => ?_, .inr rfl⟩
    exact ⟨hgr.2.os, hgr.2.tape, hgr.2.output, hgr.2.size, fun k hk _ => hgr.2.block k hk (by simp)⟩

theorem wpList_app {ops : Array Oper} {rest : List Oper} {o : Oper} {a : Act} {Q : Exit → Act → World → Prop} (hgd : Region.wanted o (yielded ops a.tmps) = true) (s y : Operand) (t tx : TypeId)
    (ho : o.op = .call { callee := .builtin .append, args := #[s, y], argTypes := #[t, tx] })
    (base : Nat) (e : TypeId) (i : TypeInfo) (z : Value) (size bytes : Nat) (ht : P.underlying t = some (.slice e)) (hi : P.info? e = some i) (hz : i.zero = some z)
    (hsize : i.size = size) (hby : i.bytes = bytes) (hzs : z.cells.size = size)
    (v : Value) (n : Nat) (xs : List Value) (x : Value) (m : Nat) (news : List Value) (hv : a.eval s = v) (hx : a.eval y = x)
    (hd : w.ownsRow base e size v n xs ∨ (FullRow w size v n xs ∧ 0 < m)) (hs : Src P size tx x m news w)
    (h63 : n + m ≤ maxLen) (hfit : Fits (n + m) bytes) (hbase : base ≤ w.heap.size)
    (h : ∀ v' w', w'.ownsRow base e size v' (n + m) (xs ++ news) → Below base w w' → (w.ownsRow base e size v n xs → w.grownBy w' v.ownBlock) → (v'.ownBlock = v.ownBlock ∨ v'.ownBlock = some w.heap.size) →
      wpList P ops Q rest (a.put o.dst v') w') : wpList P ops Q (o :: rest) a w :=
  wpList_step fun K hK => by
    rw [if_pos hgd]
    obtain ⟨v', w', hr, h2, h3, h4, h5⟩ := run_app (P := P) w base t tx o.type e i z size bytes ht hi hz hsize hby hzs v n xs x m news hd hs h63 hfit hbase
    unfold Oper.wp execOp
    simp only [ho, resolve, invoke, builtin, Sem.run_bind, Sem.run_pure, Result.andThen_ok, List.map_toArray, List.map_cons, List.map_nil, hv, hx, hr]
    exact hK _ _ (h v' w' h2 h3 h4 h5)
end

/-! ### Bytes -/

/-- The cells of a list of bytes. -/
def bv (xs : List Int) : List Value := xs.map (Value.int .u8)
def Byt (xs : List Int) : Prop := ∀ x ∈ xs, 0 ≤ x ∧ x < 256

theorem bv_length (xs : List Int) : (bv xs).length = xs.length := by simp [bv]
theorem bv_append (xs ys : List Int) : bv (xs ++ ys) = bv xs ++ bv ys := by simp [bv]
theorem bv_one (xs : List Int) : ∀ u ∈ bv xs, u.oneCell' = true := by
  intro u hu
  obtain ⟨x, _, rfl⟩ := List.mem_map.1 hu
  rfl
theorem bv_get {xs : List Int} {j : Nat} {u : Value} (h : (bv xs)[j]? = some u) : j < xs.length ∧ u = .int .u8 (xs.getD j 0) := by
  simp only [bv, List.getElem?_map, Option.map_eq_some_iff] at h
  obtain ⟨x, hx, rfl⟩ := h
  obtain ⟨hj, hx⟩ := List.getElem?_eq_some_iff.1 hx
  exact ⟨hj, by simp [List.getD_eq_getElem?_getD, List.getElem?_eq_getElem hj, hx]⟩

theorem Byt.nil : Byt [] := fun _ h => by cases h
theorem Byt.append {xs ys : List Int} (h : Byt xs) (k : Byt ys) : Byt (xs ++ ys) := fun x hx => (List.mem_append.1 hx).elim (h x) (k x)
theorem Byt.cons {x : Int} {xs : List Int} (h0 : 0 ≤ x) (h1 : x < 256) (h : Byt xs) : Byt (x :: xs) := fun y hy => by
  rcases List.mem_cons.1 hy with rfl | hy
  · exact ⟨h0, h1⟩
  · exact h y hy
theorem Byt.take {xs : List Int} (h : Byt xs) (n : Nat) : Byt (xs.take n) := fun x hx => h x (List.mem_of_mem_take hx)
theorem Byt.drop {xs : List Int} (h : Byt xs) (n : Nat) : Byt (xs.drop n) := fun x hx => h x (List.mem_of_mem_drop hx)
theorem Byt.getD {xs : List Int} (h : Byt xs) (i : Nat) : 0 ≤ xs.getD i 0 ∧ xs.getD i 0 < 256 := by
  rw [List.getD_eq_getElem?_getD]
  rcases Nat.lt_or_ge i xs.length with hi | hi
  · rw [List.getElem?_eq_getElem hi]; exact h _ (List.getElem_mem hi)
  · rw [List.getElem?_eq_none hi]; simp

/-- The slice at A reads as xs, an element a cell. -/
def Rd (w : World) (A : Option Addr) (xs : List Int) : Prop :=
  xs ≠ [] → ∃ b o, A = some ⟨b, o, none⟩ ∧ b < w.heap.size ∧ ∀ i, i < xs.length → w.cell? ⟨b, o + i, none⟩ = some (.int .u8 (xs.getD i 0))

theorem add_at (b o i : Nat) : (⟨b, o, none⟩ : Addr).add i = ⟨b, o + i, none⟩ := by unfold Addr.add; split <;> simp_all

theorem Rd.nil (w : World) (A : Option Addr) : Rd w A [] := fun h => absurd rfl h
theorem Rd.at_ {w : World} {A : Option Addr} {xs : List Int} (h : Rd w A xs) {i : Nat} (hi : i < xs.length) :
    ∃ b o, A = some ⟨b, o, none⟩ ∧ b < w.heap.size ∧ w.cell? ⟨b, o + i, none⟩ = some (.int .u8 (xs.getD i 0)) := by
  obtain ⟨b, o, hA, hb, hc⟩ := h (by rintro rfl; simp at hi)
  exact ⟨b, o, hA, hb, hc i hi⟩
theorem Rd.below {w w' : World} {A : Option Addr} {xs : List Int} (h : Rd w A xs) (hb : Below w.heap.size w w') : Rd w' A xs := fun hx => by
  obtain ⟨b, o, hA, hlt, hc⟩ := h hx
  exact ⟨b, o, hA, Nat.lt_of_lt_of_le hlt hb.size, fun i hi => (hb.cell (p := ⟨b, o + i, none⟩) hlt).trans (hc i hi)⟩
theorem Rd.drop {w : World} {A : Option Addr} {xs : List Int} (h : Rd w A xs) (k : Nat) : Rd w (A.map fun a => a.add k) (xs.drop k) := fun hx => by
  have hk : k < xs.length := by
    rcases Nat.lt_or_ge k xs.length with hk | hk
    · exact hk
    · exact absurd (List.drop_eq_nil_of_le hk) hx
  obtain ⟨b, o, rfl, hlt, hc⟩ := h (by rintro rfl; simp at hk)
  refine ⟨b, o + k, by simp [add_at], hlt, fun i hi => ?_⟩
  have hi' : k + i < xs.length := by rw [List.length_drop] at hi; omega
  rw [Nat.add_assoc, hc (k + i) hi']
  simp [List.getD_eq_getElem?_getD, List.getElem?_drop]
theorem Rd.take {w : World} {A : Option Addr} {xs : List Int} (h : Rd w A xs) (k : Nat) : Rd w A (xs.take k) := fun hx => by
  obtain ⟨b, o, rfl, hlt, hc⟩ := h (by rintro rfl; simp at hx)
  refine ⟨b, o, rfl, hlt, fun i hi => ?_⟩
  rw [List.length_take] at hi
  rw [hc i (by omega)]
  simp [List.getD_eq_getElem?_getD, show i < k by omega]

/-- A row of bytes of the call's own. U: uint8's number. -/
def Own (U : TypeId) (w : World) (base : Nat) (v : Value) (xs : List Int) : Prop := w.ownsRow base U 1 v xs.length (bv xs)

theorem Own.form {U : TypeId} {w : World} {base : Nat} {v : Value} {xs : List Int} (h : Own U w base v xs) :
    ∃ A c, v = .slice A xs.length c ∧ xs.length ≤ c ∧ c ≤ maxLen ∧ Rd w A xs ∧ (A = none → c = 0) ∧ (∀ b, A = some b → base ≤ b.block ∧ b.block < w.heap.size) := by
  rcases h.2 with ⟨rfl, hn⟩ | ⟨g, cap, cur, rfl, hb, hg, hnc, hcm, _, _⟩
  · exact ⟨none, 0, by rw [hn], by omega, by simp [maxLen], fun hx => absurd (List.eq_nil_of_length_eq_zero hn) hx, fun _ => rfl, fun b hb => (by cases hb)⟩
  · have hlt : g < w.heap.size := (Array.getElem?_eq_some_iff.1 hg).1
    refine ⟨_, cap, rfl, hnc, hcm, fun _ => ⟨g, 0, rfl, hlt, fun i hi => ?_⟩, fun hn => (by cases hn), fun b he => (by injection he with he; subst he; exact ⟨hb, hlt⟩)⟩
    have hc := World.ownsRow.cells h (g := g) rfl i (.int .u8 (xs.getD i 0)) (by
      simp only [bv, List.getElem?_map, List.getElem?_eq_getElem hi, List.getD_eq_getElem?_getD]; rfl)
    rwa [add_at] at hc

theorem Own.below {U : TypeId} {w w' : World} {base : Nat} {v : Value} {xs : List Int} (h : Own U w base v xs) (hb : Below w.heap.size w w') : Own U w' base v xs := by
  refine ⟨h.1, ?_⟩
  rcases h.2 with hn | ⟨g, cap, cur, rfl, hbg, hg, rest⟩
  · exact .inl hn
  · exact .inr ⟨g, cap, cur, rfl, hbg, by rw [hb.block g (Array.getElem?_eq_some_iff.1 hg).1]; exact hg, rest⟩
theorem Own.mono {U : TypeId} {w : World} {base base' : Nat} {v : Value} {xs : List Int} (h : Own U w base v xs) (hb : base' ≤ base) : Own U w base' v xs := by
  refine ⟨h.1, ?_⟩
  rcases h.2 with hn | ⟨g, cap, cur, rfl, hbg, rest⟩
  · exact .inl hn
  · exact .inr ⟨g, cap, cur, rfl, Nat.le_trans hb hbg, rest⟩
theorem Own.nil (U : TypeId) (w : World) (base : Nat) : Own U w base (.slice none 0 0) [] := World.ownsRow_nil w base U 1
theorem Own.empty (U : TypeId) (w : World) (base : Nat) (h : base ≤ w.heap.size) : Own U (w.alloc (.cells #[] U)) base (.slice (some ⟨w.heap.size, 0, none⟩) 0 0) [] :=
  World.ownsRow_made w #[] 0 h (Nat.zero_le _) rfl

section
variable {P : Program} {w : World}
/-- A slice of bytes as the source of an append. -/
theorem Src.bytes {tx e' : TypeId} (hk : P.underlying tx = some (.slice e')) {A : Option Addr} {xs : List Int} (c : Nat) (h : Rd w A xs) : Src P 1 tx (.slice A xs.length c) xs.length (bv xs) w := by
  cases A with
  | none =>
    have hx : xs = [] := by
      rcases xs with _ | ⟨x, r⟩
      · rfl
      · obtain ⟨_, _, h, _⟩ := h (by simp)
        cases h
    subst hx
    exact Src.ofNil w hk c
  | some a =>
    rcases xs with _ | ⟨x, r⟩
    · exact Src.ofSlice w hk a 0 c [] rfl (fun j u h => by simp at h) (fun u h => by cases h)
    · obtain ⟨b, o, hA, _, hc⟩ := h (by simp)
      injection hA with hA
      subst hA
      refine Src.ofSlice w hk _ _ c _ (by simp [bv]) (fun j u hu => ?_) (bv_one _)
      obtain ⟨hj, rfl⟩ := bv_get hu
      rw [add_at]
      exact hc j hj
/-- A slice of bytes without room. -/
theorem FullRow.bytes {A : Option Addr} {xs : List Int} (h : Rd w A xs) : FullRow w 1 (.slice A xs.length xs.length) xs.length (bv xs) := by
  refine ⟨by simp [bv], A, rfl, fun hA => ?_, fun b hb j u hu => ?_⟩
  · rcases xs with _ | ⟨x, r⟩
    · rfl
    · obtain ⟨_, _, h, _⟩ := h (by simp)
      rw [hA] at h
      cases h
  · obtain ⟨hj, rfl⟩ := bv_get hu
    obtain ⟨b', o, hA, _, hc⟩ := h.at_ hj
    rw [hb] at hA
    injection hA with hA
    subst hA
    rw [add_at]
    exact hc
end
end Go.Proofs.Ytfcekfdoafpmoaa
