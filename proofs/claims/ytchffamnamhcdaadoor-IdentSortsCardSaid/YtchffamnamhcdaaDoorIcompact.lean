/- slices.Compact at a sorted row of processes. -/
import Derived.Test.YtchffamnamhcdaaDoorIsort
namespace Go.Proofs.YtchffamnamhcdaaDoor
set_option linter.unusedVariables false
open Go.RowKit

theorem Row3.ats {w : World} {g i : Nat} {ps : List P3} {x y z : Int} (h : Row3 w g ps.toArray) (hi : i < ps.length) (e : ps.getD i default = (x, y, z)) :
    w.cell? ⟨g, i * 3, none⟩ = some (.int .i64 x) ∧ w.cell? ⟨g, i * 3 + 1, none⟩ = some (.int .i64 y) ∧ w.cell? ⟨g, i * 3 + 2, none⟩ = some (.int .i64 z) := by
  have h0 := (Go.Sort.HoldsK.cell h (i := i) (c := 0) (by simpa using hi) (by omega)).1
  have h1 := (Go.Sort.HoldsK.cell h (i := i) (c := 1) (by simpa using hi) (by omega)).1
  have h2 := (Go.Sort.HoldsK.cell h (i := i) (c := 2) (by simpa using hi) (by omega)).1
  have e' : ps.toArray[i]! = (x, y, z) := by
    rw [getElem!_pos _ _ (by simpa using hi), ← e, List.getD_eq_getElem?_getD, List.getElem?_eq_getElem hi]
    simp
  rw [e', Nat.zero_add] at h0 h1 h2
  exact ⟨h0, h1, h2⟩
theorem Row3.below {w w' : World} {g : Nat} {ps : List P3} (h : Row3 w g ps.toArray) (hg : g < w.heap.size) (hb : Below w.heap.size w w') : Row3 w' g ps.toArray := fun j hj => by
  obtain ⟨h1, h2⟩ := h j hj
  exact ⟨(hb.cell (p := ⟨g, 0 + j, none⟩) hg).trans h1, (hb.frozen (p := ⟨g, 0 + j, none⟩) hg).trans h2⟩
theorem Row3.prd {w : World} {g : Nat} {ps : List P3} (h : Row3 w g ps.toArray) (hg : g < w.heap.size) : PRd w (some ⟨g, 0, none⟩) ps := fun _ => by
  refine ⟨g, 0, rfl, hg, fun i hi => ?_⟩
  rw [Nat.zero_add]
  exact Row3.ats h hi rfl

/-- cs are the processes among the first j of ps, each once. -/
structure Inv (ps cs : List P3) (j : Nat) : Prop where
  mem : ∀ x, x ∈ cs ↔ x ∈ ps.take j
  asc : cs.Pairwise (fun a b => lt3 a b = true)
  last : ∀ c ∈ cs, c = ps.getD (j - 1) default ∨ lt3 c (ps.getD (j - 1) default) = true
theorem take_getD {ps : List P3} {j : Nat} (hj : j < ps.length) : ps.take (j + 1) = ps.take j ++ [ps.getD j default] := by
  rw [List.take_succ_eq_append_getElem hj, List.getD_eq_getElem?_getD, List.getElem?_eq_getElem hj]
  rfl
theorem Inv.one {ps : List P3} (h : 0 < ps.length) : Inv ps (ps.take 1) 1 := by
  obtain ⟨p, r, rfl⟩ : ∃ p r, ps = p :: r := by
    cases ps with
    | nil => simp at h
    | cons p r => exact ⟨p, r, rfl⟩
  exact ⟨fun x => Iff.rfl, by simp, fun c hc => .inl (by simpa using hc)⟩
/-- The next one is the last one again. -/
theorem Inv.same {ps cs : List P3} {j : Nat} (h : Inv ps cs (j + 1)) (hj : j + 1 < ps.length) (e : ps.getD (j + 1) default = ps.getD j default) : Inv ps cs (j + 2) := by
  refine ⟨fun x => ?_, h.asc, fun c hc => ?_⟩
  · rw [take_getD hj, List.mem_append, h.mem]
    constructor
    · exact .inl
    · rintro (hx | hx)
      · exact hx
      · rw [e] at hx
        simp only [List.mem_singleton] at hx
        rw [take_getD (by omega), hx]
        simp
  · have := h.last c hc
    simp only [Nat.add_sub_cancel] at this
    rw [show j + 2 - 1 = j + 1 by omega, e]
    exact this
/-- The next one is another. -/
theorem Inv.more {ps cs : List P3} {j : Nat} (h : Inv ps cs (j + 1)) (hs : ps.Pairwise (fun a b => lt3 b a = false)) (hj : j + 1 < ps.length) (e : ¬ ps.getD (j + 1) default = ps.getD j default) : Inv ps (cs ++ [ps.getD (j + 1) default]) (j + 2) := by
  have hlt : lt3 (ps.getD j default) (ps.getD (j + 1) default) = true := by
    have h1 := (List.pairwise_iff_getElem.1 hs) j (j + 1) (by omega) hj (by omega)
    have e1 : ps[j] = ps.getD j default := by rw [List.getD_eq_getElem?_getD, List.getElem?_eq_getElem (by omega)]; rfl
    have e2 : ps[j + 1] = ps.getD (j + 1) default := by rw [List.getD_eq_getElem?_getD, List.getElem?_eq_getElem hj]; rfl
    rw [e1, e2, lt3_no] at h1
    rw [lt3_iff]
    by_cases h2 : (ps.getD (j + 1) default).1 = (ps.getD j default).1 ∧ (ps.getD (j + 1) default).2.1 = (ps.getD j default).2.1 ∧ (ps.getD (j + 1) default).2.2 = (ps.getD j default).2.2
    · exact absurd (Prod.ext h2.1 (Prod.ext h2.2.1 h2.2.2)) e
    · omega
  have hall : ∀ c ∈ cs, lt3 c (ps.getD (j + 1) default) = true := fun c hc => by
    have := h.last c hc
    simp only [Nat.add_sub_cancel] at this
    rcases this with rfl | h1
    · exact hlt
    · exact lt3_swo.trans _ _ _ h1 hlt
  refine ⟨fun x => ?_, ?_, fun c hc => ?_⟩
  · rw [take_getD hj, List.mem_append, List.mem_append, h.mem]
  · rw [List.pairwise_append]
    exact ⟨h.asc, by simp, fun a ha b hb => by
      simp only [List.mem_singleton] at hb
      subst hb
      exact hall a ha⟩
  · rw [show j + 2 - 1 = j + 1 by omega]
    rw [List.mem_append] at hc
    rcases hc with hc | hc
    · exact .inr (hall c hc)
    · exact .inl (by simpa using hc)

theorem flat_getB {ps : List P3} {t : Nat} (ht : t < ps.length * 3) : (Go.Sort.flatK enc3 3 ps.toArray)[t]! = (enc3 (ps.getD (t / 3) default))[t % 3]! := by
  have h := flat_get ht
  rw [Array.getElem?_toList, Array.getElem?_eq_getElem (by simpa using ht)] at h
  rw [getElem!_pos _ _ (by simpa using ht)]
  exact Option.some.inj h
theorem Row3.isSome {w : World} {g : Nat} {ps : List P3} (h : Row3 w g ps.toArray) {t : Nat} (ht : t < ps.length * 3) : (w.cell? ⟨g, t, none⟩).isSome = true ∧ w.frozen? ⟨g, t, none⟩ = false := by
  have := h t (by simpa using ht)
  rw [Nat.zero_add] at this
  exact ⟨by rw [this.1]; rfl, this.2⟩
theorem Row3.set {w : World} {g i : Nat} {ps : List P3} (h : Row3 w g ps.toArray) (hi : i < ps.length) (p : P3) : Row3 (w.setCells g (i * 3) (enc3 p)) g (ps.set i p).toArray := fun t ht => by
  have ht3 : t < ps.length * 3 := by simpa using ht
  have hset : t < (ps.set i p).length * 3 := by simpa using ht3
  have hold := h t (by simpa using ht3)
  rw [Nat.zero_add] at hold ⊢
  refine ⟨?_, by rw [World.frozen?_setCells]; exact hold.2⟩
  rw [show id (Go.Sort.flatK enc3 3 (ps.set i p).toArray)[t]! = (Go.Sort.flatK enc3 3 (ps.set i p).toArray)[t]! from rfl, flat_getB hset]
  by_cases hin : i * 3 ≤ t ∧ t < i * 3 + 3
  · obtain ⟨j, hj, rfl⟩ : ∃ j, j < 3 ∧ t = i * 3 + j := ⟨t - i * 3, by omega, by omega⟩
    have hc := World.cell?_setCells_in g (enc3 p) (i * 3) w (fun j hj => (h.isSome (by have : j < 3 := hj; omega)).1) j (show j < (enc3 p).length from hj)
    rw [hc, show (i * 3 + j) / 3 = i by omega, show (i * 3 + j) % 3 = j by omega]
    rw [List.getD_eq_getElem?_getD, List.getElem?_set_self hi]
    exact congrArg some (getElem!_pos (enc3 p) j hj).symm
  · rw [World.cell?_setCells_out g (enc3 p) (i * 3) w _ (fun _ _ => by have : (enc3 p).length = 3 := rfl; simp only; omega), hold.1]
    rw [show id (Go.Sort.flatK enc3 3 ps.toArray)[t]! = (Go.Sort.flatK enc3 3 ps.toArray)[t]! from rfl, flat_getB ht3]
    congr 3
    rw [List.getD_eq_getElem?_getD, List.getD_eq_getElem?_getD, List.getElem?_set_ne (by omega)]
theorem setCells_below {B : Nat} {a : World} (b : Nat) (hb : B ≤ b) : ∀ (L : List Value) (o : Nat) (w : World), Below B a w → Below B a (w.setCells b o L)
  | [], _, _, h => h
  | v :: r, o, w, h => setCells_below b hb r (o + 1) _ (h.setCell hb v)
theorem clear_run (w : World) (g o m c : Nat) (hm : 0 < m) (hc : ∀ j, j < m * 3 → (w.cell? ⟨g, o + j, none⟩).isSome = true ∧ w.frozen? ⟨g, o + j, none⟩ = false) :
    ∃ L, ∀ ty : TypeId, (Builtin.clear_ #[38] ty #[.slice (some ⟨g, o, none⟩) m c]).run Tryd.prog w = .ok (.tuple #[]) (w.setCells g o L) := by
  have hv : ∀ w : World, (zeroValue 23).run Tryd.prog w = .ok (.agg #[.int .i64 0, .int .i64 0, .int .i64 0]) w := fun _ => by kernel_rfl
  have hlen : (Builtin.zeroCells #[.int .i64 0, .int .i64 0, .int .i64 0] m).toList.length = m * 3 := by simp [Builtin.zeroCells]
  have h1 : ∀ v ∈ (Builtin.zeroCells #[.int .i64 0, .int .i64 0, .int .i64 0] m).toList, v.oneCell' = true := by
    intro v hv
    simp only [Builtin.zeroCells, Array.toList_map, List.mem_map, Array.mem_toList_iff] at hv
    obtain ⟨i, _, rfl⟩ := hv
    have : i % 3 = 0 ∨ i % 3 = 1 ∨ i % 3 = 2 := by omega
    show ((#[Value.int .i64 0, .int .i64 0, .int .i64 0] : Array Value)[i % 3]!).oneCell' = true
    rcases this with e | e | e <;> rw [e] <;> rfl
  have hst := run_storeCells_cells (P := Tryd.prog) g o (Builtin.zeroCells #[.int .i64 0, .int .i64 0, .int .i64 0] m).toList 0 w (fun j hj => (hc j (by rw [hlen] at hj; exact hj)).1) (fun j hj => (hc j (by rw [hlen] at hj; exact hj)).2) h1
  simp only [Nat.add_zero] at hst
  obtain ⟨q, rfl⟩ : ∃ q, m = q + 1 := ⟨m - 1, by omega⟩
  refine ⟨(Builtin.zeroCells #[.int .i64 0, .int .i64 0, .int .i64 0] (q + 1)).toList, fun ty => ?_⟩
  have ht : Tryd.prog.underlying 38 = some (.slice 23) := Tryd.underlying38
  have hz : (Value.agg #[.int .i64 0, .int .i64 0, .int .i64 0]).cells = #[.int .i64 0, .int .i64 0, .int .i64 0] := by rfl
  simp [Builtin.clear_, run_underlying ht, hv, hz, hst]
theorem wpList_clear {P : Program} {w : World} {ops : Array Oper} {rest : List Oper} {o : Oper} {a : Act} {Q : Exit → Act → World → Prop} (hgd : Region.wanted o (yielded ops a.tmps) = true) (y : Operand) (t : TypeId)
    (ho : o.op = .call { callee := .builtin .clear, args := #[y], argTypes := #[t] }) (v : Value) (hv : a.eval y = v) (w' : World) (hr : (Builtin.clear_ #[t] o.type #[v]).run P w = .ok (.tuple #[]) w')
    (h : wpList P ops Q rest (a.put o.dst (.tuple #[])) w') : wpList P ops Q (o :: rest) a w :=
  wpList_step fun K hK => by
    rw [if_pos hgd]
    unfold Oper.wp execOp
    simp only [ho, resolve, invoke, builtin, Sem.run_bind, Sem.run_pure, Result.andThen_ok, List.map_toArray, List.map_cons, List.map_nil, hv, hr]
    exact hK _ _ h
theorem nePr (x y z a b c : Int) (w : World) : (binOp .neq 23 (.agg #[.int .i64 x, .int .i64 y, .int .i64 z]) (.agg #[.int .i64 a, .int .i64 b, .int .i64 c])).run Tryd.prog w = .ok (.bool (!decide (x = a ∧ y = b ∧ z = c))) w := by
  have u3 := Tryd.underlying3
  have hS : Tryd.prog.underlying 23 = some (.struct (Tryd.prog.fieldsOf 23)) := by kernel_rfl
  have hp : Tryd.prog.stoodInHeld 23 = false := by kernel_rfl
  rw [run_neq_struct, show (10000 : Nat) = 9999 + 1 from rfl, run_equalIn_agg w 9999 23 _ _ hS hp]
  simp only [Program.fieldsOf, Tryd.underlying23]
  go_simp
  by_cases h1 : x = a <;> by_cases h2 : y = b <;> by_cases h3 : z = c <;> simp [h1, h2, h3]
theorem nePr_yes {x y z a b c : Int} (h : ¬ (x = a ∧ y = b ∧ z = c)) (w : World) : (binOp .neq 23 (.agg #[.int .i64 x, .int .i64 y, .int .i64 z]) (.agg #[.int .i64 a, .int .i64 b, .int .i64 c])).run Tryd.prog w = .ok (.bool true) w := by
  rw [nePr, decide_eq_false h]
  rfl
theorem rs_get {cs ps : List P3} {i : Nat} (hi : cs.length ≤ i) : (cs ++ ps.drop cs.length).getD i default = ps.getD i default := by
  rw [List.getD_eq_getElem?_getD, List.getD_eq_getElem?_getD, List.getElem?_append_right hi, List.getElem?_drop, show cs.length + (i - cs.length) = i by omega]
theorem rs_set {cs ps : List P3} (p : P3) (hi : cs.length < ps.length) : (cs ++ ps.drop cs.length).set cs.length p = (cs ++ [p]) ++ ps.drop (cs.length + 1) := by
  rw [List.set_append_right _ _ (Nat.le_refl _), Nat.sub_self, List.drop_eq_getElem_cons hi, List.set_cons_zero]
  simp

def Compacts (g : Nat) (ps : List P3) (w : World) (e : Ending) (w' : World) : Prop :=
  ∃ (qs : List P3) (m c : Nat), e = .returned (.slice (some ⟨g, 0, none⟩) m c) ∧ qs.length = m ∧ m ≤ ps.length ∧ PRd w' (some ⟨g, 0, none⟩) qs ∧ (∀ x, x ∈ qs ↔ x ∈ ps) ∧ qs.Pairwise (fun a b => lt3 a b = true) ∧ Below g w w' ∧ m ≤ c

set_option maxHeartbeats 2000000 in
set_option maxRecDepth 8000 in
theorem compact_row (g cap n : Nat) (ps : List P3) (w : World) (hH : Hid (Row3 w g ps.toArray)) (hg : g < w.heap.size) (hn : Hid (ps.length = n)) (hcap : n ≤ cap) (hm : Hid (n ≤ 100)) (hs : Hid (ps.Pairwise (fun a b => lt3 b a = false))) (hpos : 0 < n) :
    Calls Tryd.prog 52 #[.slice (some ⟨g, 0, none⟩) n cap] w (Compacts g ps w) := by
  by_cases h2 : (n : Int) < 2
  · have hi := Inv.one (ps := ps) (by have := hn.out; omega)
    rw [List.take_of_length_le (by have := hn.out; omega)] at hi
    have HI := Lib.hid hi
    clear hi
    go_enter Tryd.func52, Tryd.ntmps52
    go_wp2
    go_ret
    exact ⟨ps, n, cap, rfl, hn.out, by have := hn.out; omega, Row3.prd hH.out hg, fun x => Iff.rfl, HI.out.asc, Below.refl _ _, hcap⟩
  · go_enter Tryd.func52, Tryd.ntmps52
    go_wp2
    go_loopw [3] (fun i wr => ∃ (kk : Nat), kk < n ∧ i = .int .i64 ((kk + 1 : Nat) : Int) ∧ Hid (Row3 wr g ps.toArray) ∧ Hid (g < wr.heap.size) ∧ Hid (Below g w wr) ∧ Hid (Inv ps (ps.take (kk + 1)) (kk + 1))) (fun i _ => n - (intOf i).toNat)
    case atStart => exact ⟨0, hpos, rfl, hH, hg, Below.refl _ _, Inv.one (by have := hn.out; omega)⟩
    case round =>
      obtain ⟨kk, hk, rfl, hrow, hgw, hbl, hinv⟩ := hrel
      by_cases hlt : ((kk + 1 : Nat) : Int) < (n : Int)
      · obtain ⟨x, y, z, hx⟩ : ∃ x y z, Hid (ps.getD (kk + 1) default = (x, y, z)) := ⟨_, _, _, rfl⟩
        obtain ⟨a, b, c, ha⟩ : ∃ a b c, Hid (ps.getD kk default = (a, b, c)) := ⟨_, _, _, rfl⟩
        obtain ⟨c1, c2, c3⟩ := Row3.ats (i := kk + 1) hrow.out (by have := hn.out; omega) hx.out
        obtain ⟨d1, d2, d3⟩ := Row3.ats (i := kk) hrow.out (by have := hn.out; omega) ha.out
        have e1 : IntKind.i64.wrap (kk : Int) = (kk : Int) := by have := hm.out; rw [IntKind.wrap_i64]; omega
        have e2 : IntKind.i64.wrap ((kk : Int) + 1 + 1) = (kk : Int) + 1 + 1 := by have := hm.out; rw [IntKind.wrap_i64]; omega
        have e3 : (kk : Int) < (n : Int) := by omega
        by_cases he : x = a ∧ y = b ∧ z = c
        · obtain ⟨rfl, rfl, rfl⟩ := he
          go_wp2
          go_quiet (fail)
          have hin0 : Hid (Inv ps (ps.take (kk + 1)) (kk + 1 + 0 + 1)) := hinv.out.same (by have := hn.out; omega) (by rw [hx.out, ha.out])
          obtain ⟨L, hL⟩ : ∃ L, n - (kk + 1) = L := ⟨_, rfl⟩
          obtain ⟨C, hC⟩ : ∃ C, cap - (kk + 1) = C := ⟨_, rfl⟩
          have hLn : Hid (kk + 1 + L = n) := by show _ = _; omega
          have hL1 : 1 ≤ L := by omega
          go_wp2
          have HL := Lib.hid hL
          clear hL hC c1 c2 c3 d1 d2 d3 e1 e2 e3 hx ha
          go_loopw [3, 5] (fun i k2 wr => ∃ (j m : Nat) (cs : List P3), j < L ∧ 1 ≤ m ∧ m ≤ kk + 1 + j ∧ Hid (cs.length = m) ∧ i = .int .i64 ((m : Nat) : Int) ∧ k2 = .int .i64 ((j + 1 : Nat) : Int) ∧ Hid (Row3 wr g (cs ++ ps.drop cs.length).toArray) ∧ Hid (g < wr.heap.size) ∧ Hid (Below g w wr) ∧ Hid (Inv ps cs (kk + 1 + j + 1))) (fun _ k2 _ => L - (intOf k2).toNat)
          case atStart => exact ⟨0, kk + 1, ps.take (kk + 1), hL1, by omega, by omega, by show _ = _; have := hn.out; rw [List.length_take]; omega, rfl, rfl, by
              have e : ps.take (kk + 1) ++ ps.drop (ps.take (kk + 1)).length = ps := by
                rw [List.length_take, Nat.min_eq_left (by have := hn.out; omega), List.take_append_drop]
              show Row3 _ _ _
              rw [e]
              exact hrow.out.below hgw.out (bdN (Below.refl _ _) _), hgw, bdN hbl.out _, hin0⟩
          case round =>
            obtain ⟨j, m, cs, hj, hm1, hmj, hcm, rfl, rfl, hro, hgi, hbi, hiv⟩ := hrel
            have hrl : Hid ((cs ++ ps.drop cs.length).length = n) := by
              show _ = _
              have := hn.out
              have := hcm.out
              have := hLn.out
              simp
              omega
            have hmn : m < n := by have := hLn.out; omega
            by_cases hjl : ((j + 1 : Nat) : Int) < (L : Int)
            · obtain ⟨x', y', z', hx⟩ : ∃ x y z, Hid (ps.getD (kk + 1 + j + 1) default = (x, y, z)) := ⟨_, _, _, rfl⟩
              obtain ⟨a', b', c', ha⟩ : ∃ x y z, Hid (ps.getD (kk + 1 + j) default = (x, y, z)) := ⟨_, _, _, rfl⟩
              obtain ⟨c1, c2, c3⟩ := Row3.ats (i := kk + 1 + j + 1) hro.out (by have := hrl.out; have := hLn.out; omega) ((rs_get (by have := hcm.out; omega)).trans hx.out)
              obtain ⟨d1, d2, d3⟩ := Row3.ats (i := kk + 1 + j) hro.out (by have := hrl.out; have := hLn.out; omega) ((rs_get (by have := hcm.out; omega)).trans ha.out)
              rw [show (kk + 1 + j + 1) * 3 = (kk + 1) * 3 + (j + 1) * 3 by omega] at c1 c2 c3
              rw [show (kk + 1 + j) * 3 = (kk + 1) * 3 + j * 3 by omega] at d1 d2 d3
              have e1 : IntKind.i64.wrap (j : Int) = (j : Int) := by have := hm.out; have := hLn.out; rw [IntKind.wrap_i64]; omega
              have e2 : IntKind.i64.wrap ((j : Int) + 1 + 1) = (j : Int) + 1 + 1 := by have := hm.out; have := hLn.out; rw [IntKind.wrap_i64]; omega
              have e3 : (j : Int) < (L : Int) := by omega
              have b1 : (j : Int) + 1 < (L : Int) := by omega
              have b2 : 0 ≤ (j : Int) + 1 := by omega
              have b3 : ((j : Int) + 1).toNat = j + 1 := by omega
              have e4 : IntKind.i64.wrap ((m : Int) + 1) = (m : Int) + 1 := by have := hm.out; rw [IntKind.wrap_i64]; omega
              have e5 : (m : Int) < (n : Int) := by omega
              by_cases hq : x' = a' ∧ y' = b' ∧ z' = c'
              · obtain ⟨rfl, rfl, rfl⟩ := hq
                have hiv2 : Hid (Inv ps cs (kk + 1 + (j + 1) + 1)) := hiv.out.same (by have := hn.out; have := hLn.out; omega) (by rw [hx.out, ha.out])
                go_wp2
                go_quiet (fail)
                go_wp2
                go_roundw
                case rel => exact ⟨j + 1, m, cs, by omega, hm1, by omega, hcm, rfl, by go_num, hro.out.below hgi.out (bdN (Below.refl _ _) _), hgi, bdN hbi.out _, hiv2⟩
                case measure => simp [intOf]; omega
              · have hne := nePr_yes hq
                have hiv2 : Hid (Inv ps (cs ++ [(x', y', z')]) (kk + 1 + (j + 1) + 1)) := by
                  have := hiv.out.more hs.out (by have := hn.out; have := hLn.out; omega) (fun e => hq (by rw [hx.out, ha.out] at e; simpa using e))
                  rw [hx.out] at this
                  exact this
                clear hq
                have hst : Hid (∀ q, Row3 ((wr.drewN q).setCells g (m * 3) (enc3 (x', y', z'))) g ((cs ++ [(x', y', z')]) ++ ps.drop (cs ++ [(x', y', z')]).length).toArray) := fun q => by
                  have h1 := Row3.set (hro.out.below hgi.out (bdN (Below.refl _ _) q)) (i := m) (by have := hrl.out; omega) (x', y', z')
                  have hm' := hcm.out
                  subst hm'
                  rw [rs_set _ (by have := hn.out; omega)] at h1
                  rw [List.length_append]
                  exact h1
                have hB : Hid (∀ q (u v t : Value), Below g w ((((wr.drewN q).setCell ⟨g, m * 3, none⟩ u).setCell ⟨g, m * 3 + 1, none⟩ v).setCell ⟨g, m * 3 + 2, none⟩ t)) := fun q u v t =>
                  (((bdN hbi.out q).setCell (Nat.le_refl _) _).setCell (Nat.le_refl _) _).setCell (Nat.le_refl _) _
                obtain ⟨v1, hv1⟩ := Option.isSome_iff_exists.1 (hro.out.isSome (t := m * 3) (by have := hrl.out; omega)).1
                obtain ⟨v2, hv2⟩ := Option.isSome_iff_exists.1 (hro.out.isSome (t := m * 3 + 1) (by have := hrl.out; omega)).1
                obtain ⟨v3, hv3⟩ := Option.isSome_iff_exists.1 (hro.out.isSome (t := m * 3 + 2) (by have := hrl.out; omega)).1
                have f1 := (hro.out.isSome (t := m * 3) (by have := hrl.out; omega)).2
                have f2 := (hro.out.isSome (t := m * 3 + 1) (by have := hrl.out; omega)).2
                have f3 := (hro.out.isSome (t := m * 3 + 2) (by have := hrl.out; omega)).2
                go_wp2
                go_quiet (fail)
                go_wp2
                exact ⟨⟨j + 1, m + 1, cs ++ [(x', y', z')], by omega, by omega, by omega, by show _ = _; have := hcm.out; simp; omega, by go_num, by go_num, hst.out nq, Nat.lt_of_lt_of_le hg (hB.out nq _ _ _).size, hB.out nq _ _ _, hiv2⟩, by simp [intOf]; omega⟩
            · have hjL : Hid (kk + 1 + j + 1 = n) := by show _ = _; have := hLn.out; omega
              have hfin : Hid (Inv ps cs n) := by
                have := hiv.out
                rw [hjL.out] at this
                exact this
              obtain ⟨R, hR⟩ : ∃ R, Hid (n - m = R) := ⟨_, rfl⟩
              obtain ⟨CL, hcl⟩ := clear_run wr g (m * 3) (n - m) (cap - m) (by omega) (fun t ht => hro.out.isSome (by have := hrl.out; omega))
              have hB : Hid (Below g w (wr.setCells g (m * 3) CL)) := setCells_below g (Nat.le_refl _) _ _ _ hbi.out
              have hP : Hid (PRd (wr.setCells g (m * 3) CL) (some ⟨g, 0, none⟩) cs) := fun _ => by
                refine ⟨g, 0, rfl, Nat.lt_of_lt_of_le hg hB.out.size, fun i hi => ?_⟩
                have hi' : i < m := by have := hcm.out; omega
                have e : (cs ++ ps.drop cs.length).getD i default = cs.getD i default := by
                  rw [List.getD_eq_getElem?_getD, List.getD_eq_getElem?_getD, List.getElem?_append_left hi]
                obtain ⟨h1, h2, h3⟩ := Row3.ats (i := i) hro.out (by have := hrl.out; omega) (e.trans rfl)
                rw [Nat.zero_add]
                refine ⟨?_, ?_, ?_⟩
                · rw [World.cell?_setCells_out g CL (m * 3) wr _ (fun _ _ => Or.inl (by simp only; omega))]; exact h1
                · rw [World.cell?_setCells_out g CL (m * 3) wr _ (fun _ _ => Or.inl (by simp only; omega))]; exact h2
                · rw [World.cell?_setCells_out g CL (m * 3) wr _ (fun _ _ => Or.inl (by simp only; omega))]; exact h3
              have e5 : (m : Int) ≤ (n : Int) := by omega
              have e6 : (m : Int) ≤ (cap : Int) := by omega
              have e7 : (n : Int) ≤ (cap : Int) := by omega
              go_wp2_with (at_builtin; (refine wpList_clear rfl (.tmp 56) _ rfl _ rfl _ (hcl _) ?_))
              go_ret
              exact ⟨cs, m, cap, rfl, hcm.out, by have := hn.out; omega, hP.out, fun x => by rw [hfin.out.mem, List.take_of_length_le (by have := hn.out; omega)], hfin.out.asc, hB.out, by omega⟩
        · have hne := eqPr_no he
          have hinv2 : Hid (Inv ps (ps.take (kk + 2)) (kk + 2)) := by
            have := hinv.out.more hs.out (by have := hn.out; omega) (fun e => he (by rw [hx.out, ha.out] at e; simpa using e))
            rwa [← take_getD (by have := hn.out; omega)] at this
          clear he
          go_wp2
          go_quiet (fail)
          go_wp2
          go_roundw
          case rel => exact ⟨kk + 1, by omega, by go_num, hrow.out.below hgw.out (bdN (Below.refl _ _) _), hgw, bdN hbl.out _, hinv2⟩
          case measure => simp [intOf]; omega
      · have hkn : kk + 1 = n := by omega
        subst hkn
        go_wp2
        go_ret
        refine ⟨ps, kk + 1, cap, rfl, hn.out, by have := hn.out; omega, Row3.prd hrow.out hgw.out, fun x => Iff.rfl, ?_, hbl.out, hcap⟩
        have := hinv.out.asc
        rwa [List.take_of_length_le (by have := hn.out; omega)] at this
end Go.Proofs.YtchffamnamhcdaaDoor
