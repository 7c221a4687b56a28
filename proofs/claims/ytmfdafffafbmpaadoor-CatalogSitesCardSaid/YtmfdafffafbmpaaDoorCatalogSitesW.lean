/- CatalogSites walked. -/
import Derived.Test.YtmfdafffafbmpaaDoorCall
namespace Go.Proofs.YtmfdafffafbmpaaDoor
set_option linter.unusedVariables false
open Go.RowKit

/-! ### The catalog, site by site. Plain words. -/
/-- The resources of the sites below t, and the first i of site t. -/
noncomputable def outL (l : List P4) (t : Int) (i : Nat) : List P4 := by
  classical exact l.filter (fun r => decide (r.2.2.2 < t ∨ (r.2.2.2 = t ∧ r ∈ (atL l t).take i)))
theorem outL_mem {l : List P4} {t : Int} {i : Nat} {r : P4} : r ∈ outL l t i ↔ r ∈ l ∧ (r.2.2.2 < t ∨ (r.2.2.2 = t ∧ r ∈ (atL l t).take i)) := by simp [outL]
theorem atL_mem {l : List P4} {t : Int} {r : P4} : r ∈ atL l t ↔ r ∈ l ∧ r.2.2.2 = t := by simp [atL]
theorem outL_sub (l : List P4) (t : Int) (i : Nat) : (outL l t i).Sublist l := List.filter_sublist
theorem Vcat.sub {l x : List P4} (h : Vcat l) (hs : x.Sublist l) : Vcat x :=
  Vcat.mk (Nat.le_trans hs.length_le h.1) (fun r hr => h.res (hs.subset hr)) (Asc.of (h.asc.pw.sublist hs))
theorem outL_pw {l : List P4} (h : Vcat l) (t : Int) (i : Nat) : (outL l t i).Pairwise (fun a b => ltS a.1 b.1 = true) := h.asc.pw.sublist (outL_sub l t i)
theorem outL_zero {l : List P4} (h : Vcat l) : outL l 0 0 = [] := by
  apply List.eq_nil_iff_forall_not_mem.2
  intro r hr
  obtain ⟨h1, h2 | ⟨_, h2⟩⟩ := outL_mem.1 hr
  · have := (h.res h1).2.2.1; omega
  · simp at h2
theorem outL_next {l : List P4} (h : Vcat l) (t : Int) : outL l t (atL l t).length = outL l (t + 1) 0 := by
  refine pw_ext (outL_pw h _ _) (outL_pw h _ _) fun r => ?_
  rw [outL_mem, outL_mem]
  constructor
  · rintro ⟨h1, h2 | ⟨h2, _⟩⟩
    · exact ⟨h1, .inl (by omega)⟩
    · exact ⟨h1, .inl (by omega)⟩
  · rintro ⟨h1, h2 | ⟨h2, h3⟩⟩
    · by_cases e : r.2.2.2 = t
      · exact ⟨h1, .inr ⟨e, by rw [List.take_length]; exact atL_mem.2 ⟨h1, e⟩⟩⟩
      · exact ⟨h1, .inl (by omega)⟩
    · simp at h3
theorem outL_end {l : List P4} (h : Vcat l) : outL l 4 0 = l := by
  refine pw_ext (outL_pw h _ _) h.asc.pw fun r => ?_
  rw [outL_mem]
  exact ⟨fun hh => hh.1, fun hh => ⟨hh, .inl (h.res hh).2.2.2⟩⟩
theorem uniq4 {l : List P4} (h : Asc l) {a b : P4} (ha : a ∈ l) (hb : b ∈ l) (e : a.1 = b.1) : a = b := by
  obtain ⟨i, hi, rfl⟩ := mem_getD4 ha
  obtain ⟨j, hj, rfl⟩ := mem_getD4 hb
  rcases Nat.lt_trichotomy i j with hij | hij | hij
  · exact absurd e (ltS_ne (h i j hij hj))
  · rw [hij]
  · exact absurd e.symm (ltS_ne (h j i hij hi))
theorem outL_step {l : List P4} (h : Vcat l) {t : Int} {i : Nat} (hi : i < (atL l t).length) : Ins (outL l t i) ((atL l t).getD i default) 0 (outL l t (i + 1)) := by
  obtain ⟨r, hr⟩ : ∃ r, (atL l t).getD i default = r := ⟨_, rfl⟩
  have hm : r ∈ atL l t := by rw [← hr]; exact getD_mem4 hi
  obtain ⟨hl, ht⟩ := atL_mem.1 hm
  have hAs : Asc (atL l t) := Asc.of (h.asc.pw.sublist List.filter_sublist)
  have hnot : r ∉ (atL l t).take i := by
    intro hh
    obtain ⟨j, hj, hj2, e⟩ := mem_take4 hh
    have := hAs j i hj hi
    rw [e, hr, ltS_irr] at this
    cases this
  have hno : No4 (outL l t i) r.1 := by
    intro k hk e
    have h1 := getD_mem4 hk
    have h2 := uniq4 h.asc (outL_mem.1 h1).1 hl e
    rw [h2] at h1
    rcases (outL_mem.1 h1).2 with h3 | ⟨_, h3⟩
    · omega
    · exact hnot h3
  have hv := h.sub (outL_sub l t i)
  obtain ⟨p, hp⟩ := plc_ex hv.asc r.1
  have hput : putL (outL l t i) p r = outL l t (i + 1) := by
    refine pw_ext (putL_pw hv.asc hp hno) (outL_pw h _ _) fun x => ?_
    rw [putL_mem, outL_mem, outL_mem, take_snoc4 hi, hr, List.mem_append, List.mem_singleton]
    constructor
    · rintro (rfl | ⟨h1, h2 | ⟨h2, h3⟩⟩)
      · exact ⟨hl, .inr ⟨ht, .inr rfl⟩⟩
      · exact ⟨h1, .inl h2⟩
      · exact ⟨h1, .inr ⟨h2, .inl h3⟩⟩
    · rintro ⟨h1, h2 | ⟨h2, h3 | h3⟩⟩
      · exact .inr ⟨h1, .inl h2⟩
      · exact .inr ⟨h1, .inr ⟨h2, h3⟩⟩
      · exact .inl h3
  have hlen := putL_length (outL l t i) r hp.1
  rw [hput] at hlen
  have h8 := (h.sub (outL_sub l t (i + 1))).1
  rw [hr]
  exact .inr (.inr (.inr (.inr (.inr ⟨hv, h.res hl, hno, by omega, rfl, p, hp, hput.symm⟩))))
/-- How many resources the sites below t have. -/
def cntH (l : List P4) (t : Int) : Nat := l.countP (fun r => decide (r.2.2.2 < t))
theorem cntH_zero {l : List P4} (h : Vcat l) : cntH l 0 = 0 := by
  unfold cntH
  rw [List.countP_eq_zero]
  intro r hr
  have := (h.res hr).2.2.1
  simp; omega
theorem cntH_next : ∀ (l : List P4) (t : Int), cntH l (t + 1) = cntH l t + (atL l t).length
  | [], t => rfl
  | r :: l, t => by
    have ih := cntH_next l t
    unfold cntH atL at *
    have hc : (decide (r.2.2.2 < t) = true ∧ decide (r.2.2.2 < t + 1) = true ∧ decide (r.2.2.2 = t) = false) ∨ (decide (r.2.2.2 < t) = false ∧ decide (r.2.2.2 < t + 1) = true ∧ decide (r.2.2.2 = t) = true) ∨ (decide (r.2.2.2 < t) = false ∧ decide (r.2.2.2 < t + 1) = false ∧ decide (r.2.2.2 = t) = false) := by
      simp only [decide_eq_true_eq, decide_eq_false_iff_not]
      omega
    rcases hc with ⟨a1, a2, a3⟩ | ⟨a1, a2, a3⟩ | ⟨a1, a2, a3⟩ <;> simp only [List.countP_cons, List.filter_cons, a1, a2, a3, if_true, List.length_cons, Bool.false_eq_true, if_false] <;> omega
theorem cntH_end {l : List P4} (h : Vcat l) : cntH l 4 = l.length := by
  unfold cntH
  rw [List.countP_eq_length]
  intro r hr
  have := (h.res hr).2.2.2
  simp; omega
theorem cntH_le (l : List P4) (t : Int) : cntH l t ≤ l.length := List.countP_le_length

set_option maxHeartbeats 8000000 in
set_option maxRecDepth 8000 in
theorem CatalogSites_walk (A0 : Option Addr) (n0 c0 : Nat) (x0 : List P4) (w : World) (hV : Vars w) (w0 : InR w A0 n0 c0 x0) :
    Calls Tryd.prog 9 #[.slice A0 n0 c0] w fun e w' => e = .returned (.bool true) ∧ Below w.heap.size w w' := by
  have HI := Lib.hid w0
  have hn : Hid (x0.length = n0) := w0.len
  clear hV w0
  by_cases hvc : Vcat x0
  · have hv := Lib.hid hvc
    have h8 : n0 ≤ 8 := by have := hvc.1; have := hn.out; omega
    clear hvc
    go_enter Tryd.func9, Tryd.ntmps9
    go_wp2_with (first
      | (go_at_call 21; refine (refVcat_yes _ _ _ _ _ HI.out.rd hn hv).mono ?_; rintro e W1 ⟨rfl, hg1⟩; have HB1 := Lib.hid hg1.below; clear hg1))
    go_loopw [3, 4, 5] (fun V cn si wr => ∃ (t q : Nat) (Ax : Option Addr) (mx cx : Nat), t ≤ 4 ∧ si = .int .i64 t ∧ cn = .int .i64 q ∧ V = .slice Ax mx cx ∧ q ≤ 8 ∧ Hid (q = cntH x0 t) ∧ Hid (InR wr Ax mx cx (outL x0 t 0)) ∧ Hid (Below w.heap.size w wr)) (fun _ _ si _ => 4 - (intOf si).toNat)
    case atStart => exact ⟨0, 0, none, 0, 0, by omega, rfl, rfl, rfl, by omega, (cntH_zero hv.out).symm, by show InR _ _ _ _ _; rw [show ((0 : Nat) : Int) = 0 from rfl, outL_zero hv.out]; exact InR.none _, HB1.out⟩
    case round =>
      obtain ⟨t, q, Ax, mx, cx, ht, rfl, rfl, rfl, hq8, hq, hx, hB⟩ := hrel
      by_cases hlt : (t : Int) < 4
      · obtain ⟨P, hP⟩ : ∃ P, Hid (atL x0 t = P) := ⟨_, rfl⟩
        obtain ⟨d, hd⟩ : ∃ d, Hid (P.length = d) := ⟨_, rfl⟩
        have hqd : Hid (q + d = cntH x0 ((t + 1 : Nat) : Int)) := by
          show _ = _
          rw [show ((t + 1 : Nat) : Int) = (t : Int) + 1 by omega, cntH_next, hP.out, hd.out, hq.out]
        have hqd8 : q + d ≤ 8 := by have := cntH_le x0 ((t + 1 : Nat) : Int); have := hqd.out; have := hn.out; omega
        have e1 : IntKind.i64.wrap ((q : Int) + (d : Int)) = (q : Int) + (d : Int) := by rw [IntKind.wrap_i64]; omega
        have e5 : IntKind.i64.wrap ((t : Int) + 1) = (t : Int) + 1 := by rw [IntKind.wrap_i64]; omega
        obtain ⟨WR, hWR⟩ : ∃ WR, WR = wr := ⟨_, rfl⟩
        go_wp2_with (first
          | (go_at_call 31; refine (at_is _ _ _ _ _ _ (HI.out.below hB.out) hP).mono ?_; rintro e W2 ⟨Ap, cp, rfl, hr2, hb2⟩; rw [hd.out] at hr2 ⊢; have HR2 := Lib.hid hr2; have HX2 := Lib.hid (hx.out.below hb2); have HB2 := Lib.hid (nx hB.out hb2); clear hr2 hb2))
        go_loopw [3, 7] (fun V i wr => ∃ (j : Nat) (Ax : Option Addr) (mx cx : Nat), j ≤ d ∧ i = .int .i64 j ∧ V = .slice Ax mx cx ∧ Hid (InR wr Ax mx cx (outL x0 t j)) ∧ Hid (Below W2.heap.size W2 wr)) (fun _ i _ => d - (intOf i).toNat)
        case atStart => exact ⟨0, Ax, mx, cx, by omega, rfl, rfl, HX2, Below.refl _ _⟩
        case round =>
          obtain ⟨j, Ay, my, cy, hj, rfl, rfl, hy, hC⟩ := hrel
          by_cases hlt2 : (j : Int) < (d : Int)
          · obtain ⟨g, o, s, k, u, h, rfl, hg, hxx, g1, g2, g3, g4⟩ := (HR2.out.rd.below hC.out).at_ (i := j) (by have := hd.out; omega)
            have hins : Hid (Ins (outL x0 t j) (s, k, u, h) 0 (outL x0 t (j + 1))) := by
              have := outL_step (t := (t : Int)) (i := j) hv.out (by rw [hP.out, hd.out]; omega)
              rw [hP.out, hxx.out] at this
              exact this
            have e6 : IntKind.i64.wrap ((j : Int) + 1) = (j : Int) + 1 := by rw [IntKind.wrap_i64]; omega
            go_wp2_with (first
              | (go_at_call 22; refine (insert_is _ _ _ _ _ _ _ _ _ hy.out hins).mono ?_; rintro e W3 ⟨A3, m3, k3, rfl, hr3, hb3⟩; have HR3 := Lib.hid hr3; have HB3 := Lib.hid (nx hC.out hb3); clear hr3 hb3))
            go_roundw
            case rel => exact ⟨j + 1, A3, m3, k3, by omega, by go_num, rfl, HR3, HB3⟩
            case measure => simp [intOf]; omega
          · have hfin : Hid (outL x0 t j = outL x0 ((t + 1 : Nat) : Int) 0) := by
              show _ = _
              rw [show ((t + 1 : Nat) : Int) = (t : Int) + 1 by omega, ← outL_next hv.out, hP.out, hd.out, show j = d by omega]
            go_wp2
            go_roundw
            case rel => exact ⟨t + 1, q + d, Ay, my, cy, by omega, by go_num, by go_num, rfl, hqd8, hqd, by show InR _ _ _ _ _; rw [← hfin.out]; exact hy.out, nx HB2.out hC.out⟩
            case measure => simp [intOf]; omega
      · have ht4 : Hid ((t : Int) = 4) := by show _ = _; omega
        have hx2 : Hid (InR wr Ax mx cx x0) := by have := hx.out; rw [ht4.out, outL_end hv.out] at this; exact this
        have hqn : q = n0 := by have := hq.out; rw [ht4.out, cntH_end hv.out, hn.out] at this; exact this
        subst hqn
        go_wp2_with (first
          | (go_at_call 13; refine (awake_any _).mono ?_; rintro e W4 ⟨rfl, hb4⟩; have HB4 := Lib.hid hb4; clear hb4)
          | (go_at_call 24; refine (same_yes _ _ _ _ _ _ _ _ (hx2.out.below HB4.out) (HI.out.below (nx hB.out HB4.out))).mono ?_; rintro e W5 ⟨rfl, hb5⟩; have HB5 := Lib.hid hb5; clear hb5))
        go_ret
        exact ⟨by simp, nx (nx hB.out HB4.out) HB5.out⟩
  · have hv := Lib.hid hvc
    clear hvc
    go_enter Tryd.func9, Tryd.ntmps9
    go_wp2_with (first
      | (go_at_call 21; refine (refVcat_no _ _ _ _ _ HI.out.rd hn hv).mono ?_; rintro e W1 ⟨rfl, hg1⟩; have HB1 := Lib.hid hg1.below; clear hg1)
      | (go_at_call 13; refine (awake_any _).mono ?_; rintro e W4 ⟨rfl, hb4⟩; have HB4 := Lib.hid hb4; clear hb4))
    go_ret
    exact ⟨rfl, nx HB1.out HB4.out⟩
end Go.Proofs.YtmfdafffafbmpaaDoor
