/- FormulaCatalogs walked. -/
import Derived.Test.YtecipjjnbikheaaFormulaMonotoneW
namespace Go.Proofs.Ytecipjjnbikheaa
open Go.RowKit
set_option linter.unusedVariables false
set_option linter.unusedSimpArgs false
theorem nm6_lt {i : Nat} (h : i < 5) : ltS (nm6 i) (nm6 (i + 1)) = true := by
  have hc : i = 0 ∨ i = 1 ∨ i = 2 ∨ i = 3 ∨ i = 4 := by omega
  have h0 : ltS (nm6 0) (nm6 1) = true := by kernel_rfl
  have h1 : ltS (nm6 1) (nm6 2) = true := by kernel_rfl
  have h2 : ltS (nm6 2) (nm6 3) = true := by kernel_rfl
  have h3 : ltS (nm6 3) (nm6 4) = true := by kernel_rfl
  have h4 : ltS (nm6 4) (nm6 5) = true := by kernel_rfl
  rcases hc with rfl | rfl | rfl | rfl | rfl
  · exact h0
  · exact h1
  · exact h2
  · exact h3
  · exact h4
theorem ct_vcat {l : List P4} (h : CtP l) (h6 : l.length = 6) : Vcat l := by
  refine ⟨by omega, fun i hi => ?_, fun i hi => ?_⟩
  · obtain ⟨h1, h2, h3, h4⟩ := h i hi
    refine ⟨?_, h2, h3, h4⟩
    rw [h1]
    exact nm6_nam (by omega)
  · rw [(h i (by omega)).1, (h (i + 1) hi).1]
    exact nm6_lt (by omega)
theorem ct_at {l : List P4} (h : CtP l) (h6 : l.length = 6) {i : Nat} (hi : i < 6) : At4 l (nm6 i) i :=
  ⟨by omega, (h i (by omega)).1, fun k hk => by rw [(h k (by omega)).1]; exact nm6_inj hi hk⟩
theorem rsvN_fit {l : List P4} {q : List A3} (hC : CtP l) (h6 : l.length = 6) (hq : q.length = 6) (hA : AtP l q) {a : A3} (ha : a ∈ q) : rsvN l a = 0 := by
  obtain ⟨i, hi, rfl⟩ := List.getElem_of_mem ha
  obtain ⟨h1, h2⟩ := hA i hi
  have e0 : q.getD i default = q[i] := by rw [List.getD_eq_getElem?_getD, List.getElem?_eq_getElem hi]; rfl
  rw [e0] at h1 h2
  have hat := ct_at hC h6 (i := i) (by omega)
  rcases rsvN_is l q[i] with ⟨hv, _⟩ | ⟨_, hno, _⟩ | ⟨_, p, hp, hr⟩
  · exact absurd (ct_vcat hC h6) hv
  · rw [h1] at hno; exact absurd hno hat.not
  · rw [h1] at hp
    have hpi : p = i := hp.uniq hat
    subst hpi
    rcases hr with ⟨hf, _⟩ | ⟨_, hz⟩
    · rw [h2] at hf; cases hf
    · exact hz
theorem firE_zero {l : List P4} : ∀ {L : List A3}, (∀ a ∈ L, rsvN l a = 0) → firE l L = 0
  | [], _ => rfl
  | a :: r, h => by rw [firE, if_pos (h a (by simp)), firE_zero (fun b hb => h b (by simp [hb]))]
theorem vcat_nil : Vcat [] := ⟨by simp, fun i hi => by simp at hi, fun i hi => by simp at hi⟩
theorem firE_none {L : List A3} (h : 0 < L.length) : firE [] L = 10 := by
  cases L with
  | nil => simp at h
  | cons a r =>
    have h10 : rsvN [] a = 10 := by
      rcases rsvN_is [] a with ⟨hv, _⟩ | ⟨_, _, he⟩ | ⟨_, p, hp, _⟩
      · exact absurd vcat_nil hv
      · exact he
      · have := hp.1; simp at this
    rw [firE, h10]
    rfl
theorem mk_sub {q L : List A3} {d : Nat} {e : Ex} (hq : AtL q) (h : Mk q d e) (hv : vld e.pre [] = some L) : ∀ a ∈ L, a ∈ q := by
  obtain ⟨l, g1, g2, _⟩ := h.go hq [] (fun a ha => by cases ha) List.Pairwise.nil
  rw [hv] at g1
  obtain rfl := Option.some.inj g1
  exact g2
set_option maxHeartbeats 8000000 in
set_option maxRecDepth 100000 in
theorem FormulaCatalogs_walk (A0 : Option Addr) (n0 c0 : Nat) (x0 : List Int) (w : World) (w0 : InI w A0 n0 c0 x0) :
    Calls Try.prog 12 #[.slice A0 n0 c0] w fun x w' => x = .returned (.bool true) ∧ Below w.heap.size w w' := by
  have HI := Lib.hid w0
  clear w0
  by_cases hn : (n0 : Int) ≤ 300
  · have hd : decide ((n0 : Int) ≤ 300) = true := decide_eq_true hn
    have HT := Lib.hid (tape_new8 HI.out (by omega))
    have HB0 := Lib.hid (newB w (.cells #[.slice A0 n0 c0, .int .i64 0] 39))
    go_enter Try.func12, Try.ntmps12
    go_upto_region 4 with (first
      | (go_at_call 20; refine (light_is A0 n0 c0 _).mono ?_; rintro e W1 ⟨rfl, rfl⟩; rw [hd]))
    obtain ⟨b, hb⟩ : ∃ b, w.heap.size = b := ⟨_, rfl⟩
    rw [hb] at HT ⊢
    have hbl : Hid (b ≤ (w.alloc (.cells #[.slice A0 n0 c0, .int .i64 0] 39)).heap.size) := Lib.hid (by have := HT.out.lt; omega)
    have HBB : Hid (Below b w (w.alloc (.cells #[.slice A0 n0 c0, .int .i64 0] 39))) := Lib.hid (by rw [← hb]; exact HB0.out)
    have hbH := Lib.hid hb
    clear hb HB0 HI hd hn
    generalize w.alloc (.cells #[.slice A0 n0 c0, .int .i64 0] 39) = W0 at HT hbl HBB ⊢
    go_upto_region 6 with (first
      | (go_at_call 22; refine (catalog_any b _ HT.out).mono ?_; rintro e W1 ⟨⟨A3', c3, l, rfl, hl6, hC, hO⟩, ht, hf⟩; have HT1 := Lib.hid ht; have HB1 := Lib.hid (HBB.out.trans (hf.below hbl.out)); have hL6 := Lib.hid hl6; have HC := Lib.hid hC; have HO := Lib.hid hO; have hA1 : Hid (∀ g o, A3' = some ⟨g, o, none⟩ → g ≠ b) := Lib.hid (fun g o h => by have h1 := (own_lt hO (g := g) (by rw [h]; rfl)).1; have h2 := HT.out.lt; omega); have hR1 : Hid (RRd W1 A3' l ∧ 6 ≤ c3) := Lib.hid (by obtain ⟨A4, c4, hV, h1, h2, h3⟩ := hO.form; injection hV with q1 q2 q3; rw [q1, q3]; exact ⟨h2, by omega⟩); clear ht hf hl6 hC hO)
      | (go_at_call 21; refine (mexpr_any l b A3' c3 _ HT1.out hL6 HC hR1.out.1 hA1.out).mono ?_; rintro e W2 ⟨⟨k0, s0, m0, u0, Ak, nk, ck, e0, rfl, ht, hv, q, hq6, hqa, hqm⟩, hp2, hf2⟩; have HB2 := Lib.hid (HB1.out.trans (hf2.below (Nat.le_of_lt HT1.out.lt))); have HI2 : Hid (InR W2 A3' 6 c3 l) := Lib.hid ⟨hL6.out, hR1.out.1.frm hf2 hA1.out, hR1.out.2, by omega⟩; have HT2 := Lib.hid ht.lo8; have HV := Lib.hid hv; have HQ := Lib.hid (And.intro hq6 (And.intro hqa hqm)); clear ht hv hp2 hf2 hq6 hqa hqm))
    obtain ⟨L, hL0⟩ := VL.ex HV.out
    have hL := Lib.hid hL0
    obtain ⟨N, hN⟩ : ∃ N, Hid (L.length = N) := ⟨_, rfl⟩
    have hNp : (0 : Int) < (N : Int) := by have h1 := vl_pos hL0; have h2 := hN.out; omega
    have hr1 : Hid (firE l L = 0) := firE_zero (fun a ha => rsvN_fit HC.out hL6.out HQ.out.1 HQ.out.2.1 (mk_sub (HQ.out.2.1.atl HQ.out.1) HQ.out.2.2 hL0.2 a ha))
    have hr2 : Hid (firE [] L = 10) := firE_none (vl_pos hL0)
    have hK3 := Blk.new W2 [.int .i64 k0, .string s0, .int .i64 m0, .int .i64 u0, .slice Ak nk ck] 28 rfl
    have y0 := hK3.cell 0 rfl
    have y1 := hK3.cell 1 rfl
    have y2 := hK3.cell 2 rfl
    have y3 := hK3.cell 3 rfl
    have y4 := hK3.cell 4 rfl
    have hbw2 : b ≤ W2.heap.size := by have h1 := HB2.out.size; have h2 := hbH.out; omega
    have HK3 := Lib.hid hK3
    have HT3 := Lib.hid (HT2.out.grow (.cells #[.int .i64 k0, .string s0, .int .i64 m0, .int .i64 u0, .slice Ak nk ck] 28))
    have HI3 := Lib.hid (HI2.out.below (newB W2 (.cells #[.int .i64 k0, .string s0, .int .i64 m0, .int .i64 u0, .slice Ak nk ck] 28)))
    have HB3 := Lib.hid (HB2.out.trans ((newB W2 (.cells #[.int .i64 k0, .string s0, .int .i64 m0, .int .i64 u0, .slice Ak nk ck] 28)).mono hbw2))
    have M1 := Lib.hid trivial
    clear hL0 hK3 HT1 HB1 hL6 HC HO hA1 hR1 HT hbl HBB HV HQ hbw2
    go_wp2_with (first
      | (go_at_call 13; refine (atoms8_yes k0 s0 m0 u0 Ak nk ck _ HT3.out hL).mono ?_; rintro x W4 ⟨⟨A5, n5, c5, rfl, hn5, -⟩, hb4⟩; have hnn : n5 = N := hn5.symm.trans hN.out; subst hnn; have HK4 := Lib.hid (HK3.out.up hb4 HK3.out.lt); have HT4 := Lib.hid (HT3.out.up hb4); have HI4 := Lib.hid (HI3.out.below hb4); have HB4 := Lib.hid (nxB8 HB3.out hb4 hbH.out); clear hb4 hn5)
      | (go_at_call 15; refine (awake8_any _).mono ?_; rintro x W5 ⟨rfl, hb4⟩; have hk := HK4.out.up hb4 HK4.out.lt; clear y0 y1 y2 y3 y4; have y0 := hk.cell 0 rfl; have y1 := hk.cell 1 rfl; have y2 := hk.cell 2 rfl; have y3 := hk.cell 3 rfl; have y4 := hk.cell 4 rfl; have HK5 := Lib.hid hk; have HT5 := Lib.hid (HT4.out.up hb4); have HI5 := Lib.hid (HI4.out.below hb4); have HB5 := Lib.hid (nxB8 HB4.out hb4 hbH.out); clear hb4 hk)
      | (go_at_call 30; clear M1; refine (resolve8_yes l A3' 6 c3 k0 s0 m0 u0 Ak nk ck _ HI5.out HT5.out hL hr1).mono ?_; rintro x W6 ⟨rfl, hb4⟩; have hk := HK5.out.up hb4 HK5.out.lt; clear y0 y1 y2 y3 y4; have y0 := hk.cell 0 rfl; have y1 := hk.cell 1 rfl; have y2 := hk.cell 2 rfl; have y3 := hk.cell 3 rfl; have y4 := hk.cell 4 rfl; have HT6 := Lib.hid (HT5.out.up hb4); have HB6 := Lib.hid (nxB8 HB5.out hb4 hbH.out); clear hb4 hk)
      | (go_at_call 30; refine (resolve8_yes [] none 0 0 k0 s0 m0 u0 Ak nk ck _ (InR.none _) HT6.out hL hr2).mono ?_; rintro x W7 ⟨rfl, hb4⟩; have HB7 := Lib.hid (nxB8 HB6.out hb4 hbH.out); clear hb4))
    go_ret
    exact ⟨by simp, by rw [hbH.out]; exact HB7.out⟩
  · have hd : decide ((n0 : Int) ≤ 300) = false := decide_eq_false hn
    go_enter Try.func12, Try.ntmps12
    go_wp2_with (first
      | (go_at_call 20; refine (light_is A0 n0 c0 _).mono ?_; rintro e W1 ⟨rfl, rfl⟩; rw [hd])
      | (go_at_call 15; refine (awake8_any _).mono ?_; rintro e W2 ⟨rfl, hb2⟩; have HB2 := Lib.hid hb2; clear hb2))
    go_ret
    exact ⟨rfl, HB2.out⟩
end Go.Proofs.Ytecipjjnbikheaa
