/- Contracts of the reference: simplify. -/
import Derived.Test.YtohjllnfnkajjaaNv
import Derived.Test.YtohjllnfnkajjaaQ1
namespace Go.Proofs.Ytohjllnfnkajjaa
open Go.RowKit
set_option linter.unusedVariables false
set_option linter.unusedSimpArgs false

theorem flt_snoc (one all : Bool) (y : Ex) : ∀ l : List Ex, flt one all (l ++ [y]) = flt one all l ++ (if mrg one all y = true then y.l else [y])
  | [] => by rw [List.nil_append, flt, flt, flt, List.append_nil, List.nil_append]
  | x :: r => by rw [List.cons_append, flt, flt_snoc one all y r, flt, List.append_assoc]
theorem ddp_snoc (y : Ex) : ∀ (l acc : List Ex), (y ∈ ddp acc l → ddp acc (l ++ [y]) = ddp acc l) ∧ (¬ y ∈ ddp acc l → ddp acc (l ++ [y]) = ddp acc l ++ [y])
  | [], acc => ⟨fun h => by rw [ddp] at h; rw [List.nil_append, ddp_yes h, ddp], fun h => by rw [ddp] at h; rw [List.nil_append, ddp_no h, ddp, ddp]⟩
  | x :: r, acc => by
    rcases Ex.dec_mem x acc with h | h
    · rw [List.cons_append, ddp_yes h, ddp_yes h]; exact ddp_snoc y r acc
    · rw [List.cons_append, ddp_no h, ddp_no h]; exact ddp_snoc y r _
theorem flt_len {one all : Bool} {l : List Ex} (j : Nat) : (flt one all ((l.take j).map smp)).length ≤ cntL l := by
  have h1 := flt_cnt one all ((l.take j).map smp)
  have h2 := cntL_len (flt one all ((l.take j).map smp))
  have h3 : cntL ((l.take j).map smp) ≤ cntL (l.take j) := by
    generalize l.take j = r
    induction r with
    | nil => exact Nat.le_refl _
    | cons e r ih => rw [List.map_cons, cntL, cntL]; have := smp_cnt e; omega
  have h4 : cntL (l.take j) ≤ cntL l := by
    have h := cntL_append (l.take j) (l.drop j)
    rw [List.take_append_drop] at h
    omega
  omega
theorem ddp_len_le : ∀ (x acc : List Ex), (ddp acc x).length ≤ acc.length + x.length
  | [], acc => by rw [ddp]; simp
  | y :: x, acc => by
    rcases Ex.dec_mem y acc with h | h
    · rw [ddp_yes h, List.length_cons]; have := ddp_len_le x acc; omega
    · rw [ddp_no h, List.length_cons]; have := ddp_len_le x (acc ++ [y]); rw [List.length_append, List.length_singleton] at this; omega
/-- Is it among the first j? -/
noncomputable def amB (y : Ex) (l : List Ex) (j : Nat) : Bool := @decide (y ∈ l.take j) (Classical.propDecidable _)
theorem amB_yes {y : Ex} {l : List Ex} {j : Nat} : amB y l j = true ↔ y ∈ l.take j := @decide_eq_true_iff _ (Classical.propDecidable _)
theorem amB_no {y : Ex} {l : List Ex} {j : Nat} : amB y l j = false ↔ ¬ y ∈ l.take j := by rw [← amB_yes, Bool.not_eq_true]
theorem amB_zero (y : Ex) (l : List Ex) : amB y l 0 = false := by rw [amB_no, List.take_zero]; simp
theorem amB_succ {y : Ex} {l : List Ex} {j : Nat} (hj : j < l.length) : amB y l (j + 1) = (amB y l j || sameB (l.getD j default) y) := by
  rw [Bool.eq_iff_iff, Bool.or_eq_true, amB_yes, amB_yes, sameB_iff, take_snocX hj, List.mem_append, List.mem_singleton]
  exact or_congr Iff.rfl ⟨fun h => h.symm, fun h => h.symm⟩
theorem amB_all {y : Ex} {l : List Ex} : amB y l l.length = true ↔ y ∈ l := by rw [amB_yes, List.take_length]
/-- The kids of a tree, as cells. -/
theorem KRd.rows {D : Nat → Prop} {w : World} {A : Option Addr} {l : List Ex} (h : KRd D w A l) : ∃ us : List XV, us.length = l.length ∧ XRd w A us ∧ ∀ i, i < l.length → TIn D w (us.getD i default) (l.getD i default) := by
  cases h with
  | nil => exact ⟨[], rfl, XRd.nil _ _, fun i hi => by simp at hi⟩
  | row b o _ vs h1 h2 h3 h4 h5 h6 => exact ⟨vs, h3, fun _ => ⟨b, o, rfl, h2, fun i hi => h4 i (by rw [← h3]; exact hi)⟩, fun i hi => ⟨h5 i hi, h6 i hi⟩⟩
theorem XRd.up {w w' : World} {A : Option Addr} {l : List XV} (h : XRd w A l) (hb : Below w.heap.size w w') : XRd w' A l := fun hx => by
  obtain ⟨b, o, hA, hlt, hc⟩ := h hx
  exact ⟨b, o, hA, Nat.lt_of_lt_of_le hlt hb.size, fun i hi => (hc i hi).of (hb.block b hlt)⟩
/-- Trees more than one put behind. -/
theorem KT.appL {lo x : Nat} {V V' : Value} {es ys : List Ex} {vs us : List XV} {w w' : World} (h : KT lo x V es vs w) (hx : x < w.heap.size) (ho : OwnX w' lo V' (vs ++ us)) (hg : w.grownBy w' V.ownBlock) (hn : V'.ownBlock = V.ownBlock ∨ V'.ownBlock = some w.heap.size)
    (hu : us.length = ys.length) (ht : ∀ i, i < ys.length → TIn (fun k => Snc lo w k ∧ V.ownBlock ≠ some k ∧ k ≠ x) w (us.getD i default) (ys.getD i default)) : KT lo x V' (es ++ ys) (vs ++ us) w' := by
  have tr : ∀ {u : XV} {y : Ex}, TIn (fun k => Snc lo w k ∧ V.ownBlock ≠ some k ∧ k ≠ x) w u y → TIn (fun k => Snc lo w' k ∧ V'.ownBlock ≠ some k ∧ k ≠ x) w' u y := fun hu =>
    hu.of (fun k ⟨⟨h1, h2⟩, h4, h5⟩ => ⟨⟨h1, Nat.lt_of_lt_of_le h2 hg.size⟩, fun e => by
      rcases hn with h | h
      · exact h4 (by rw [← h]; exact e)
      · rw [h] at e; injection e with e; omega, h5⟩) (fun k ⟨⟨h1, h2⟩, h4, h5⟩ _ => hg.block k h2 (fun e => h4 e.symm)) hg.size
  refine ⟨ho, by rw [List.length_append, List.length_append, h.len, hu], fun g hg' => ?_, fun i hi => ?_⟩
  · rcases hn with h1 | h1
    · exact h.apart g (by rw [← h1]; exact hg')
    · rw [h1] at hg'
      injection hg' with hg'
      omega
  · rcases Nat.lt_or_ge i es.length with h1 | h1
    · have e1 : (vs ++ us).getD i default = vs.getD i default := by simp [List.getD_eq_getElem?_getD, List.getElem?_append_left (show i < vs.length by rw [h.len]; exact h1)]
      have e2 : (es ++ ys).getD i default = es.getD i default := by simp [List.getD_eq_getElem?_getD, List.getElem?_append_left h1]
      rw [e1, e2]
      exact tr (h.tree i h1)
    · have hi2 : i - es.length < ys.length := by rw [List.length_append] at hi; omega
      have e1 : (vs ++ us).getD i default = us.getD (i - es.length) default := by simp [List.getD_eq_getElem?_getD, List.getElem?_append_right (show vs.length ≤ i by rw [h.len]; exact h1), h.len]
      have e2 : (es ++ ys).getD i default = ys.getD (i - es.length) default := by simp [List.getD_eq_getElem?_getD, List.getElem?_append_right h1]
      rw [e1, e2]
      exact tr (ht _ hi2)
theorem app_ex9 {w : World} {ops : Array Oper} {rest : List Oper} {o : Oper} {a : Act} {Q : Exit → Act → World → Prop} (hgd : Region.wanted o (yielded ops a.tmps) = true) (s y : Operand)
    (ho : o.op = .call { callee := .builtin .append, args := #[s, y], argTypes := #[26, 26] })
    (base : Nat) (V : Value) (xs : List XV) (A : Option Addr) (ys : List XV) (n c : Nat) (hn : Hid (ys.length = n)) (hv : a.eval s = V) (hx : a.eval y = .slice A n c)
    (hd : OwnX w base V xs) (hs : XRd w A ys) (hlen : Hid (xs.length + n ≤ 1000000)) (hbase : base ≤ w.heap.size)
    (h : ∀ V' w', OwnX w' base V' (xs ++ ys) → w.grownBy w' V.ownBlock → (V'.ownBlock = V.ownBlock ∨ V'.ownBlock = some w.heap.size) → wpList Try.prog ops Q rest (a.put o.dst V') w') :
    wpList Try.prog ops Q (o :: rest) a w := by
  have hn' := hn.out
  subst hn'
  obtain ⟨i0, hi, hz0, hz1, hz2⟩ := info_parts expr_info
  have hl := hlen.out
  refine wpList_app w hgd s y 26 26 ho base 28 i0 _ 5 64 Try.underlying26 hi hz0 hz1 hz2 rfl V xs.length (xvs xs) _ ys.length (xvs ys) hv hx (.inl hd)
    (Src.exprs Try.underlying26 c hs) (by simp only [maxLen]; omega) (fits_half (by omega)) hbase (fun V' w' h1 h2 h3 h4 => h V' w' ?_ (h3 hd) h4)
  unfold OwnX
  rw [List.length_append, xvs_append]
  exact h1
theorem fin2_fin (k : Int) (one all : Bool) (x m : List Ex) (hm : (if (one || all) = true then ddp [] x else x) = m) : (m.length = 1 → fin2 k one all x = m.getD 0 default) ∧ (m.length ≠ 1 → fin2 k one all x = .nd (if all = true then (m.length : Int) else k) z3 m) := by
  have h := fin2_cases k one all x
  rw [hm] at h
  rcases h with ⟨y, hy, he⟩ | ⟨hne, he⟩
  · refine ⟨fun _ => ?_, fun h => absurd (by rw [hy]; rfl) h⟩
    rw [he, hy]; rfl
  · exact ⟨fun h => absurd h hne, fun _ => he⟩
theorem KRd.grownK {lo x : Nat} {V V' : Value} {w w' : World} {A : Option Addr} {l : List Ex} (h : KRd (fun k => Snc lo w k ∧ V.ownBlock ≠ some k ∧ k ≠ x) w A l) (hg : w.grownBy w' V.ownBlock) (hn : V'.ownBlock = V.ownBlock ∨ V'.ownBlock = some w.heap.size) : KRd (fun k => Snc lo w' k ∧ V'.ownBlock ≠ some k ∧ k ≠ x) w' A l :=
  h.of (fun k ⟨⟨h1, h2⟩, h4, h5⟩ => ⟨⟨h1, Nat.lt_of_lt_of_le h2 hg.size⟩, fun e => by
      rcases hn with h | h
      · exact h4 (by rw [← h]; exact e)
      · rw [h] at e; injection e with e; omega, h5⟩) (fun k ⟨⟨h1, h2⟩, h4, h5⟩ _ => hg.block k h2 (fun e => h4 e.symm)) hg.size
theorem KRd.upK {lo x : Nat} {V : Value} {w w' : World} {A : Option Addr} {l : List Ex} (h : KRd (fun k => Snc lo w k ∧ V.ownBlock ≠ some k ∧ k ≠ x) w A l) (hb : Below w.heap.size w w') : KRd (fun k => Snc lo w' k ∧ V.ownBlock ≠ some k ∧ k ≠ x) w' A l :=
  h.of (fun k ⟨⟨h1, h2⟩, h3⟩ => ⟨⟨h1, Nat.lt_of_lt_of_le h2 hb.size⟩, h3⟩) (fun k ⟨⟨h1, h2⟩, h3⟩ _ => hb.block k h2) hb.size
def SmOk (e : Ex) : Prop := Tr e → ∀ (k : Int) (s : ByteArray) (m u : Int) (A : Option Addr) (n c : Nat) (w : World), Hid (TIn (Lo w.heap.size) w ⟨k, s, m, u, A, n, c⟩ e) → Hid (e.cnt ≤ 1000) →
  Calls Try.prog 51 #[xe k s m u A n c] w (DuQ (smp e) w)
set_option maxHeartbeats 16000000 in
set_option maxRecDepth 100000 in
theorem simp_all : ∀ e : Ex, SmOk e := by
  refine Ex.ind fun ek ea l ih => ?_
  intro htr k s m u A n c w HT hcnt
  obtain ⟨es_, em, eu⟩ := ea
  obtain ⟨a1, a2, a3, a4, b5, b6, b7⟩ := ks_at HT.out.1
  obtain rfl : k = ek := a1
  obtain rfl : s = es_ := a2
  obtain rfl : m = em := a3
  obtain rfl : u = eu := a4
  have hn : Hid (l.length = n) := b5.symm
  have HCC := Lib.hid (And.intro b6 b7)
  have HTR := Lib.hid htr
  clear b5 b6 b7 htr
  have HCL : Hid (cntL l ≤ 1000) := Lib.hid (by have h1 := hcnt.out; rw [Ex.cnt] at h1; omega)
  have HLN : Hid (n ≤ 1000) := Lib.hid (by have h1 := HCL.out; have h2 := cntL_len l; have h3 := hn.out; omega)
  have HE0 := Lib.hid ((Blk.new w [.int .i64 k, .string s, .int .i64 m, .int .i64 u, .slice A n c] 28 rfl).grow (.cells #[.int .i64 0, .string ⟨#[]⟩, .int .i64 0, .int .i64 0, .slice none 0 0] 28))
  have HR0 := Lib.hid ((Blk.new (w.alloc (.cells #[.int .i64 k, .string s, .int .i64 m, .int .i64 u, .slice A n c] 28)) [.int .i64 0, .string ⟨#[]⟩, .int .i64 0, .int .i64 0, .slice none 0 0] 28 (g := w.heap.size + 1) (by simp)))
  have HB0 := Lib.hid (new2 w (.cells #[.int .i64 k, .string s, .int .i64 m, .int .i64 u, .slice A n c] 28) (.cells #[.int .i64 0, .string ⟨#[]⟩, .int .i64 0, .int .i64 0, .slice none 0 0] 28))
  have HSZ0 : Hid (((w.alloc (.cells #[.int .i64 k, .string s, .int .i64 m, .int .i64 u, .slice A n c] 28)).alloc (.cells #[.int .i64 0, .string ⟨#[]⟩, .int .i64 0, .int .i64 0, .slice none 0 0] 28)).heap.size = w.heap.size + 2) := Lib.hid (by simp)
  by_cases hk : k = 0
  · have hl0 : l = [] := by
      have h := HTR.out
      cases h with
      | atom a => rfl
      | group k l h1 h2 h => omega
    subst hl0
    obtain rfl : n = 0 := hn.out.symm
    subst hk
    clear ih HTR hn HLN HE0 HR0 HB0 HSZ0
    go_enter Try.func51, Try.ntmps51
    go_wp2
    refine bodyPost_ret (v := xe 0 s m u A 0 c) (by simp [results, Try.results51, go_sem]) rfl ⟨⟨_, _, _, _, _, _, _, rfl, ?_⟩, ?_⟩
    · rw [smp, if_pos rfl]
      exact ⟨⟨rfl, HCC.out.1, HCC.out.2⟩, .nil _⟩
    · first | exact newB _ _ | exact new2 _ _ _ | exact (((((new2 w _ _).setCell (p := ⟨w.heap.size + 1, 0, none⟩) (by simp) _).setCell (p := ⟨w.heap.size + 1, 1, none⟩) (by simp) _).setCell (p := ⟨w.heap.size + 1, 2, none⟩) (by simp) _).setCell (p := ⟨w.heap.size + 1, 3, none⟩) (by simp) _).setCell (p := ⟨w.heap.size + 1, 4, none⟩) (by simp) _
  · have hg : (s, m, u) = z3 ∧ 1 ≤ k ∧ k ≤ (n : Int) := by
      have h := HTR.out
      have h2 := hn.out
      cases h with
      | atom a => exact absurd rfl hk
      | group k l h1 h2 h => exact ⟨rfl, h1, by omega⟩
    obtain ⟨hz, hk1, hkn⟩ := hg
    simp only [z3, Prod.mk.injEq] at hz
    obtain ⟨rfl, rfl, rfl⟩ := hz
    have hkk0 : ∀ f ∈ l, Tr f := fun f hf => HTR.out.kids hf
    have HKT := Lib.hid hkk0
    have hkb : (k == 0) = false := by rw [beq_eq_false_iff_ne]; exact hk
    have hln := HLN.out
    have HKR : Hid (KRd (Lo w.heap.size) w A l) := HT.out.2
    have HK0 := Lib.hid hk
    clear HT hk hkk0
    generalize hGW : ((w.alloc (.cells #[.int .i64 k, .string ⟨#[]⟩, .int .i64 0, .int .i64 0, .slice A n c] 28)).alloc (.cells #[.int .i64 0, .string ⟨#[]⟩, .int .i64 0, .int .i64 0, .slice none 0 0] 28)) = W2 at HE0 HR0 HB0 HSZ0
    have e0 := HE0.out.cell 0 rfl
    have e4 := HE0.out.cell 4 rfl
    have rf := HR0.out.fz
    have rl := HR0.out.lt
    by_cases hn1 : n = 1
    · have HN1 := Lib.hid hn1
      have hnb : ((n : Int) == 1) = true := by rw [beq_iff_eq]; omega
      have hnp : 0 < n := by omega
      have hnp2 : (0 : Int) < (n : Int) := by omega
      obtain ⟨g, o, ⟨k1, s1, m1, u1, A1, n1, c1⟩, rfl, hgb, hgs, ⟨z0, z1, z2, z3', z4⟩, hT1⟩ := (HKR.out.lo HB0.out).at_ (i := 0) (by have := hn.out; omega)
      simp only [Nat.zero_mul, Nat.add_zero] at z0 z1 z2 z3' z4
      have HT1 := Lib.hid (hT1.mono (D' := Lo W2.heap.size) (fun b h => Nat.lt_of_lt_of_le h (by have := HSZ0.out; omega)))
      have hmem : l.getD 0 default ∈ l := getD_memX (by have := hn.out; omega)
      have IH := Lib.hid (ih _ hmem (HKT.out _ hmem))
      have HCJ : Hid ((l.getD 0 default).cnt ≤ 1000) := Lib.hid (by have h1 := HCL.out; have h2 := cntL_le hmem; omega)
      have HSM : Hid (smp (.nd k z3 l) = smp (l.getD 0 default)) := Lib.hid (by
        obtain ⟨e, he⟩ := List.length_eq_one_iff.1 (hn.out.trans HN1.out)
        subst he
        rw [smp_single HK0.out]; rfl)
      have hSM := HSM.out
      rw [show ((⟨#[]⟩, 0, 0) : A3) = z3 from rfl, hSM]
      clear hT1 hmem ih hn1
      go_enter Try.func51, Try.ntmps51
      go_wp2_with (go_at_call 51; refine (IH.out k1 s1 m1 u1 A1 n1 c1 _ (HT1.out) HCJ).mono ?_; clear rf rl; rintro x W3 ⟨⟨k', s', m', u', A', n', c', rfl, ht⟩, hb2⟩; have HT2 := Lib.hid ht; have hr2 := HR0.out.up hb2 HR0.out.lt; have HLTR := Lib.hid HR0.out.lt; have r0 := hr2.cell 0 rfl; have r1 := hr2.cell 1 rfl; have r2 := hr2.cell 2 rfl; have r3 := hr2.cell 3 rfl; have r4 := hr2.cell 4 rfl; have rf := hr2.fz; have rl := hr2.lt; have HB2 := Lib.hid (nx HB0.out hb2); clear hb2 ht hr2)
      refine bodyPost_ret (v := xe k' s' m' u' A' n' c') (by simp [results, Try.results51, go_sem, r0, r1, r2, r3, r4, rf]) rfl ⟨⟨_, _, _, _, _, _, _, rfl, ?_⟩, HB2.out.trans ((five_below W3 (w.heap.size + 1) _ _ _ _ _).mono (Nat.le_succ _))⟩
      exact TIn.fiveT (lo := w.heap.size) HT2.out (fun q hq => ⟨by have h1 := hq.1; have h2 := HSZ0.out; omega, hq.2, fun e => by have h1 := hq.1; have h2 := HSZ0.out; omega⟩) _ _ _ _ _
    · have hn2 : 2 ≤ n := by omega
      have hnb : ((n : Int) == 1) = false := by rw [beq_eq_false_iff_ne]; omega
      obtain ⟨B1, hB1⟩ : ∃ B1, Hid ((k == 1) = B1) := ⟨_, Lib.hid rfl⟩
      obtain ⟨B2, hB2⟩ : ∃ B2, Hid ((k == (n : Int)) = B2) := ⟨_, Lib.hid rfl⟩
      have HSM : Hid (smp (.nd k z3 l) = fin2 k B1 B2 (flt B1 B2 (l.map smp))) := Lib.hid (by
        have e1 : decide (k = 1) = B1 := by rw [← hB1.out, Bool.eq_iff_iff, decide_eq_true_iff, beq_iff_eq]
        have e2 : decide (k = (l.length : Int)) = B2 := by rw [← hB2.out, Bool.eq_iff_iff, decide_eq_true_iff, beq_iff_eq, hn.out]
        rw [smp_group HK0.out (by rw [hn.out]; exact hn1), e1, e2])
      have hSM := HSM.out
      rw [show ((⟨#[]⟩, 0, 0) : A3) = z3 from rfl, hSM]
      have hb1' := hB1.out
      have hb2' := hB2.out
      go_enter Try.func51, Try.ntmps51
      go_upto_region 5 with fail
      go_cut [3, 4] from 12 to 33 (fun a b wx => a = .bool B1 ∧ b = .bool B2 ∧ Hid (Below W2.heap.size W2 wx))
      case first =>
        go_quiet (fail)
        go_wp2_with fail
        go_meet
        exact ⟨rfl, rfl, bdN (Below.refl _ _) _⟩
      case rest =>
        obtain ⟨rfl, rfl, hbc⟩ := hcut
        have HSZC : Hid (w.heap.size + 2 ≤ wc.heap.size) := Lib.hid (by have h1 := HSZ0.out; have h2 := hbc.out.size; omega)
        have HEC := Lib.hid (HE0.out.up hbc.out HE0.out.lt)
        have HRC := Lib.hid (HR0.out.up hbc.out HR0.out.lt)
        have HBC := Lib.hid (nx HB0.out hbc.out)
        clear e0 e4 rf rl
        have e0 := HEC.out.cell 0 rfl
        have HE1 := Lib.hid (HEC.out.grow (.cells #[.int .i64 k, .string ⟨#[]⟩, .int .i64 0, .int .i64 0, .slice none 0 0] 28))
        have HR1 := Lib.hid (HRC.out.grow (.cells #[.int .i64 k, .string ⟨#[]⟩, .int .i64 0, .int .i64 0, .slice none 0 0] 28))
        have HX1 := Lib.hid (Blk.new wc [.int .i64 k, .string ⟨#[]⟩, .int .i64 0, .int .i64 0, .slice none 0 0] 28 rfl)
        have HB1 := Lib.hid (HBC.out.trans ((newB wc (.cells #[.int .i64 k, .string ⟨#[]⟩, .int .i64 0, .int .i64 0, .slice none 0 0] 28)).mono (Nat.le_trans (Nat.le_add_right _ 2) HSZC.out)))
        go_upto_region 7 with fail
        obtain ⟨x, hx⟩ : ∃ x, wc.heap.size = x := ⟨_, rfl⟩
        have HXL : Hid (w.heap.size + 2 ≤ x) := Lib.hid (by rw [← hx]; exact HSZC.out)
        have HW4S : Hid ((wc.alloc (.cells #[.int .i64 k, .string ⟨#[]⟩, .int .i64 0, .int .i64 0, .slice none 0 0] 28)).heap.size = x + 1) := Lib.hid (by simp [hx])
        rw [hx] at HX1 ⊢
        clear e0 HEC HRC HBC HSZC hGW HE0 HR0 HB0 HSZ0 hbc
        generalize hW4 : wc.alloc (.cells #[.int .i64 k, .string ⟨#[]⟩, .int .i64 0, .int .i64 0, .slice none 0 0] 28) = W4 at HE1 HR1 HX1 HB1 HW4S ⊢
        clear hx hW4
        go_wp2_with fail
        go_loopw [6] (fun i wr => ∃ (j : Nat) (es : List Ex) (vs : List XV) (A2 : Option Addr) (nn2 c2 : Nat), j ≤ n ∧ i = .int .i64 j ∧ Hid (es = flt B1 B2 ((l.take j).map smp)) ∧ Hid (KT (x + 1) x (.slice A2 nn2 c2) es vs wr) ∧ Hid (Blk wr w.heap.size [.int .i64 k, .string ⟨#[]⟩, .int .i64 0, .int .i64 0, .slice A n c]) ∧ Hid (Blk wr (w.heap.size + 1) [.int .i64 0, .string ⟨#[]⟩, .int .i64 0, .int .i64 0, .slice none 0 0]) ∧ Hid (Blk wr x [.int .i64 k, .string ⟨#[]⟩, .int .i64 0, .int .i64 0, .slice A2 nn2 c2]) ∧ Hid (Below w.heap.size w wr)) (fun i _ => n - (intOf i).toNat)
        case atStart => exact ⟨0, [], [], none, 0, 0, by omega, rfl, Lib.hid (by simp [flt]), KT.nil _ _ _, HE1.out, HR1.out, HX1.out, HB1.out⟩
        case round =>
          obtain ⟨j, es, vs, A2, nn2, c2, hj, rfl, hes, hK, hE, hR, hX, hB⟩ := hrel
          obtain ⟨WR, hWR⟩ : ∃ W, W = wr := ⟨_, rfl⟩
          subst hWR
          have ec := hE.out.cell 4 rfl
          by_cases hjl : (j : Int) < (n : Int)
          · have hjl2 : j < l.length := by have := hn.out; omega
            have hjn : j < n := by omega
            have e5 : IntKind.i64.wrap ((j : Int) + 1) = (j : Int) + 1 := by rw [IntKind.wrap_i64]; omega
            obtain ⟨g, o, ⟨k1, s1, m1, u1, A1, n1, c1⟩, rfl, hgb, hgs, ⟨z0, z1, z2, z3', z4⟩, hT1⟩ := (HKR.out.lo hB.out).at_ hjl2
            have HT1 := Lib.hid (hT1.mono (D' := Lo WR.heap.size) (fun b h => Nat.lt_of_lt_of_le h hB.out.size))
            have hmem := getD_memX hjl2
            have IH := Lib.hid (ih _ hmem (HKT.out _ hmem))
            have HCJ : Hid ((l.getD j default).cnt ≤ 1000) := Lib.hid (by have h1 := HCL.out; have h2 := cntL_le hmem; omega)
            obtain ⟨⟨yk, ya, yl⟩, hy⟩ : ∃ y, Hid (smp (l.getD j default) = y) := ⟨_, Lib.hid rfl⟩
            have hest : Hid (flt B1 B2 ((l.take (j + 1)).map smp) = es ++ (if mrg B1 B2 (.nd yk ya yl) = true then yl else [.nd yk ya yl])) := Lib.hid (by have h := flt_snoc B1 B2 (.nd yk ya yl) ((l.take j).map smp); rw [take_snocX hjl2, List.map_append, hes.out, show [l.getD j default].map smp = [.nd yk ya yl] by rw [List.map_singleton, hy.out]]; exact h)
            have HYC : Hid ((Ex.nd yk ya yl).cnt ≤ 1000) := Lib.hid (by have h1 := HCJ.out; have h2 := smp_cnt (l.getD j default); rw [hy.out] at h2; omega)
            have HESL : Hid (es.length ≤ 1000) := Lib.hid (by have h1 := flt_len (one := B1) (all := B2) (l := l) j; rw [← hes.out] at h1; have h2 := HCL.out; omega)
            rw [hy.out] at IH
            obtain ⟨bm, hbm⟩ : ∃ bm, Hid (mrg B1 B2 (.nd yk ya yl) = bm) := ⟨_, Lib.hid rfl⟩
            rw [hbm.out] at hest
            clear hT1 hmem
            go_upto_region 11 with (go_simp; go_at_call 51; refine (IH.out k1 s1 m1 u1 A1 n1 c1 _ HT1 HCJ).mono ?_; rintro e W8 ⟨⟨k', s', m', u', A', n', c', rfl, ht⟩, hb8⟩; have HB8 := Lib.hid hb8; have HT8 := Lib.hid ht; have HN9 := Lib.hid (newB W8 (.cells #[.int .i64 k', .string s', .int .i64 m', .int .i64 u', .slice A' n' c'] 28)); have HY9 := Lib.hid (Blk.new W8 [.int .i64 k', .string s', .int .i64 m', .int .i64 u', .slice A' n' c'] 28 rfl); clear hb8 ht)
            obtain ⟨ys_, ym, yu⟩ := ya
            obtain ⟨t1, t2, t3, t4, t5, t6, t7⟩ := ks_at HT8.out.1
            obtain rfl : k' = yk := t1
            have hn' : Hid (n' = yl.length) := t5
            have y0 := HY9.out.cell 0 rfl
            have y4 := HY9.out.cell 4 rfl
            have hmb : Hid ((decide (0 < k') && ((B1 && (k' == 1)) || (B2 && (k' == (n' : Int))))) = bm) := Lib.hid (by
              rw [← hbm.out, hn'.out]
              rfl)
            clear t2 t3 t4 t5
            go_cut [71] from 44 to 71 (fun b wx => b = .bool bm ∧ wx = W8.alloc (.cells #[.int .i64 k', .string s', .int .i64 m', .int .i64 u', .slice A' n' c'] 28))
            case first =>
              have hmb2 := hmb.out
              clear hmb
              cases hp : decide (0 < k') with
              | false =>
                rw [hp, Bool.false_and] at hmb2
                subst hmb2
                go_wp2_with fail
                go_meet
                exact ⟨rfl, rfl⟩
              | true =>
                rw [hp, Bool.true_and] at hmb2
                cases B1 with
                | true =>
                  cases hq : (k' == 1) with
                  | true =>
                    rw [hq] at hmb2
                    simp only [Bool.and_true, Bool.true_or] at hmb2
                    subst hmb2
                    go_wp2_with fail
                    go_meet
                    exact ⟨rfl, rfl⟩
                  | false =>
                    rw [hq] at hmb2
                    simp only [Bool.and_false, Bool.false_or] at hmb2
                    cases B2 with
                    | true =>
                      rw [Bool.true_and] at hmb2
                      go_wp2_with fail
                      go_meet
                      exact ⟨by first | rw [hmb2] | rfl, rfl⟩
                    | false =>
                      rw [Bool.false_and] at hmb2
                      subst hmb2
                      go_wp2_with fail
                      go_meet
                      exact ⟨rfl, rfl⟩
                | false =>
                  rw [Bool.false_and, Bool.false_or] at hmb2
                  cases B2 with
                  | true =>
                    rw [Bool.true_and] at hmb2
                    go_wp2_with fail
                    go_meet
                    exact ⟨by first | rw [hmb2] | rfl, rfl⟩
                  | false =>
                    rw [Bool.false_and] at hmb2
                    subst hmb2
                    go_wp2_with fail
                    go_meet
                    exact ⟨rfl, rfl⟩
            case rest =>
              obtain ⟨rfl, rfl⟩ := hcut
              have HB9 := Lib.hid (nx HB8.out HN9.out)
              have HT9a := HT8.out.of (D' := Snc WR.heap.size (W8.alloc (.cells #[.int .i64 k', .string s', .int .i64 m', .int .i64 u', .slice A' n' c'] 28))) (fun k hk => ⟨hk.1, Nat.lt_of_lt_of_le hk.2 HN9.out.size⟩) (fun k hk _ => HN9.out.block k hk.2) HN9.out.size
              obtain ⟨yb, hyb⟩ : ∃ yb, W8.heap.size = yb := ⟨_, rfl⟩
              rw [hyb] at HY9 ⊢
              generalize hW9 : W8.alloc (.cells #[.int .i64 k', .string s', .int .i64 m', .int .i64 u', .slice A' n' c'] 28) = W9 at HB9 HY9 HN9 HT9a ⊢
              have HX9 := Lib.hid (hX.out.up HB9.out hX.out.lt)
              have HE9 := Lib.hid (hE.out.up HB9.out hE.out.lt)
              have HR9 := Lib.hid (hR.out.up HB9.out hR.out.lt)
              have HK9 := Lib.hid (hK.out.up HB9.out (Nat.succ_pos _))
              have HT9 := Lib.hid (TIn.apart (lo := x + 1) (x := x) (V := .slice A2 nn2 c2) HT9a hX.out.lt hX.out.lt (fun g hg => (own_lt hK.out.own hg).2))
              have hvl : vs.length ≤ 1000 := by rw [hK.out.len]; exact HESL.out
              have hyl : n' ≤ 1000 := by have h1 := HYC.out; rw [Ex.cnt] at h1; have h2 := cntL_len yl; rw [hn'.out]; omega
              have xc := HX9.out.cell 4 rfl
              have xf := HX9.out.fz
              have xl := HX9.out.lt
              clear y0 y4 HT9a HT8 HB8 HN9
              have y0 := HY9.out.cell 0 rfl
              have y1 := HY9.out.cell 1 rfl
              have y2 := HY9.out.cell 2 rfl
              have y3 := HY9.out.cell 3 rfl
              have y4 := HY9.out.cell 4 rfl
              clear hyb hW9
              cases bm with
              | true =>
                obtain ⟨us, hul, hxr, htr⟩ := HT9.out.2.rows
                have hus : Hid (us.length = n') := Lib.hid (hul.trans hn'.out.symm)
                have hvs : Hid (vs.length + n' ≤ 1000000) := Lib.hid (by omega)
                have hul := Lib.hid hul
                have htr := Lib.hid htr
                have hest2 : Hid (es ++ yl = flt B1 B2 ((l.take (j + 1)).map smp)) := Lib.hid (by rw [hest.out, if_pos rfl])
                go_wp2_with (at_builtin; (refine app_ex9 rfl (.tmp 73) (.tmp 75) rfl (x + 1) (.slice A2 nn2 c2) vs A' us n' c' hus (by simp [Act.eval, Act.put]) (by simp [Act.eval, Act.put]) HK9.out.own hxr hvs HX9.out.lt ?_); intro V5 w5 ho5 hg5 hn5; obtain ⟨A5, c5, hV5, -, -, -, -⟩ := ho5.form; obtain ⟨k5, hk5⟩ : ∃ k5, Hid ((vs ++ us).length = k5) := ⟨_, Lib.hid rfl⟩; rw [hk5.out] at hV5; subst hV5; have HK5 := Lib.hid (KT.appL HK9.out HX9.out.lt ho5 hg5 hn5 hul.out htr.out); have hrow : ∀ g, (Value.slice A2 nn2 c2).ownBlock = some g → (x + 1) ≤ g := (fun g hg => (own_lt HK9.out.own hg).1); have HX5 := Lib.hid (HX9.out.of (hg5.block _ HX9.out.lt (fun e => HK9.out.apart _ e.symm rfl))); have HE5 := Lib.hid (HE9.out.of (hg5.block _ HE9.out.lt (fun e => by have h1 := hrow _ e.symm; have h2 := HXL.out; omega))); have HR5 := Lib.hid (HR9.out.of (hg5.block _ HR9.out.lt (fun e => by have h1 := hrow _ e.symm; have h2 := HXL.out; omega))); have HB5 := Lib.hid ((nx hB.out HB9.out).trans (gB_own hg5 (fun g hg => Nat.le_trans (by have := HXL.out; omega) (hrow g hg)) (nx hB.out HB9.out).size)); clear xc xf xl; have xc := HX5.out.cell 4 rfl; have xf := HX5.out.fz; have xl := HX5.out.lt; clear ho5 hg5 hn5)
                exact ⟨⟨j + 1, es ++ yl, vs ++ us, A5, k5, c5, by omega, by go_num, hest2, HK5.out.set 4 _, HE5.out.of (block_set _ _ _ (by have := HXL.out; omega)), HR5.out.of (block_set _ _ _ (by have := HXL.out; omega)), HX5.out.set 4 _, HB5.out.setCell (p := ⟨x, 4, none⟩) (show w.heap.size ≤ x by have := HXL.out; omega) _⟩, by simp [intOf]; omega⟩
              | false =>
                have hvs : Hid (vs.length + 1 ≤ 1000000) := Lib.hid (by omega)
                have hest2 : Hid (es ++ [Ex.nd k' (ys_, ym, yu) yl] = flt B1 B2 ((l.take (j + 1)).map smp)) := Lib.hid (by rw [hest.out, if_neg (by decide)])
                go_wp2_with (at_builtin; (refine app_ex9 rfl (.tmp 79) (.tmp 81) rfl (x + 1) (.slice A2 nn2 c2) vs _ [⟨k', s', m', u', A', n', c'⟩] 1 1 (Lib.hid rfl) (by simp [Act.eval, Act.put]) (by simp [Act.eval, Act.put]) (own_kept HK9.out.own (fun g hg => (newB W9 _).block g (own_lt HK9.out.own hg).2)) (XRd.one_at _ _ ⟨k', s', m', u', A', n', c'⟩ rfl) hvs (Nat.le_trans HX9.out.lt (newB W9 _).size) ?_); intro V5 w5 ho5 hg5 hn5; obtain ⟨A5, c5, hV5, -, -, -, -⟩ := ho5.form; obtain ⟨k5, hk5⟩ : ∃ k5, Hid ((vs ++ [(⟨k', s', m', u', A', n', c'⟩ : XV)]).length = k5) := ⟨_, Lib.hid rfl⟩; rw [hk5.out] at hV5; subst hV5; have hnw := newB W9 (.cells #[.int .i64 k', .string s', .int .i64 m', .int .i64 u', .slice A' n' c'] 28); have hkz := HK9.out.up hnw (Nat.succ_pos _); have htz := HT9.out.of (D' := fun k => Snc (x + 1) (W9.alloc (.cells #[.int .i64 k', .string s', .int .i64 m', .int .i64 u', .slice A' n' c'] 28)) k ∧ (Value.slice A2 nn2 c2).ownBlock ≠ some k ∧ k ≠ x) (fun k hk => ⟨⟨hk.1.1, Nat.lt_of_lt_of_le hk.1.2 hnw.size⟩, hk.2⟩) (fun k hk _ => hnw.block k hk.1.2) hnw.size; have hsz := hnw.size; have HK5 := Lib.hid (KT.app hkz (Nat.lt_of_lt_of_le HX9.out.lt hsz) ho5 hg5 hn5 htz); have hrow : ∀ g, (Value.slice A2 nn2 c2).ownBlock = some g → (x + 1) ≤ g := (fun g hg => (own_lt HK9.out.own hg).1); have HX5 := Lib.hid (HX9.out.of ((hg5.block _ (Nat.lt_of_lt_of_le HX9.out.lt hsz) (fun e => HK9.out.apart _ e.symm rfl)).trans (hnw.block _ HX9.out.lt))); have HE5 := Lib.hid (HE9.out.of ((hg5.block _ (Nat.lt_of_lt_of_le HE9.out.lt hsz) (fun e => by have h1 := hrow _ e.symm; have h2 := HXL.out; omega)).trans (hnw.block _ HE9.out.lt))); have HR5 := Lib.hid (HR9.out.of ((hg5.block _ (Nat.lt_of_lt_of_le HR9.out.lt hsz) (fun e => by have h1 := hrow _ e.symm; have h2 := HXL.out; omega)).trans (hnw.block _ HR9.out.lt))); have HB5 := Lib.hid ((nx hB.out HB9.out).trans (gB_own (gB_trans (gB_below hnw (Nat.le_refl _)) hg5) (fun g hg => Nat.le_trans (by have := HXL.out; omega) (hrow g hg)) (nx hB.out HB9.out).size)); clear xc xf xl; have xc := HX5.out.cell 4 rfl; have xf := HX5.out.fz; have xl := HX5.out.lt; clear ho5 hg5 hn5 hnw hkz htz hsz)
                exact ⟨⟨j + 1, es ++ [Ex.nd k' (ys_, ym, yu) yl], vs ++ [(⟨k', s', m', u', A', n', c'⟩ : XV)], A5, k5, c5, by omega, by go_num, hest2, HK5.out.set 4 _, HE5.out.of (block_set _ _ _ (by have := HXL.out; omega)), HR5.out.of (block_set _ _ _ (by have := HXL.out; omega)), HX5.out.set 4 _, HB5.out.setCell (p := ⟨x, 4, none⟩) (show w.heap.size ≤ x by have := HXL.out; omega) _⟩, by simp [intOf]; omega⟩
          · have hjn : j = n := by omega
            subst hjn
            have hes2 : Hid (es = flt B1 B2 (l.map smp)) := Lib.hid (by have h := hes.out; rw [List.take_of_length_le (by rw [hn.out]; exact Nat.le_refl _)] at h; exact h)
            have HESL : Hid (es.length ≤ 1000) := Lib.hid (by have h1 := flt_len (one := B1) (all := B2) (l := l) j; rw [← hes.out] at h1; have h2 := HCL.out; omega)
            have HF2 := fin2_fin k B1 B2 (flt B1 B2 (l.map smp))
            rw [← hes2.out] at HF2 ⊢
            have HFN := Lib.hid HF2
            have HF := Lib.hid hK.out.fin
            clear HF2 hes HKR HKT ih hSM HSM
            cases hob : (B1 || B2) with
            | false =>
              have hob1 : B1 = false := by cases B1 with | false => rfl | true => cases hob
              have hob2 : B2 = false := by cases B2 with | false => rfl | true => rw [Bool.or_true] at hob; cases hob
              subst hob1
              subst hob2
              have HFN2 := Lib.hid (HFN.out es rfl)
              have x0 := hX.out.cell 0 rfl
              have x1 := hX.out.cell 1 rfl
              have x2 := hX.out.cell 2 rfl
              have x3 := hX.out.cell 3 rfl
              have x4 := hX.out.cell 4 rfl
              have r0 := hR.out.cell 0 rfl
              have r1 := hR.out.cell 1 rfl
              have r2 := hR.out.cell 2 rfl
              have r3 := hR.out.cell 3 rfl
              have r4 := hR.out.cell 4 rfl
              have rf := hR.out.fz
              have rl := hR.out.lt
              by_cases h1 : nn2 = 1
              · have HN1 := Lib.hid h1
                have hb9 : ((nn2 : Int) == 1) = true := by rw [beq_iff_eq]; omega
                have hb8 : 0 < nn2 := by omega
                have hb7 : (0 : Int) < (nn2 : Int) := by omega
                obtain ⟨g9, o9, ⟨k9, s9, m9, u9, A9, n9, c9⟩, hA9, hgD, hgs, ⟨z0, z1, z2, z3', z4⟩, hT9⟩ := HF.out.2.2.2.at_ (i := 0) (by have := HF.out.1; omega)
                subst hA9
                simp only [Nat.zero_mul, Nat.add_zero] at z0 z1 z2 z3' z4
                have HT9 := Lib.hid hT9
                clear h1 hT9
                go_wp2
                refine bodyPost_ret (v := xe k9 s9 m9 u9 A9 n9 c9) (by simp [results, Try.results51, go_sem, r0, r1, r2, r3, r4, rf]) rfl ⟨⟨_, _, _, _, _, _, _, rfl, ?_⟩, hB.out.trans ((five_below _ (w.heap.size + 1) _ _ _ _ _).mono (Nat.le_succ _))⟩
                rw [← hes2.out, HFN2.out.1 (by rw [← HF.out.1]; exact HN1.out)]
                exact TIn.fiveT HT9.out (fun q hq => ⟨Nat.le_trans (by have := HXL.out; omega) hq.1.1, hq.1.2, fun e => by have h3 := hq.1.1; have := HXL.out; omega⟩) _ _ _ _ _
              · have HN1 := Lib.hid h1
                have hb9 : ((nn2 : Int) == 1) = false := by rw [beq_eq_false_iff_ne]; omega
                clear h1
                go_wp2
                refine bodyPost_ret (v := xe k ⟨#[]⟩ 0 0 A2 nn2 c2) (by simp [results, Try.results51, go_sem, r0, r1, r2, r3, r4, rf]) rfl ⟨⟨_, _, _, _, _, _, _, rfl, ?_⟩, hB.out.trans ((five_below _ (w.heap.size + 1) _ _ _ _ _).mono (Nat.le_succ _))⟩
                rw [← hes2.out, HFN2.out.2 (by rw [← HF.out.1]; exact HN1.out)]
                refine TIn.fiveT (D := fun q => Snc (x + 1) WR q ∧ q ≠ x) ⟨⟨?_, HF.out.2.1, HF.out.2.2.1⟩, HF.out.2.2.2⟩ (fun q hq => ⟨Nat.le_trans (by have := HXL.out; omega) hq.1.1, hq.1.2, fun e => by have h3 := hq.1.1; have := HXL.out; omega⟩) _ _ _ _ _
                unfold XV.ks Ex.ks
                show (_, _, nn2) = (_, _, es.length)
                rw [HF.out.1]
                rfl
            | true =>
              have HFN2 := Lib.hid (HFN.out (ddp [] es) (by rw [hob, if_pos rfl]))
              have xc := hX.out.cell 4 rfl
              have HN2 : Hid (es.length = nn2) := Lib.hid HF.out.1.symm
              have hn2k : nn2 ≤ 1000 := by have h1 := HN2.out; have h2 := HESL.out; omega
              have HKE : Hid (KRd (fun k => Snc (x + 1) WR k ∧ (Value.slice none 0 0).ownBlock ≠ some k ∧ k ≠ x) WR A2 es) := Lib.hid (HF.out.2.2.2.of (fun k hk => ⟨hk.1, by simp [Value.ownBlock], hk.2⟩) (fun _ _ _ => rfl) (Nat.le_refl _))
              have HXLT := Lib.hid hX.out.lt
              clear HF hK HESL
              go_upto_region 14 with fail
              go_cut [87] from 84 to 87 (fun b wx => b = .bool true ∧ wx = WR)
              case first =>
                cases B1 with
                | true => go_wp2_with fail; go_meet; exact ⟨rfl, rfl⟩
                | false =>
                  rw [Bool.false_or] at hob
                  subst hob
                  go_wp2_with fail; go_meet; exact ⟨rfl, rfl⟩
              case rest =>
                obtain ⟨rfl, rfl⟩ := hcut
                clear hob
                go_upto_block 3 with fail
                go_loopw [8, 9] (fun v i wr => ∃ (q : Nat) (es2 : List Ex) (vs2 : List XV) (A3 : Option Addr) (nn3 c3 : Nat), q ≤ nn2 ∧ v = .slice A3 nn3 c3 ∧ i = .int .i64 q ∧ Hid (es2 = ddp [] (es.take q)) ∧ Hid (KT (x + 1) x (.slice A3 nn3 c3) es2 vs2 wr) ∧ Hid (KRd (fun k => Snc (x + 1) wr k ∧ (Value.slice A3 nn3 c3).ownBlock ≠ some k ∧ k ≠ x) wr A2 es) ∧ Hid (Blk wr (w.heap.size + 1) [.int .i64 0, .string ⟨#[]⟩, .int .i64 0, .int .i64 0, .slice none 0 0]) ∧ Hid (Blk wr x [.int .i64 k, .string ⟨#[]⟩, .int .i64 0, .int .i64 0, .slice A2 nn2 c2]) ∧ Hid (Below w.heap.size w wr)) (fun _ i _ => nn2 - (intOf i).toNat)
                case atStart => exact ⟨0, [], [], none, 0, 0, by omega, rfl, rfl, Lib.hid (by rw [List.take_zero, ddp]), KT.nil _ _ _, HKE.out, hR.out, hX.out, hB.out⟩
                case round =>
                  obtain ⟨q, es2, vs2, A3, nn3, c3, hq, rfl, rfl, he2, hK2, hKE2, hR2, hX2, hB2x⟩ := hrel
                  obtain ⟨WQ, hWQ⟩ : ∃ W, W = wr := ⟨_, rfl⟩
                  subst hWQ
                  clear xc
                  have xc := hX2.out.cell 4 rfl
                  by_cases hql : (q : Int) < (nn2 : Int)
                  · have hql2 : q < es.length := by have := HN2.out; omega
                    have hqn : q < nn2 := by omega
                    have e5 : IntKind.i64.wrap ((q : Int) + 1) = (q : Int) + 1 := by rw [IntKind.wrap_i64]; omega
                    obtain ⟨y, hy⟩ : ∃ y, Hid (es.getD q default = y) := ⟨_, Lib.hid rfl⟩
                    obtain ⟨g1, o1, ⟨k4, s4, m4, u4, A4, n4, c4⟩, rfl, hD1, hlt1, hz4, hT4⟩ := hKE2.out.at_ hql2
                    rw [hy.out] at hT4
                    have HZ4 := Lib.hid hz4
                    have HT4 := Lib.hid hT4
                    have HD1 := Lib.hid hlt1
                    have hF3 := hK2.out.fin
                    have HF3 := Lib.hid hF3
                    have hn3 : nn3 ≤ 1000 := by have h1 := ddp_len_le (es.take q) []; rw [← he2.out, ← hF3.1, List.length_take] at h1; simp only [List.length_nil] at h1; omega
                    clear hz4 hT4 hD1 hlt1 hF3
                    go_wp2_with fail
                    go_loopw [10, 11] (fun b i wz => ∃ (t : Nat), t ≤ nn3 ∧ b = .bool (amB y es2 t) ∧ i = .int .i64 t ∧ Hid (Below WQ.heap.size WQ wz)) (fun _ i _ => nn3 - (intOf i).toNat)
                    case atStart => exact ⟨0, by omega, by rw [amB_zero], rfl, Below.refl _ _⟩
                    case round =>
                      obtain ⟨t, ht, rfl, rfl, hZ⟩ := hrel
                      clear xc
                      have HXZ := Lib.hid (hX2.out.up hZ.out hX2.out.lt)
                      have xc := HXZ.out.cell 4 rfl
                      obtain ⟨β, hβ⟩ : ∃ β, Hid (amB y es2 t = β) := ⟨_, Lib.hid rfl⟩
                      rw [hβ.out]
                      by_cases htl : (t : Int) < (nn3 : Int)
                      · have htl2 : t < es2.length := by have := HF3.out.1; omega
                        have htn : t < nn3 := by omega
                        have e6 : IntKind.i64.wrap ((t : Int) + 1) = (t : Int) + 1 := by rw [IntKind.wrap_i64]; omega
                        have hsu := amB_succ (y := y) htl2
                        rw [hβ.out] at hsu
                        cases β with
                        | true =>
                          rw [Bool.true_or] at hsu
                          have HSU := Lib.hid hsu
                          clear hsu
                          go_wp2_with fail
                          go_quiet (fail)
                          go_wp2
                          go_roundw
                          case rel => exact ⟨t + 1, by omega, by rw [HSU.out], by go_num, bdN hZ.out _⟩
                          case measure => simp [intOf]; omega
                        | false =>
                          rw [Bool.false_or] at hsu
                          obtain ⟨f, hf⟩ : ∃ f, Hid (es2.getD t default = f) := ⟨_, Lib.hid rfl⟩
                          obtain ⟨γ, hγ⟩ : ∃ γ, Hid (sameB f y = γ) := ⟨_, Lib.hid rfl⟩
                          rw [hf.out, hγ.out] at hsu
                          have HSU := Lib.hid hsu
                          obtain ⟨g2, o2, ⟨k5, s5, m5, u5, A5, n5, c5⟩, rfl, hD2, hlt2, hz5, hT5⟩ := HF3.out.2.2.2.at_ htl2
                          rw [hf.out] at hT5
                          obtain ⟨z0, z1, z2, z3', z4⟩ := HZ4.out.of (hZ.out.block g1 HD1.out)
                          obtain ⟨v0, v1, v2, v3, v4⟩ := hz5.of (hZ.out.block g2 hlt2)
                          have HT4' : Hid (∀ W, Below wr.heap.size wr W → TIn (Lo W.heap.size) W ⟨k4, s4, m4, u4, A4, n4, c4⟩ y) := Lib.hid (fun W hW => (HT4.out.mono (D' := Lo WQ.heap.size) (fun b h => h.1.2)).up (hZ.out.trans (hW.mono hZ.out.size)))
                          have HT5' : Hid (∀ W, Below wr.heap.size wr W → TIn (Lo W.heap.size) W ⟨k5, s5, m5, u5, A5, n5, c5⟩ f) := Lib.hid (fun W hW => (hT5.mono (D' := Lo WQ.heap.size) (fun b h => h.1.2)).up (hZ.out.trans (hW.mono hZ.out.size)))
                          clear hz5 hT5 hD2 hsu
                          go_wp2_with fail
                          go_region_with (go_at_call 19; refine (sx_all f y k5 s5 m5 u5 A5 n5 c5 k4 s4 m4 u4 A4 n4 c4 _ γ (Lib.hid (HT5'.out _ (bdD (Below.refl _ _)))) (Lib.hid (HT4'.out _ (bdD (Below.refl _ _)))) hγ).mono ?_; rintro x W1 ⟨rfl, hb1⟩; have HB1 : Hid (Below wr.heap.size wr W1) := (bdD (Below.refl _ _)).trans hb1; clear hb1)
                          all_goals (try go_wp2)
                          all_goals (
                            go_roundw
                            case rel => exact ⟨t + 1, by omega, by rw [HSU.out], by go_num, hZ.out.trans (HB1.out.mono hZ.out.size)⟩
                            case measure => simp [intOf]; omega)
                      · have hte : t = nn3 := by omega
                        have hmem : (amB y es2 t = true ↔ y ∈ es2) := by rw [hte, HF3.out.1]; exact amB_all
                        rw [hβ.out] at hmem
                        have hdd := ddp_snoc y (es.take q) []
                        rw [← he2.out] at hdd
                        have htk : es.take (q + 1) = es.take q ++ [y] := by rw [take_snocX hql2, hy.out]
                        rw [← htk] at hdd
                        have HRz := Lib.hid (hR2.out.up hZ.out hR2.out.lt)
                        have HBz := Lib.hid (nx hB2x.out hZ.out)
                        have HKz := Lib.hid (hK2.out.up hZ.out (Nat.succ_pos _))
                        have HKEz := Lib.hid (hKE2.out.upK hZ.out)
                        cases β with
                        | true =>
                          have HE5 := Lib.hid (hdd.1 (hmem.1 rfl))
                          clear hdd hmem htk
                          go_wp2
                          go_roundw
                          case rel => exact ⟨q + 1, es2, vs2, A3, nn3, c3, by omega, rfl, by go_num, HE5.out.symm, HKz.out, HKEz.out, HRz.out, HXZ.out, HBz.out⟩
                          case measure => simp [intOf]; omega
                        | false =>
                          have HE5 := Lib.hid (hdd.2 (fun h => by cases hmem.2 h))
                          have HTz := Lib.hid (HT4.out.of (D' := fun k => Snc (x + 1) wr k ∧ (Value.slice A3 nn3 c3).ownBlock ≠ some k ∧ k ≠ x) (fun k hk => ⟨⟨hk.1.1, Nat.lt_of_lt_of_le hk.1.2 hZ.out.size⟩, hk.2⟩) (fun k hk _ => hZ.out.block k hk.1.2) hZ.out.size)
                          obtain ⟨z0, z1, z2, z3', z4⟩ := HZ4.out.of (hZ.out.block g1 HD1.out)
                          have hvs : Hid (vs2.length + 1 ≤ 1000000) := Lib.hid (by rw [HKz.out.len, ← HF3.out.1]; omega)
                          have HXz := HXZ
                          obtain ⟨wz, hwz⟩ : ∃ W, W = wr := ⟨_, rfl⟩
                          subst hwz
                          clear hdd hmem htk
                          go_wp2_with (at_builtin; (refine app_ex9 rfl (.tmp 116) (.tmp 122) rfl (x + 1) (.slice A3 nn3 c3) vs2 _ [⟨k4, s4, m4, u4, A4, n4, c4⟩] 1 1 (Lib.hid rfl) (by simp [Act.eval, Act.put]) (by simp [Act.eval, Act.put]) (own_kept HKz.out.own (fun g hg => (newB wz _).block g (own_lt HKz.out.own hg).2)) (XRd.one_at _ _ ⟨k4, s4, m4, u4, A4, n4, c4⟩ rfl) hvs (Nat.le_trans HXz.out.lt (newB wz _).size) ?_); intro V5 w5 ho5 hg5 hn5; obtain ⟨A5, c5, hV5, -, -, -, -⟩ := ho5.form; obtain ⟨k5, hk5⟩ : ∃ k5, Hid ((vs2 ++ [(⟨k4, s4, m4, u4, A4, n4, c4⟩ : XV)]).length = k5) := ⟨_, Lib.hid rfl⟩; rw [hk5.out] at hV5; subst hV5; have hnw := newB wz (.cells #[.int .i64 k4, .string s4, .int .i64 m4, .int .i64 u4, .slice A4 n4 c4] 28); have hsz := hnw.size; have hkz := HKz.out.up hnw (Nat.succ_pos _); have htz := HTz.out.of (D' := fun k => Snc (x + 1) (wz.alloc (.cells #[.int .i64 k4, .string s4, .int .i64 m4, .int .i64 u4, .slice A4 n4 c4] 28)) k ∧ (Value.slice A3 nn3 c3).ownBlock ≠ some k ∧ k ≠ x) (fun k hk => ⟨⟨hk.1.1, Nat.lt_of_lt_of_le hk.1.2 hsz⟩, hk.2⟩) (fun k hk _ => hnw.block k hk.1.2) hsz; have HK5 := Lib.hid (KT.app hkz (Nat.lt_of_lt_of_le HXz.out.lt hsz) ho5 hg5 hn5 htz); have HKE5 := Lib.hid (KRd.grownK (HKEz.out.upK hnw) hg5 hn5); have hrow : ∀ g, (Value.slice A3 nn3 c3).ownBlock = some g → (x + 1) ≤ g := (fun g hg => (own_lt HKz.out.own hg).1); have HX5 := Lib.hid (HXz.out.of ((hg5.block _ (Nat.lt_of_lt_of_le HXz.out.lt hsz) (fun e => HKz.out.apart _ e.symm rfl)).trans (hnw.block _ HXz.out.lt))); have HR5 := Lib.hid (HRz.out.of ((hg5.block _ (Nat.lt_of_lt_of_le HRz.out.lt hsz) (fun e => by have h1 := hrow _ e.symm; have h2 := HXL.out; omega)).trans (hnw.block _ HRz.out.lt))); have HB5 := Lib.hid (HBz.out.trans (gB_own (gB_trans (gB_below hnw (Nat.le_refl _)) hg5) (fun g hg => Nat.le_trans (by have := HXL.out; omega) (hrow g hg)) HBz.out.size)); clear ho5 hg5 hn5 hnw hkz htz hsz)
                          go_roundw
                          case rel => exact ⟨q + 1, es2 ++ [y], vs2 ++ [(⟨k4, s4, m4, u4, A4, n4, c4⟩ : XV)], A5, k5, c5, by omega, rfl, by go_num, HE5.out.symm, HK5.out, HKE5.out, HR5.out, HX5.out, HB5.out⟩
                          case measure => simp [intOf]; omega
                  · have hqe : q = nn2 := by omega
                    have he3 : Hid (es2 = ddp [] es) := Lib.hid (by rw [he2.out, hqe, List.take_of_length_le (by rw [HN2.out]; exact Nat.le_refl _)])
                    have HV := HFN2.out
                    rw [← he3.out] at HV
                    have HV2 := Lib.hid HV
                    have xf := hX2.out.fz
                    have xl := hX2.out.lt
                    have xk := hX2.out.cell 0 rfl
                    clear HV HFN2 HFN
                    have HX6 := Lib.hid (hX2.out.set 4 (.slice A3 nn3 c3))
                    have HK6 := Lib.hid (hK2.out.set 4 (.slice A3 nn3 c3))
                    have HR6 := Lib.hid (hR2.out.of (block_set (a := x) (b := w.heap.size + 1) WQ 4 (.slice A3 nn3 c3) (by have := HXL.out; omega)))
                    have HB6 := Lib.hid (hB2x.out.setCell (p := ⟨x, 4, none⟩) (show w.heap.size ≤ x by have := HXL.out; omega) (.slice A3 nn3 c3))
                    cases B2 with
                    | false =>
                      have HF6 := Lib.hid HK6.out.fin
                      go_upto_region 29 with fail
                      generalize hWF : WQ.setCell ⟨x, 4, none⟩ (.slice A3 nn3 c3) = wf at HX6 HK6 HR6 HB6 HF6 ⊢
                      clear xf xl xk hWF
                      have x0 := HX6.out.cell 0 rfl
                      have x1 := HX6.out.cell 1 rfl
                      have x2 := HX6.out.cell 2 rfl
                      have x3 := HX6.out.cell 3 rfl
                      have x4 := HX6.out.cell 4 rfl
                      have r0 := HR6.out.cell 0 rfl
                      have r1 := HR6.out.cell 1 rfl
                      have r2 := HR6.out.cell 2 rfl
                      have r3 := HR6.out.cell 3 rfl
                      have r4 := HR6.out.cell 4 rfl
                      have rf := HR6.out.fz
                      have rl := HR6.out.lt
                      by_cases h1 : nn3 = 1
                      · have HN1 := Lib.hid h1
                        have hb9 : ((nn3 : Int) == 1) = true := by rw [beq_iff_eq]; omega
                        have hb8 : 0 < nn3 := by omega
                        have hb7 : (0 : Int) < (nn3 : Int) := by omega
                        obtain ⟨g9, o9, ⟨k9, s9, m9, u9, A9, n9, c9⟩, hA9, hgD, hgs, ⟨z0, z1, z2, z3', z4⟩, hT9⟩ := HF6.out.2.2.2.at_ (i := 0) (by have := HF6.out.1; omega)
                        subst hA9
                        simp only [Nat.zero_mul, Nat.add_zero] at z0 z1 z2 z3' z4
                        have HT9 := Lib.hid hT9
                        clear h1 hT9
                        go_wp2
                        refine bodyPost_ret (v := xe k9 s9 m9 u9 A9 n9 c9) (by simp [results, Try.results51, go_sem, r0, r1, r2, r3, r4, rf]) rfl ⟨⟨_, _, _, _, _, _, _, rfl, ?_⟩, HB6.out.trans ((five_below _ (w.heap.size + 1) _ _ _ _ _).mono (Nat.le_succ _))⟩
                        rw [← hes2.out, HV2.out.1 (by rw [← HF6.out.1]; exact HN1.out)]
                        exact TIn.fiveT HT9.out (fun q hq => ⟨Nat.le_trans (by have := HXL.out; omega) hq.1.1, hq.1.2, fun e => by have h3 := hq.1.1; have := HXL.out; omega⟩) _ _ _ _ _
                      · have HN1 := Lib.hid h1
                        have hb9 : ((nn3 : Int) == 1) = false := by rw [beq_eq_false_iff_ne]; omega
                        clear h1
                        go_wp2
                        refine bodyPost_ret (v := xe k ⟨#[]⟩ 0 0 A3 nn3 c3) (by simp [results, Try.results51, go_sem, r0, r1, r2, r3, r4, rf]) rfl ⟨⟨_, _, _, _, _, _, _, rfl, ?_⟩, HB6.out.trans ((five_below _ (w.heap.size + 1) _ _ _ _ _).mono (Nat.le_succ _))⟩
                        rw [← hes2.out, HV2.out.2 (by rw [← HF6.out.1]; exact HN1.out)]
                        refine TIn.fiveT (D := fun q => Snc (x + 1) wf q ∧ q ≠ x) ⟨⟨?_, HF6.out.2.1, HF6.out.2.2.1⟩, HF6.out.2.2.2⟩ (fun q hq => ⟨Nat.le_trans (by have := HXL.out; omega) hq.1.1, hq.1.2, fun e => by have h3 := hq.1.1; have := HXL.out; omega⟩) _ _ _ _ _
                        unfold XV.ks Ex.ks
                        show (_, _, nn3) = (_, _, es2.length)
                        rw [HF6.out.1]
                        rfl
                    | true =>
                      have HX7 := Lib.hid (HX6.out.set 0 (.int .i64 nn3))
                      have HK7 := Lib.hid (HK6.out.set 0 (.int .i64 nn3))
                      have HR7 := Lib.hid (HR6.out.of (block_set (a := x) (b := w.heap.size + 1) _ 0 (.int .i64 nn3) (by have := HXL.out; omega)))
                      have HB7 := Lib.hid (HB6.out.setCell (p := ⟨x, 0, none⟩) (show w.heap.size ≤ x by have := HXL.out; omega) (.int .i64 nn3))
                      have HF7 := Lib.hid HK7.out.fin
                      go_upto_region 29 with fail
                      generalize hWF : (WQ.setCell ⟨x, 4, none⟩ (.slice A3 nn3 c3)).setCell ⟨x, 0, none⟩ (.int .i64 nn3) = wf at HX7 HK7 HR7 HB7 HF7 ⊢
                      clear xf xl xk hWF
                      have x0 := HX7.out.cell 0 rfl
                      have x1 := HX7.out.cell 1 rfl
                      have x2 := HX7.out.cell 2 rfl
                      have x3 := HX7.out.cell 3 rfl
                      have x4 := HX7.out.cell 4 rfl
                      have r0 := HR7.out.cell 0 rfl
                      have r1 := HR7.out.cell 1 rfl
                      have r2 := HR7.out.cell 2 rfl
                      have r3 := HR7.out.cell 3 rfl
                      have r4 := HR7.out.cell 4 rfl
                      have rf := HR7.out.fz
                      have rl := HR7.out.lt
                      by_cases h1 : nn3 = 1
                      · have HN1 := Lib.hid h1
                        have hb9 : ((nn3 : Int) == 1) = true := by rw [beq_iff_eq]; omega
                        have hb8 : 0 < nn3 := by omega
                        have hb7 : (0 : Int) < (nn3 : Int) := by omega
                        obtain ⟨g9, o9, ⟨k9, s9, m9, u9, A9, n9, c9⟩, hA9, hgD, hgs, ⟨z0, z1, z2, z3', z4⟩, hT9⟩ := HF7.out.2.2.2.at_ (i := 0) (by have := HF7.out.1; omega)
                        subst hA9
                        simp only [Nat.zero_mul, Nat.add_zero] at z0 z1 z2 z3' z4
                        have HT9 := Lib.hid hT9
                        clear h1 hT9
                        go_wp2
                        refine bodyPost_ret (v := xe k9 s9 m9 u9 A9 n9 c9) (by simp [results, Try.results51, go_sem, r0, r1, r2, r3, r4, rf]) rfl ⟨⟨_, _, _, _, _, _, _, rfl, ?_⟩, HB7.out.trans ((five_below _ (w.heap.size + 1) _ _ _ _ _).mono (Nat.le_succ _))⟩
                        rw [← hes2.out, HV2.out.1 (by rw [← HF7.out.1]; exact HN1.out)]
                        exact TIn.fiveT HT9.out (fun q hq => ⟨Nat.le_trans (by have := HXL.out; omega) hq.1.1, hq.1.2, fun e => by have h3 := hq.1.1; have := HXL.out; omega⟩) _ _ _ _ _
                      · have HN1 := Lib.hid h1
                        have hb9 : ((nn3 : Int) == 1) = false := by rw [beq_eq_false_iff_ne]; omega
                        clear h1
                        go_wp2
                        refine bodyPost_ret (v := xe (nn3 : Int) ⟨#[]⟩ 0 0 A3 nn3 c3) (by simp [results, Try.results51, go_sem, r0, r1, r2, r3, r4, rf]) rfl ⟨⟨_, _, _, _, _, _, _, rfl, ?_⟩, HB7.out.trans ((five_below _ (w.heap.size + 1) _ _ _ _ _).mono (Nat.le_succ _))⟩
                        rw [← hes2.out, HV2.out.2 (by rw [← HF7.out.1]; exact HN1.out)]
                        refine TIn.fiveT (D := fun q => Snc (x + 1) wf q ∧ q ≠ x) ⟨⟨?_, HF7.out.2.1, HF7.out.2.2.1⟩, HF7.out.2.2.2⟩ (fun q hq => ⟨Nat.le_trans (by have := HXL.out; omega) hq.1.1, hq.1.2, fun e => by have h3 := hq.1.1; have := HXL.out; omega⟩) _ _ _ _ _
                        unfold XV.ks Ex.ks
                        show (_, _, nn3) = (_, _, es2.length)
                        rw [HF7.out.1]
                        rfl
end Go.Proofs.Ytohjllnfnkajjaa
