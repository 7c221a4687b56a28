/- Contract: the parser's list, if that of expr holds at smaller numbers. -/
import Derived.Test.YtlokcmbkkfjlkaaGreatDoorRat
import Derived.Test.YtlokcmbkkfjlkaaGreatDoorRks
namespace Go.Proofs.YtlokcmbkkfjlkaaGreatDoor
open Go.RowKit
set_option linter.unusedVariables false
set_option linter.unusedSimpArgs false

/-- What expr does, where so much is left to be read. -/
def EC (f : Nat) : Prop := ∀ (b : Nat) (t : List T4) (n : Nat) (l : List A3) (d : Nat) (D : Int) (w : World), Ps w b t n l → WT t → n ≤ 24 → l.length ≤ 8 → t.length < f → d ≤ 5 → Hid (D = (d : Int)) →
  Calls Tryz.prog 56 #[.pointer (some ⟨b, 0, none⟩), .int .i64 D] w (ExP b (pE f d t n l) w)
def LsP (b : Nat) (r : PR (List Ex)) (w : World) (e : Ending) (w' : World) : Prop :=
  match r with
  | .ok ks t' n' l' => (∃ A nn c, e = .returned (.slice A nn c) ∧ nn = ks.length ∧ nn ≤ c ∧ c ≤ maxLen ∧ KRd (Nw w.heap.size b w') w' A ks) ∧ Go1 b t' n' l' w w'
  | .no p x => e = Pan p x ∧ Below b w w'
/-- How many tokens the box has left. -/
def tkn (w : World) (b : Nat) : Nat := match w.cell? ⟨b, 0, none⟩ with | some (.slice _ n _) => n | _ => 0
theorem Ps.tkn {w : World} {b : Nat} {t : List T4} {n : Nat} {l : List A3} (h : Ps w b t n l) : tkn w b = t.length := by
  obtain ⟨V, tb, tq, c, h⟩ := h
  unfold Go.Proofs.YtlokcmbkkfjlkaaGreatDoor.tkn
  rw [h.c0]
theorem app_expr {w : World} {ops : Array Oper} {rest : List Oper} {o : Oper} {a : Act} {Q : Exit → Act → World → Prop} (hgd : Region.wanted o (yielded ops a.tmps) = true) (s y : Operand)
    (ho : o.op = .call { callee := .builtin .append, args := #[s, y], argTypes := #[26, 26] })
    (base : Nat) (V : Value) (xs : List XV) (A : Option Addr) (ys : List XV) (n c : Nat) (hn : Hid (ys.length = n)) (hv : a.eval s = V) (hx : a.eval y = .slice A n c)
    (hd : OwnX w base V xs) (hs : XRd w A ys) (hlen : Hid (xs.length + n ≤ 1000000)) (hbase : base ≤ w.heap.size)
    (h : ∀ V' w', OwnX w' base V' (xs ++ ys) → w.grownBy w' V.ownBlock → (V'.ownBlock = V.ownBlock ∨ V'.ownBlock = some w.heap.size) → wpList Tryz.prog ops Q rest (a.put o.dst V') w') :
    wpList Tryz.prog ops Q (o :: rest) a w := by
  have hn' := hn.out
  subst hn'
  obtain ⟨i0, hi, hz0, hz1, hz2⟩ := info_parts expr_info
  have hl := hlen.out
  refine wpList_app w hgd s y 26 26 ho base 28 i0 _ 5 64 Tryz.underlying26 hi hz0 hz1 hz2 rfl V xs.length (xvs xs) _ ys.length (xvs ys) hv hx (.inl hd)
    (Src.exprs Tryz.underlying26 c hs) (by simp only [maxLen]; omega) (fits_half (by omega)) hbase (fun V' w' h1 h2 h3 h4 => h V' w' ?_ (h3 hd) h4)
  unfold OwnX
  rw [List.length_append, xvs_append]
  exact h1
theorem vld_len : ∀ (x : List Ex) (l m : List A3), l.length ≤ 8 → vld x l = some m → m.length ≤ 8
  | [], l, m, h, hv => by simp only [vld, Option.some.injEq] at hv; subst hv; exact h
  | e :: x, l, m, h, hv => by
    rw [vld] at hv
    split at hv
    · exact vld_len x l m h hv
    · split at hv
      · split at hv
        · rename_i h0
          exact vld_len x _ m (incl_len h h0) hv
        · cases hv
      · cases hv
theorem WT.pos {t : List T4} (h : WT t) : 0 < t.length := by
  have := h.ne
  cases t with
  | nil => exact absurd rfl this
  | cons a r => simp
theorem Go1.trans {b : Nat} {t t' : List T4} {n n' : Nat} {l l' : List A3} {a w c : World} (h : Go1 b t n l a w) (k : Go1 b t' n' l' w c) : Go1 b t' n' l' a c := ⟨k.1, h.2.trans k.2⟩
theorem Go1.up {b : Nat} {t : List T4} {n : Nat} {l : List A3} {a w w' : World} (h : Go1 b t n l a w) (hb : Below w.heap.size w w') : Go1 b t n l a w' := ⟨h.1.up hb, h.2.trans (Kp.up hb h.1.lt)⟩
/-- A tree made since w is one made since an earlier a, and lies apart from a row that was there. -/
theorem TIn.since {b lo : Nat} {V : Value} {w W : World} {v : XV} {e : Ex} (h : TIn (Nw w.heap.size b W) W v e) (hlo : lo ≤ w.heap.size) (hV : ∀ g, V.ownBlock = some g → g < w.heap.size) : TIn (fun k => Nw lo b W k ∧ V.ownBlock ≠ some k) W v e :=
  h.mono (fun k ⟨h1, h2, h3⟩ => ⟨⟨Nat.le_trans hlo h1, h2, h3⟩, fun e => by have := hV k e; omega⟩)
theorem TIn.upK {b lo : Nat} {V : Value} {w w' : World} {v : XV} {e : Ex} (h : TIn (fun k => Nw lo b w k ∧ V.ownBlock ≠ some k) w v e) (hb : Below w.heap.size w w') (hlt : b < w.heap.size) : TIn (fun k => Nw lo b w' k ∧ V.ownBlock ≠ some k) w' v e := by
  have e2 : rowOf w' b = rowOf w b := by unfold rowOf; rw [cell_of_block (hb.block b hlt) 2]
  exact h.of (fun k ⟨⟨h1, h2, h3⟩, h4⟩ => ⟨⟨h1, Nat.lt_of_lt_of_le h2 hb.size, by rw [e2]; exact h3⟩, h4⟩) (fun k ⟨⟨h1, h2, h3⟩, h4⟩ _ => hb.block k h2) hb.size
set_option maxHeartbeats 8000000 in
set_option maxRecDepth 100000 in
theorem list_is (f : Nat) (ih : ∀ g, g < f → EC g) (b : Nat) (t : List T4) (n : Nat) (l : List A3) (d : Nat) (w : World) (hp : Ps w b t n l) (hw : WT t) (hn : n ≤ 24) (h8 : l.length ≤ 8) (hf : t.length < f) (hd4 : d ≤ 4) :
    Calls Tryz.prog 86 #[.pointer (some ⟨b, 0, none⟩), .int .i64 (d : Int)] w (LsP b (pK f d t n l) w) := by
  obtain ⟨g, rfl⟩ : ∃ g, f = g + 1 := ⟨f - 1, by omega⟩
  have HP := Lib.hid hp
  have hbg := Lib.hid hp.lt
  have h0 := Lib.hid hw.pos
  have IH : Hid (∀ g', g' < g + 1 → EC g') := ih
  have e6 : IntKind.i64.wrap ((d : Int) + 1) = (d : Int) + 1 := by rw [IntKind.wrap_i64]; omega
  have hD : Hid ((d : Int) + 1 = ((d + 1 : Nat) : Int)) := rfl
  obtain ⟨R, hR⟩ : ∃ R, Hid (pK (g + 1) d t n l = R) := ⟨_, rfl⟩
  rw [hR.out]
  clear hp ih
  by_cases ho : (hd t).2.1 = wOpen
  · obtain ⟨_, w2, w3, w4⟩ := hw.punc (by rw [ho]; exact wOpen_p)
    have ho1 := Lib.hid ho
    have H4 := Lib.hid w4
    have HW2 := Lib.hid w2
    have hg : t.tail.length < g := by omega
    have CE := fun W (hW : Ps W b t.tail n l) => IH.out g (Nat.lt_succ_self g) b t.tail n l (d + 1) _ W hW w2 hn h8 hg (by omega) hD
    have HCE := Lib.hid CE
    clear CE
    cases he : pE g (d + 1) t.tail n l with
    | no pe xe0 =>
      rw [he] at HCE
      have hend : Hid (R = .no pe xe0) := by show _ = _; rw [← hR.out, pK, if_pos ho, he]
      clear he ho w2 w3 w4 hR hw hn h8 hf hg
      go_enter Tryz.func86, Tryz.ntmps86
      go_wp2_with (first
        | (go_at_call 109; refine (must_yes b t n l wOpen _ HP.out H4.out ho1).mono ?_; rintro e W1 ⟨rfl, hs1, hk1⟩; have HS1 := Lib.hid hs1; have HK1 := Lib.hid hk1; clear hs1 hk1)
        | (go_at_call 56; refine (HCE.out _ HS1.out).mono ?_; rintro e W2 ⟨rfl, hb2⟩; have HB2 := Lib.hid ((HK1.out.below HP.out).trans hb2); clear hb2))
      have e9 := hend.out
      subst e9
      exact ⟨rfl, rfl, HB2.out⟩
    | ok x t1 n1 l1 =>
      rw [he] at HCE
      obtain ⟨p1, p2, p3, p4, p5, p6⟩ := pE_ok w2 he
      have hR2 : Hid (pM g d [x] t1 n1 l1 = R) := by show _ = _; rw [← hR.out, pK, if_pos ho, he]
      have HWT := Lib.hid p1
      have hl1 := Lib.hid (vld_len _ _ _ h8 p6)
      have hc1 := cnt_pos x
      have hlen1 : Hid (([x] : List Ex).length ≤ n1) := by show _ ≤ _; simp; omega
      have hg2 : t1.length < g := by omega
      clear he ho w2 w3 w4 hR hw hn h8 hf hg p1 p2 p3 p5 p6 hc1
      go_enter Tryz.func86, Tryz.ntmps86
      go_wp2_with (first
        | (go_at_call 109; refine (must_yes b t n l wOpen _ HP.out H4.out ho1).mono ?_; rintro e W1 ⟨rfl, hs1, hk1⟩; have HS1 := Lib.hid hs1; have HK1 := Lib.hid hk1; clear hs1 hk1)
        | (go_at_call 56; refine (HCE.out _ HS1.out).mono ?_; rintro e W2 ⟨⟨k2, s2, m2, u2, A2, nn2, c2, rfl, ht2⟩, hg2⟩; have HG2 : Hid (Go1 b t1 n1 l1 w W2) := ⟨hg2.1, HK1.out.trans hg2.2⟩; have HT2 : Hid (TIn (Nw w.heap.size b W2) W2 ⟨k2, s2, m2, u2, A2, nn2, c2⟩ x) := ht2.mono (Nw.mono HK1.out.size); clear hg2 ht2))
      have hfst := KS.first (b := b) (lo := w.heap.size) (w := W2) (v := ⟨k2, s2, m2, u2, A2, nn2, c2⟩) (e := x) 28 rfl HG2.out.1.lt HG2.out.2.size (fun k h => (rowOf_lt HG2.out.1 h).2) HT2.out
      have HK0 := Lib.hid hfst
      have HG3 := Lib.hid (HG2.out.up (newB W2 (.cells #[.int .i64 k2, .string s2, .int .i64 m2, .int .i64 u2, .slice A2 nn2 c2] 28)))
      clear hfst
      go_loopw [5] (fun a wr => ∃ (f' : Nat) (es : List Ex) (vs : List XV) (t1 : List T4) (n1 : Nat) (l1 : List A3) (A : Option Addr) (nn c : Nat), a = .slice A nn c ∧ Hid (pM f' d es t1 n1 l1 = R) ∧ Hid (Go1 b t1 n1 l1 w wr) ∧ Hid (KS b w.heap.size (.slice A nn c) es vs wr) ∧ Hid (WT t1) ∧ t1.length < f' ∧ f' ≤ g ∧ n1 ≤ 24 ∧ Hid (l1.length ≤ 8) ∧ Hid (es.length ≤ n1)) (fun _ wr => tkn wr b)
      case atStart => exact ⟨g, [x], [⟨k2, s2, m2, u2, A2, nn2, c2⟩], t1, n1, l1, _, 1, 1, rfl, hR2, HG3.out, HK0.out, HWT.out, hg2, Nat.le_refl _, by omega, hl1.out, hlen1.out⟩
      case round =>
        obtain ⟨f', es, vs, t1, n1, l1, A, nn, c, rfl, hM, hG, hK, hW, hf', hfg, hn24, hl8, hesn⟩ := hrel
        obtain ⟨f2, rfl⟩ : ∃ f2, f' = f2 + 1 := ⟨f' - 1, by omega⟩
        have hwt := hW.out
        have hpos := Lib.hid hwt.pos
        by_cases hc : (hd t1).2.1 = wCom
        · obtain ⟨_, w2, w3, w4⟩ := hwt.punc (by rw [hc]; exact wCom_p)
          have hc1 := Lib.hid hc
          have H5 := Lib.hid w4
          have CE2 := fun W (hW : Ps W b t1.tail n1 l1) => IH.out f2 (by omega) b t1.tail n1 l1 (d + 1) _ W hW w2 hn24 hl8.out (by omega) (by omega) hD
          have HCE2 := Lib.hid CE2
          clear CE2
          cases he : pE f2 (d + 1) t1.tail n1 l1 with
          | no pe xe0 =>
            rw [he] at HCE2
            have hend : Hid (R = .no pe xe0) := by show _ = _; rw [← hM.out, pM, if_pos hc, he]
            clear he hc w2 w3 w4 hwt hM
            go_wp2_with (first
              | (go_at_call 85; refine (skip_yes b t1 n1 l1 wCom _ hG.out.1 H5.out hc1).mono ?_; rintro e W3 ⟨rfl, hs3, hk3⟩; have HS3 := Lib.hid hs3; have HK3 := Lib.hid (hG.out.2.trans hk3); clear hs3 hk3)
              | (go_at_call 56; refine (HCE2.out _ HS3.out).mono ?_; rintro e W4 ⟨rfl, hb4⟩; have HB4 := Lib.hid ((HK3.out.below HP.out).trans hb4); clear hb4))
            have e9 := hend.out
            subst e9
            exact ⟨rfl, rfl, HB4.out⟩
          | ok x2 t2 n2 l2 =>
            rw [he] at HCE2
            obtain ⟨p1, p2, p3, p4, p5, p6⟩ := pE_ok w2 he
            have hM2 : Hid (pM f2 d (es ++ [x2]) t2 n2 l2 = R) := by show _ = _; rw [← hM.out, pM, if_pos hc, he]
            have HWT2 := Lib.hid p1
            have hl2 := Lib.hid (vld_len _ _ _ hl8.out p6)
            have hcp := cnt_pos x2
            have hlen2 : Hid ((es ++ [x2]).length ≤ n2) := by have := hesn.out; show _ ≤ _; simp; omega
            have hf2 : Hid (t2.length < f2) := by show _ < _; omega
            have hts : Hid (t2.length < t1.length) := by show _ < _; omega
            have hvs : Hid (vs.length + 1 ≤ 1000000) := by have := hesn.out; have := hK.out.len; show _ ≤ _; omega
            have hn2 : n2 ≤ 24 := p4
            have h1l : Hid (∀ y : XV, [y].length = 1) := fun y => rfl
            clear he hc w2 w3 w4 hwt hM p1 p2 p3 p4 p5 p6 hcp
            go_wp2_with (first
              | (go_at_call 85; refine (skip_yes b t1 n1 l1 wCom _ hG.out.1 H5.out hc1).mono ?_; rintro e W3 ⟨rfl, hs3, hk3⟩; have HS3 := Lib.hid hs3; have HKS3 := Lib.hid (hK.out.kp hk3 hbg.out); have HK3 := Lib.hid (hG.out.2.trans hk3); clear hs3 hk3)
              | (go_at_call 56; refine (HCE2.out _ HS3.out).mono ?_; rintro e W4 ⟨⟨k4, s4, m4, u4, A4, nn4, c4, rfl, ht4⟩, hg4⟩; have HT4 := Lib.hid (TIn.since ht4 HK3.out.size (fun q hq => (own_lt HKS3.out.own hq).2)); have HKS4 := Lib.hid (HKS3.out.kp hg4.2 hbg.out); have HG4 : Hid (Go1 b t2 n2 l2 w W4) := ⟨hg4.1, HK3.out.trans hg4.2⟩; clear ht4 hg4)
              | (at_builtin; (refine app_expr rfl (.tmp 15) (.tmp 20) rfl w.heap.size (.slice A nn c) vs _ [⟨k4, s4, m4, u4, A4, nn4, c4⟩] 1 1 rfl rfl rfl (HKS4.out.kp (Kp.up (newB W4 _) HG4.out.1.lt) hbg.out).own (XRd.one_at _ _ ⟨k4, s4, m4, u4, A4, nn4, c4⟩ rfl) hvs (Nat.le_trans HG4.out.2.size (newB W4 _).size) ?_); intro V5 w5 ho5 hg5 hn5; obtain ⟨A5, c5, hV5, -, -, -, -⟩ := ho5.form; obtain ⟨k5, hk5⟩ : ∃ k5, Hid ((vs ++ [(⟨k4, s4, m4, u4, A4, nn4, c4⟩ : XV)]).length = k5) := ⟨_, rfl⟩; rw [hk5.out] at hV5; subst hV5; have HKS5 := Lib.hid (KS.app (HKS4.out.kp (Kp.up (newB W4 _) HG4.out.1.lt) hbg.out) hbg.out (Nat.lt_of_lt_of_le HG4.out.1.lt (newB W4 _).size) (fun q hq => (rowOf_lt (HG4.out.1.up (newB W4 _)) hq).2) (Nat.le_trans HG4.out.2.size (newB W4 _).size) ho5 hg5 hn5 (HT4.out.upK (newB W4 _) HG4.out.1.lt)); have HG5 := Lib.hid ((HG4.out.up (newB W4 _)).grown hg5 (fun q hq => ⟨(own_lt HKS4.out.own hq).1, Nat.lt_of_lt_of_le hbg.out (own_lt HKS4.out.own hq).1, (HKS4.out.kp (Kp.up (newB W4 _) HG4.out.1.lt) hbg.out).apart q hq⟩)); clear ho5 hg5 hn5))
            go_roundw
            case rel => exact ⟨f2, es ++ [x2], vs ++ [⟨k4, s4, m4, u4, A4, nn4, c4⟩], t2, n2, l2, A5, k5, c5, rfl, hM2, HG5, HKS5, HWT2, hf2.out, by omega, hn2, hl2, hlen2⟩
            case measure => rw [HG5.out.1.tkn, hG.out.1.tkn]; exact hts.out
        · have hc1 := Lib.hid hc
          by_cases hcl : (hd t1).2.1 = wCls
          · obtain ⟨_, w2, w3, w4⟩ := hwt.punc (by rw [hcl]; exact wCls_p)
            have hcl1 := Lib.hid hcl
            have H5 := Lib.hid w4
            have hend : Hid (R = .ok es t1.tail n1 l1) := by show _ = _; rw [← hM.out, pM, if_neg hc, if_pos hcl]
            clear hc hcl w2 w3 w4 hwt hM
            go_wp2_with (first
              | (go_at_call 85; refine (skip_no b t1 n1 l1 wCom _ hG.out.1 hpos.out hc1).mono ?_; rintro e W3 ⟨rfl, rfl⟩)
              | (go_at_call 109; refine (must_yes b t1 n1 l1 wCls _ hG.out.1 H5.out hcl1).mono ?_; rintro e W4 ⟨rfl, hs4, hk4⟩; have HKS4 := Lib.hid (hK.out.kp hk4 hbg.out); have HG4 : Hid (Go1 b t1.tail n1 l1 w W4) := ⟨hs4, hG.out.2.trans hk4⟩; clear hs4 hk4))
            go_ret
            have e9 := hend.out
            subst e9
            obtain ⟨q1, q2, q3, q4⟩ := HKS4.out.fin
            exact ⟨⟨A, nn, c, rfl, q1, q2, q3, q4⟩, HG4.out⟩
          · have hcl1 := Lib.hid hcl
            obtain ⟨p, hpp⟩ : ∃ p, Hid ((hd t1).2.2.2 = p) := ⟨_, rfl⟩
            have hend : Hid (R = .no p 8) := by show _ = _; rw [← hM.out, pM, if_neg hc, if_neg hcl, hpp.out]
            clear hc hcl hwt hM
            go_wp2_with (first
              | (go_at_call 85; refine (skip_no b t1 n1 l1 wCom _ hG.out.1 hpos.out hc1).mono ?_; rintro e W3 ⟨rfl, rfl⟩)
              | (go_at_call 109; refine (must_no b t1 n1 l1 wCls _ hG.out.1 hpos.out hcl1 hpp).mono ?_; rintro e W4 ⟨rfl, hb4⟩; have HB4 := Lib.hid ((hG.out.2.below HP.out).trans hb4); clear hb4))
            have e9 := hend.out
            subst e9
            exact ⟨rfl, rfl, HB4.out⟩
  · have ho1 := Lib.hid ho
    obtain ⟨p, hpp⟩ : ∃ p, Hid ((hd t).2.2.2 = p) := ⟨_, rfl⟩
    have hend : Hid (R = .no p 8) := by show _ = _; rw [← hR.out, pK, if_neg ho, hpp.out]
    clear ho hR hw hn h8 hf
    go_enter Tryz.func86, Tryz.ntmps86
    go_wp2_with (first
      | (go_at_call 109; refine (must_no b t n l wOpen _ HP.out h0.out ho1 hpp).mono ?_; rintro e W1 ⟨rfl, hb1⟩; have HB1 := Lib.hid hb1; clear hb1))
    have e9 := hend.out
    subst e9
    exact ⟨rfl, rfl, HB1.out⟩
end Go.Proofs.YtlokcmbkkfjlkaaGreatDoor
