/- Contract of the reference's Parse. The reference's Parse: contract. RequestParses walked. -/
import Derived.Test.YtlokcmbkkfjlkaaGreatDoorRqd
import Derived.Test.YtlokcmbkkfjlkaaGreatDoorLref
import Derived.Test.YtlokcmbkkfjlkaaGreatDoorRaw
import Derived.Test.YtlokcmbkkfjlkaaGreatDoorRqe
import Derived.Test.YtlokcmbkkfjlkaaGreatDoorRsm
namespace Go.Proofs.YtlokcmbkkfjlkaaGreatDoor.Rdr
open Go.RowKit
set_option linter.unusedVariables false
set_option linter.unusedSimpArgs false

theorem rs_new (W : World) {A : Option Addr} {m c : Nat} {t : List T4} (hi : InT W A m c t) (hw : WT t) (hs : t.length ≤ 100000) : Ps (W.alloc (.cells #[.slice A m c, .int .i64 0, .int .i64 0, .slice none 0 0, .int .i64 0, .int .i64 0] 73)) W.heap.size t 0 [] := by
  obtain ⟨tb, o, rfl, hlt, hz⟩ := hi.rd hw.ne
  obtain rfl := hi.len
  have hk : Blk (W.alloc (.cells #[.slice (some ⟨tb, o, none⟩) t.length c, .int .i64 0, .int .i64 0, .slice none 0 0, .int .i64 0, .int .i64 0] 73)) W.heap.size [.slice (some ⟨tb, o, none⟩) t.length c, .int .i64 0, .int .i64 0, .slice none 0 0, .int .i64 0, .int .i64 0] := Blk.new W _ _ rfl
  have h0 : (0 : Nat) + t.length = t.length := Nat.zero_add _
  exact ⟨0, .slice none 0 0, tb, o, c, hk.lt, by rw [h0]; exact hk.cell 0 rfl, hk.cell 1 rfl, hk.cell 2 rfl, hk.cell 3 rfl, hk.cell 4 rfl, hk.cell 5 rfl, hk.fz, by rw [h0]; exact hi.fit, by rw [h0]; exact hs, by omega, hlt, fun i h => by rw [Nat.zero_add]; exact (hz i h).of_block ((newB W _).block tb hlt), OwnQ.nil _ _, by simp⟩
theorem TIn.box {lo b g : Nat} {w : World} {v : XV} {x : Ex} (h : TIn (Nw lo b w) w v x) (hg : g < lo) (hb : g ≠ b) (o : Nat) (y : Value) : TIn (Nw lo b (w.setCell ⟨g, o, none⟩ y)) (w.setCell ⟨g, o, none⟩ y) v x := ⟨h.1, KRd.box h.2 hg hb o y⟩
abbrev W7 (W : World) (nq : Nat) (g : Nat) (v0 v1 v2 v3 v4 v5 v6 : Value) : World := ((((((((W.drewN nq).setCell ⟨g, 0, none⟩ v0).setCell ⟨g, 1, none⟩ v1).setCell ⟨g, 2, none⟩ v2).setCell ⟨g, 3, none⟩ v3).setCell ⟨g, 4, none⟩ v4).setCell ⟨g, 5, none⟩ v5).setCell ⟨g, 6, none⟩ v6)
theorem W7_block (W : World) (nq g : Nat) (v0 v1 v2 v3 v4 v5 v6 : Value) (k : Nat) (hg : k ≠ g) : (W7 W nq g v0 v1 v2 v3 v4 v5 v6).heap[k]? = W.heap[k]? :=
  (block_set _ _ _ hg).trans ((block_set _ _ _ hg).trans ((block_set _ _ _ hg).trans ((block_set _ _ _ hg).trans ((block_set _ _ _ hg).trans ((block_set _ _ _ hg).trans ((block_set _ _ _ hg).trans ((bdN (Below.refl (k + 1) W) nq).block k (Nat.lt_succ_self k))))))))
theorem W7_size (W : World) (nq g : Nat) (v0 v1 v2 v3 v4 v5 v6 : Value) : (W7 W nq g v0 v1 v2 v3 v4 v5 v6).heap.size = W.heap.size := by simp [World.setCell]
theorem tin_seven {lo b g : Nat} {W : World} {v : XV} {E : Ex} (h : TIn (Nw lo b W) W v E) (hg : g < lo) (nq : Nat) (v0 v1 v2 v3 v4 v5 v6 : Value) : TIn (Lo (W7 W nq g v0 v1 v2 v3 v4 v5 v6).heap.size) (W7 W nq g v0 v1 v2 v3 v4 v5 v6) v E :=
  TIn.of h (fun k hk => by rw [W7_size]; exact hk.2.1) (fun k hk _ => W7_block _ _ _ _ _ _ _ _ _ _ k (by have := hk.1; omega)) (by rw [W7_size]; exact Nat.le_refl _)
theorem bel_set {B : Nat} {a w : World} {o : Nat} {u : Value} (h : Below B a w) : Below B a (w.setCell ⟨B, o, none⟩ u) := Below.setCell (p := ⟨B, o, none⟩) h (Nat.le_refl _) u
/-- The result's box, the request's box, and what is kept. -/
structure PQ (w : World) (b g9 : Nat) (cs : List Value) (W : World) : Prop where
  bel : Below w.heap.size w W
  r0 : Bx W b w.heap.size zr7
  r9 : Bx W b g9 cs
  hb : w.heap.size < b
  hg : b < g9
theorem PQ.kp {w : World} {b g9 : Nat} {cs : List Value} {W W' : World} (h : PQ w b g9 cs W) (hk : Kp b W W') (hb : Below b W W') : PQ w b g9 cs W' := ⟨h.bel.trans (hb.mono (Nat.le_of_lt h.hb)), h.r0.kp hk, h.r9.kp hk, h.hb, h.hg⟩
theorem PQ.low {w : World} {b g9 : Nat} {cs : List Value} {W W' : World} (h : PQ w b g9 cs W) (hlt : b < W.heap.size) (hb : Below W.heap.size W W') : PQ w b g9 cs W' := h.kp (Kp.up hb hlt) (hb.mono (Nat.le_of_lt hlt))
theorem PQ.set {w : World} {b g9 : Nat} {cs : List Value} {W : World} (h : PQ w b g9 cs W) (o : Nat) (v : Value) : PQ w b g9 (cs.set o v) (W.setCell ⟨g9, o, none⟩ v) :=
  ⟨h.bel.setCell (p := ⟨g9, o, none⟩) (by have := h.hb; have := h.hg; show w.heap.size ≤ g9; omega) v, h.r0.other (by have := h.hb; have := h.hg; omega) (by have := h.hg; omega) o v, h.r9.own o v, h.hb, h.hg⟩
theorem Ps.five {w : World} {b g : Nat} {t : List T4} {n : Nat} {l : List A3} (h : Ps w b t n l) (hg : b < g) (hr : rowOf w b ≠ some g) (v0 v1 v2 v3 v4 : Value) : Ps (((((w.setCell ⟨g, 0, none⟩ v0).setCell ⟨g, 1, none⟩ v1).setCell ⟨g, 2, none⟩ v2).setCell ⟨g, 3, none⟩ v3).setCell ⟨g, 4, none⟩ v4) b t n l := by
  have e0 := fun (w : World) (o : Nat) (v : Value) => rowOf_box (w := w) (b := b) (g := g) (by omega) o v
  have h0 := h.box hg hr 0 v0
  have h1 := h0.box hg (by rw [e0]; exact hr) 1 v1
  have h2 := h1.box hg (by rw [e0, e0]; exact hr) 2 v2
  have h3 := h2.box hg (by rw [e0, e0, e0]; exact hr) 3 v3
  exact h3.box hg (by rw [e0, e0, e0, e0]; exact hr) 4 v4
theorem RE.box {w : World} {b g : Nat} {p e : Int} (h : RE w b p e) (hg : b < g) (o : Nat) (v : Value) : RE (w.setCell ⟨g, o, none⟩ v) b p e := h.of (block_set _ _ _ (by omega)) (by simp [World.setCell])
theorem lex_small {s : ByteArray} {x : List T4} {a : Int} (h : lexR s = (x, a, 0)) : x.length ≤ 100000 := by
  unfold lexR at h
  split at h
  · simp only [Prod.mk.injEq] at h
    exact absurd h.2.2 (by decide)
  · cases hl : lexAt s 0 with
    | ok l =>
      rw [hl] at h
      simp only [lexA, Prod.mk.injEq] at h
      obtain ⟨rfl, _⟩ := h
      have := lex_len _ 0 _ l (Nat.le_refl _) hl
      have e : s.data.toList.length = s.size := by simp
      simp at this
      omega
    | no i e =>
      rw [hl] at h
      simp only [lexA, Prod.mk.injEq] at h
      have := lex_err _ 0 _ _ _ (Nat.le_refl _) hl
      omega
set_option maxHeartbeats 2000000 in
set_option maxRecDepth 100000 in
theorem parse_bad (s : ByteArray) (w : World) {x : List T4} {a e : Int} (hr : Hid (lexR s = (x, a, e))) (he : e ≠ 0) :
    Calls Tryz.prog 16 #[.string s] w (PaP (.no a e) w) := by
  have he0 : (e == 0) = false := by rw [beq_eq_false_iff_ne]; exact he
  have he1 : (e != 0) = true := by rw [bne_iff_ne]; exact he
  have HK := Lib.hid (Blk.new w zr7 30 rfl)
  clear he
  go_enter Tryz.func16, Tryz.ntmps16
  go_wp2_with (go_at_call 25; refine (refTokens_is s _ hr).mono ?_; rintro e1 W1 ⟨A1, m1, c1, rfl, -, hb1⟩; have k0 := HK.out.up hb1 (by simp); have d0 := k0.cell 0 rfl; have d1 := k0.cell 1 rfl; have d2 := k0.cell 2 rfl; have d3 := k0.cell 3 rfl; have d4 := k0.cell 4 rfl; have d5 := k0.cell 5 rfl; have d6 := k0.cell 6 rfl; have df := k0.fz; have dl := k0.lt; have HB1 := Lib.hid (dn1 hb1); clear hb1 k0)
  refine bodyPost_ret (v := .tuple #[rq 0 ⟨#[]⟩ 0 0 none 0 0 0 0, .int .i64 a, .int .i64 e]) (by simp [results, Tryz.results16, go_sem, d0, d1, d2, d3, d4, d5, d6, df]) rfl ⟨rfl, ?_⟩
  repeat (refine Below.setCell ?_ (by simp only []; omega) _)
  exact HB1.out
set_option maxHeartbeats 8000000 in
set_option maxRecDepth 100000 in
theorem parse_go (EA : ∀ f, EC f) (s : ByteArray) (w : World) {t : List T4} {a : Int} (hr : Hid (lexR s = (t, a, 0))) (hw : WT t) {R : QR} (hR : Hid (pQ t = R)) :
    Calls Tryz.prog 16 #[.string s] w (PaP R w) := by
  have HW := Lib.hid hw
  have HSM := Lib.hid (lex_small hr.out)
  have HK := Lib.hid (Blk.new w zr7 30 rfl)
  clear hw
  go_enter Tryz.func16, Tryz.ntmps16
  go_upto_region 6 with (go_at_call 25; refine (refTokens_is s _ hr).mono ?_; rintro e1 W1 ⟨A1, m1, c1, rfl, hi1, hb1⟩; have HI := Lib.hid hi1; have HK1 := Lib.hid (HK.out.up hb1 (by simp)); have HB1 := Lib.hid (dn1 hb1); clear hb1 hi1)
  have hps := rs_new W1 HI.out HW.out HSM.out
  have hlt1 : w.heap.size < W1.heap.size := HK1.out.lt
  have hps2 := hps.up (newB _ (.cells #[.int .i64 0, .string ⟨#[]⟩, .int .i64 0, .int .i64 0, .slice none 0 0, .int .i64 0, .int .i64 0] 30))
  have hx9 := Bx.new hps zr7 30
  have hsz : (W1.alloc (.cells #[.slice A1 m1 c1, .int .i64 0, .int .i64 0, .slice none 0 0, .int .i64 0, .int .i64 0] 73)).heap.size = W1.heap.size + 1 := by simp
  rw [hsz] at hx9
  have HP2 : Hid (Ps ((W1.alloc (.cells #[.slice A1 m1 c1, .int .i64 0, .int .i64 0, .slice none 0 0, .int .i64 0, .int .i64 0] 73)).alloc (.cells #[.int .i64 0, .string ⟨#[]⟩, .int .i64 0, .int .i64 0, .slice none 0 0, .int .i64 0, .int .i64 0] 30)) W1.heap.size t 0 []) := hps2
  have HQ2 : Hid (PQ w W1.heap.size (W1.heap.size + 1) zr7 ((W1.alloc (.cells #[.slice A1 m1 c1, .int .i64 0, .int .i64 0, .slice none 0 0, .int .i64 0, .int .i64 0] 73)).alloc (.cells #[.int .i64 0, .string ⟨#[]⟩, .int .i64 0, .int .i64 0, .slice none 0 0, .int .i64 0, .int .i64 0] 30))) :=
    ⟨nx HB1.out (nxA (newB _ _) _), ⟨(HK1.out.grow _).grow _, by omega, fun e => by have := (rowOf_lt hps2 e).1; omega⟩, hx9, hlt1, Nat.lt_succ_self _⟩
  clear hps hps2 hx9 hsz HK1 HB1 HI HK
  generalize ((W1.alloc (.cells #[.slice A1 m1 c1, .int .i64 0, .int .i64 0, .slice none 0 0, .int .i64 0, .int .i64 0] 73)).alloc (.cells #[.int .i64 0, .string ⟨#[]⟩, .int .i64 0, .int .i64 0, .slice none 0 0, .int .i64 0, .int .i64 0] 30)) = W2 at HP2 HQ2 ⊢
  have hbd : Hid (w.heap.size < W1.heap.size) := hlt1
  clear hlt1
  generalize hg9 : W1.heap.size + 1 = g9 at HQ2 ⊢
  generalize hbb : W1.heap.size = b at HP2 HQ2 hg9 hbd ⊢
  have hbg : b < g9 := by omega
  have hrb : w.heap.size < b := hbd.out
  clear hbb hg9 hbd
  have n1 : ¬ b = g9 := by omega
  have n2 : ¬ g9 = b := by omega
  have n3 : ¬ w.heap.size = b := by omega
  have n4 : ¬ b = w.heap.size := by omega
  have n5 : ¬ w.heap.size = g9 := by omega
  have n6 : ¬ g9 = w.heap.size := by omega
  have CE := Lib.hid (EA (t.length + 1) b t 0 [] 1 1 W2 HP2.out HW.out (Nat.lt_succ_self _) (by omega) (Lib.hid rfl))
  have MK := Lib.hid trivial
  clear EA
  have hRq : R = pQ t := hR.out.symm
  unfold pQ at hRq
  have HRq := Lib.hid hRq
  clear hRq hR
  have hy := HQ2.out.r9
  have y0 := hy.1.cell 0 rfl
  have y1 := hy.1.cell 1 rfl
  have y2 := hy.1.cell 2 rfl
  have y3 := hy.1.cell 3 rfl
  have y4 := hy.1.cell 4 rfl
  have y5 := hy.1.cell 5 rfl
  have y6 := hy.1.cell 6 rfl
  have yf := hy.1.fz
  have yl := hy.1.lt
  clear hy
  cases hE : pE (t.length + 1) 1 t 0 [] with
  | no p e =>
    rw [hE] at CE HRq
    clear hE
    have hend : Hid (R = .no p e) := HRq
    clear HRq
    go_wp2_with (first
      | (go_at_call 36; refine CE.out.mono ?_; rintro e3 W3 ⟨⟨k, s2, m, u, A, n, c, rfl⟩, he, hk⟩; have hq := HQ2.out.kp hk (hk.below HP2.out); clear y0 y1 y2 y3 y4 y5 y6 yf yl; have y0 := hq.r9.1.cell 0 rfl; have y1 := hq.r9.1.cell 1 rfl; have y2 := hq.r9.1.cell 2 rfl; have y3 := hq.r9.1.cell 3 rfl; have y4 := hq.r9.1.cell 4 rfl; have y5 := hq.r9.1.cell 5 rfl; have y6 := hq.r9.1.cell 6 rfl; have yf := hq.r9.1.fz; have yl := hq.r9.1.lt; have HQ3 := Lib.hid hq; have HE3 := Lib.hid he; have c4 := he.c4; have c5 := he.c5; have hbl := he.lt; clear hq he hk)
      | (go_at_call 37; clear MK; refine (opt_skip b wPrio 7 _ (Lib.hid (RE.box (RE.box (RE.box (RE.box (RE.box (HE3.out) hbg 0 _) hbg 1 _) hbg 2 _) hbg 3 _) hbg 4 _))).mono ?_; rintro e4 W4 ⟨rfl, rfl⟩)
      | (go_at_call 37; refine (opt_skip b wLim 1000 _ (Lib.hid (RE.box (RE.box (RE.box (RE.box (RE.box (RE.box (HE3.out) hbg 0 _) hbg 1 _) hbg 2 _) hbg 3 _) hbg 4 _) hbg 5 _))).mono ?_; rintro e4 W4 ⟨rfl, rfl⟩))
    have HQ5 : Hid (PQ w b g9 _ (((((((W3.setCell ⟨g9, 0, none⟩ (.int .i64 k)).setCell ⟨g9, 1, none⟩ (.string s2)).setCell ⟨g9, 2, none⟩ (.int .i64 m)).setCell ⟨g9, 3, none⟩ (.int .i64 u)).setCell ⟨g9, 4, none⟩ (.slice A n c)).setCell ⟨g9, 5, none⟩ (.int .i64 0)).setCell ⟨g9, 6, none⟩ (.int .i64 0))) := Lib.hid (((((((HQ3.out.set 0 _).set 1 _).set 2 _).set 3 _).set 4 _).set 5 _).set 6 _)
    have HE5 : Hid (RE (((((((W3.setCell ⟨g9, 0, none⟩ (.int .i64 k)).setCell ⟨g9, 1, none⟩ (.string s2)).setCell ⟨g9, 2, none⟩ (.int .i64 m)).setCell ⟨g9, 3, none⟩ (.int .i64 u)).setCell ⟨g9, 4, none⟩ (.slice A n c)).setCell ⟨g9, 5, none⟩ (.int .i64 0)).setCell ⟨g9, 6, none⟩ (.int .i64 0)) b p e) := Lib.hid (RE.box (RE.box (RE.box (RE.box (RE.box (RE.box (RE.box HE3.out hbg 0 _) hbg 1 _) hbg 2 _) hbg 3 _) hbg 4 _) hbg 5 _) hbg 6 _)
    clear c4 c5 hbl
    generalize (((((((W3.setCell ⟨g9, 0, none⟩ (.int .i64 k)).setCell ⟨g9, 1, none⟩ (.string s2)).setCell ⟨g9, 2, none⟩ (.int .i64 m)).setCell ⟨g9, 3, none⟩ (.int .i64 u)).setCell ⟨g9, 4, none⟩ (.slice A n c)).setCell ⟨g9, 5, none⟩ (.int .i64 0)).setCell ⟨g9, 6, none⟩ (.int .i64 0)) = W5 at HQ5 HE5 ⊢
    clear y0 y1 y2 y3 y4 y5 y6 yf yl
    have c4 := HE5.out.c4
    have c5 := HE5.out.c5
    have hbl := HE5.out.lt
    have b1 : (e == 0) = false := by rw [beq_eq_false_iff_ne]; exact HE5.out.ne
    have b2 : (e != 0) = true := by rw [bne_iff_ne]; exact HE5.out.ne
    have hr := HQ5.out.r0.1
    have d0 := hr.cell 0 rfl
    have d1 := hr.cell 1 rfl
    have d2 := hr.cell 2 rfl
    have d3 := hr.cell 3 rfl
    have d4 := hr.cell 4 rfl
    have d5 := hr.cell 5 rfl
    have d6 := hr.cell 6 rfl
    have df := hr.fz
    have dl := hr.lt
    clear hr
    go_quiet (fail)
    go_wp2
    go_region
    all_goals (
      go_wp2
      have e9 := hend.out
      subst e9
      refine bodyPost_ret (v := .tuple #[rq 0 ⟨#[]⟩ 0 0 none 0 0 0 0, .int .i64 p, .int .i64 e]) (by simp [results, Tryz.results16, go_sem, d0, d1, d2, d3, d4, d5, d6, df]) rfl ⟨rfl, ?_⟩
      repeat (first | (with_reducible exact HQ5.out.bel) | (with_reducible refine bdN ?_ _) | (with_reducible refine bdD ?_) | (with_reducible refine bel_set ?_)))
  | ok E t1 n1' l1 =>
    obtain ⟨hwt1, -⟩ := pE_ok HW.out hE
    have HWT1 := Lib.hid hwt1
    rw [hE] at CE HRq
    clear hE hwt1
    have hRp : R = pPri E t1 := HRq.out
    unfold pPri at hRp
    have HRp := Lib.hid hRp
    clear hRp HRq
    have hblt : b < W2.heap.size := HP2.out.lt
    have hg9l : g9 < W2.heap.size := HQ2.out.r9.1.lt
    cases hP : pS wPrio 7 t1 with
    | no p e =>
      rw [hP] at HRp
      have HPr := Lib.hid hP
      clear hP
      have hend : Hid (R = .no p e) := HRp
      clear HRp
      go_wp2_with (first
        | (go_at_call 36; refine CE.out.mono ?_; rintro e3 W3 ⟨⟨k, s2, m, u, A, n, c, rfl, ht⟩, hp, hk⟩; have hq := HQ2.out.kp hk (hk.below HP2.out); clear y0 y1 y2 y3 y4 y5 y6 yf yl; have y0 := hq.r9.1.cell 0 rfl; have y1 := hq.r9.1.cell 1 rfl; have y2 := hq.r9.1.cell 2 rfl; have y3 := hq.r9.1.cell 3 rfl; have y4 := hq.r9.1.cell 4 rfl; have y5 := hq.r9.1.cell 5 rfl; have y6 := hq.r9.1.cell 6 rfl; have yf := hq.r9.1.fz; have yl := hq.r9.1.lt; have HQ3 := Lib.hid hq; have HP3 := Lib.hid hp; have HT3 := Lib.hid ht; clear hq hp hk ht)
        | (go_at_call 37; clear MK; refine (option_is b t1 n1' l1 wPrio 7 _ (Ps.five HP3.out hbg HQ3.out.r9.2.2 _ _ _ _ _) HWT1.out wPrio_l).mono ?_; rw [HPr.out]; rintro e4 W4 ⟨⟨v, rfl⟩, he, hk⟩; have hq := (((((HQ3.out.set 0 _).set 1 _).set 2 _).set 3 _).set 4 _).kp hk (hk.below (Ps.five HP3.out hbg HQ3.out.r9.2.2 _ _ _ _ _)); clear y0 y1 y2 y3 y4 y5 y6 yf yl; have y0 := hq.r9.1.cell 0 rfl; have y1 := hq.r9.1.cell 1 rfl; have y2 := hq.r9.1.cell 2 rfl; have y3 := hq.r9.1.cell 3 rfl; have y4 := hq.r9.1.cell 4 rfl; have y5 := hq.r9.1.cell 5 rfl; have y6 := hq.r9.1.cell 6 rfl; have yf := hq.r9.1.fz; have yl := hq.r9.1.lt; have HQ4 := Lib.hid hq; have HE4 := Lib.hid he; clear he; clear hq hk)
        | (go_at_call 37; refine (opt_skip b wLim 1000 _ (Lib.hid (RE.box HE4.out hbg 5 _))).mono ?_; rintro e5 W5 ⟨rfl, rfl⟩))
      have HQ5 : Hid (PQ w b g9 _ ((W4.setCell ⟨g9, 5, none⟩ (.int .i64 v)).setCell ⟨g9, 6, none⟩ (.int .i64 0))) := Lib.hid ((HQ4.out.set 5 _).set 6 _)
      have HE5 : Hid (RE ((W4.setCell ⟨g9, 5, none⟩ (.int .i64 v)).setCell ⟨g9, 6, none⟩ (.int .i64 0)) b p e) := Lib.hid (RE.box (RE.box HE4.out hbg 5 _) hbg 6 _)
      generalize ((W4.setCell ⟨g9, 5, none⟩ (.int .i64 v)).setCell ⟨g9, 6, none⟩ (.int .i64 0)) = W5 at HQ5 HE5 ⊢
      clear y0 y1 y2 y3 y4 y5 y6 yf yl
      have c4 := HE5.out.c4
      have c5 := HE5.out.c5
      have hbl := HE5.out.lt
      have b1 : (e == 0) = false := by rw [beq_eq_false_iff_ne]; exact HE5.out.ne
      have b2 : (e != 0) = true := by rw [bne_iff_ne]; exact HE5.out.ne
      have hr := HQ5.out.r0.1
      have d0 := hr.cell 0 rfl
      have d1 := hr.cell 1 rfl
      have d2 := hr.cell 2 rfl
      have d3 := hr.cell 3 rfl
      have d4 := hr.cell 4 rfl
      have d5 := hr.cell 5 rfl
      have d6 := hr.cell 6 rfl
      have df := hr.fz
      have dl := hr.lt
      clear hr
      go_quiet (fail)
      go_wp2
      go_region
      all_goals (
        go_wp2
        have e9 := hend.out
        subst e9
        refine bodyPost_ret (v := .tuple #[rq 0 ⟨#[]⟩ 0 0 none 0 0 0 0, .int .i64 p, .int .i64 e]) (by simp [results, Tryz.results16, go_sem, d0, d1, d2, d3, d4, d5, d6, df]) rfl ⟨rfl, ?_⟩
        repeat (first | (with_reducible exact HQ5.out.bel) | (with_reducible refine bdN ?_ _) | (with_reducible refine bdD ?_) | (with_reducible refine bel_set ?_)))
    | ok v t2 n2' l2 =>
      obtain ⟨hwt2, -⟩ := pS_ok HWT1.out wPrio_l (by omega) hP
      have HWT2 := Lib.hid hwt2
      rw [hP] at HRp
      have HPr := Lib.hid hP
      clear hP hwt2
      have hRl : R = pLim E v t2 := HRp.out
      unfold pLim at hRl
      have HRl := Lib.hid hRl
      clear hRl HRp
      cases hL : pS wLim 1000 t2 with
      | no p e =>
        rw [hL] at HRl
        have HLi := Lib.hid hL
        clear hL
        have hend : Hid (R = .no p e) := HRl
        clear HRl
        go_wp2_with (first
          | (go_at_call 36; refine CE.out.mono ?_; rintro e3 W3 ⟨⟨k, s2, m, u, A, n, c, rfl, ht⟩, hp, hk⟩; have hq := HQ2.out.kp hk (hk.below HP2.out); clear y0 y1 y2 y3 y4 y5 y6 yf yl; have y0 := hq.r9.1.cell 0 rfl; have y1 := hq.r9.1.cell 1 rfl; have y2 := hq.r9.1.cell 2 rfl; have y3 := hq.r9.1.cell 3 rfl; have y4 := hq.r9.1.cell 4 rfl; have y5 := hq.r9.1.cell 5 rfl; have y6 := hq.r9.1.cell 6 rfl; have yf := hq.r9.1.fz; have yl := hq.r9.1.lt; have HQ3 := Lib.hid hq; have HP3 := Lib.hid hp; have HT3 := Lib.hid ht; clear hq hp hk ht)
          | (go_at_call 37; clear MK; refine (option_is b t1 n1' l1 wPrio 7 _ (Ps.five HP3.out hbg HQ3.out.r9.2.2 _ _ _ _ _) HWT1.out wPrio_l).mono ?_; rw [HPr.out]; rintro e4 W4 ⟨rfl, hp, hk⟩; have hq := (((((HQ3.out.set 0 _).set 1 _).set 2 _).set 3 _).set 4 _).kp hk (hk.below (Ps.five HP3.out hbg HQ3.out.r9.2.2 _ _ _ _ _)); clear y0 y1 y2 y3 y4 y5 y6 yf yl; have y0 := hq.r9.1.cell 0 rfl; have y1 := hq.r9.1.cell 1 rfl; have y2 := hq.r9.1.cell 2 rfl; have y3 := hq.r9.1.cell 3 rfl; have y4 := hq.r9.1.cell 4 rfl; have y5 := hq.r9.1.cell 5 rfl; have y6 := hq.r9.1.cell 6 rfl; have yf := hq.r9.1.fz; have yl := hq.r9.1.lt; have HQ4 := Lib.hid hq; have HP4 := Lib.hid hp; have HT4 := Lib.hid (TIn.kp (Nat.lt_of_lt_of_le hblt (Nat.le_refl _)) (TIn.five HT3.out hg9l (by omega) _ _ _ _ _) hk); clear hp; clear hq hk)
          | (go_at_call 37; refine (option_is b t2 n1' l1 wLim 1000 _ (HP4.out.box hbg HQ4.out.r9.2.2 5 _) HWT2.out wLim_l).mono ?_; rw [HLi.out]; rintro e5 W5 ⟨⟨v2, rfl⟩, he, hk⟩; have hq := (HQ4.out.set 5 _).kp hk (hk.below (HP4.out.box hbg HQ4.out.r9.2.2 5 _)); clear y0 y1 y2 y3 y4 y5 y6 yf yl; have y0 := hq.r9.1.cell 0 rfl; have y1 := hq.r9.1.cell 1 rfl; have y2 := hq.r9.1.cell 2 rfl; have y3 := hq.r9.1.cell 3 rfl; have y4 := hq.r9.1.cell 4 rfl; have y5 := hq.r9.1.cell 5 rfl; have y6 := hq.r9.1.cell 6 rfl; have yf := hq.r9.1.fz; have yl := hq.r9.1.lt; have HQ5' := Lib.hid hq; have HE5' := Lib.hid he; clear he; clear hq hk))
        have HQ5 : Hid (PQ w b g9 _ (W5.setCell ⟨g9, 6, none⟩ (.int .i64 v2))) := Lib.hid (HQ5'.out.set 6 _)
        have HE5 : Hid (RE (W5.setCell ⟨g9, 6, none⟩ (.int .i64 v2)) b p e) := Lib.hid (RE.box HE5'.out hbg 6 _)
        clear HQ5' HE5'
        generalize (W5.setCell ⟨g9, 6, none⟩ (.int .i64 v2)) = W6 at HQ5 HE5 ⊢
        clear y0 y1 y2 y3 y4 y5 y6 yf yl
        have c4 := HE5.out.c4
        have c5 := HE5.out.c5
        have hbl := HE5.out.lt
        have b1 : (e == 0) = false := by rw [beq_eq_false_iff_ne]; exact HE5.out.ne
        have b2 : (e != 0) = true := by rw [bne_iff_ne]; exact HE5.out.ne
        have hr := HQ5.out.r0.1
        have d0 := hr.cell 0 rfl
        have d1 := hr.cell 1 rfl
        have d2 := hr.cell 2 rfl
        have d3 := hr.cell 3 rfl
        have d4 := hr.cell 4 rfl
        have d5 := hr.cell 5 rfl
        have d6 := hr.cell 6 rfl
        have df := hr.fz
        have dl := hr.lt
        clear hr
        go_quiet (fail)
        go_wp2
        go_region
        all_goals (
          go_wp2
          have e9 := hend.out
          subst e9
          refine bodyPost_ret (v := .tuple #[rq 0 ⟨#[]⟩ 0 0 none 0 0 0 0, .int .i64 p, .int .i64 e]) (by simp [results, Tryz.results16, go_sem, d0, d1, d2, d3, d4, d5, d6, df]) rfl ⟨rfl, ?_⟩
          repeat (first | (with_reducible exact HQ5.out.bel) | (with_reducible refine bdN ?_ _) | (with_reducible refine bdD ?_) | (with_reducible refine bel_set ?_)))
      | ok v2 t3 n3' l3 =>
        obtain ⟨hwt3, -⟩ := pS_ok HWT2.out wLim_l (by omega) hL
        have HWT3 := Lib.hid hwt3
        rw [hL] at HRl
        have HLi := Lib.hid hL
        clear hL hwt3
        have hRe : R = if (hd t3).1 = 5 then .ok (E, v, v2) else .no (hd t3).2.2.2 8 := HRl.out
        have HRe := Lib.hid hRe
        clear hRe HRl
        go_wp2_with (first
          | (go_at_call 36; refine CE.out.mono ?_; rintro e3 W3 ⟨⟨k, s2, m, u, A, n, c, rfl, ht⟩, hp, hk⟩; have hq := HQ2.out.kp hk (hk.below HP2.out); clear y0 y1 y2 y3 y4 y5 y6 yf yl; have y0 := hq.r9.1.cell 0 rfl; have y1 := hq.r9.1.cell 1 rfl; have y2 := hq.r9.1.cell 2 rfl; have y3 := hq.r9.1.cell 3 rfl; have y4 := hq.r9.1.cell 4 rfl; have y5 := hq.r9.1.cell 5 rfl; have y6 := hq.r9.1.cell 6 rfl; have yf := hq.r9.1.fz; have yl := hq.r9.1.lt; have HQ3 := Lib.hid hq; have HP3 := Lib.hid hp; have HT3 := Lib.hid ht; clear hq hp hk ht)
          | (go_at_call 37; clear MK; refine (option_is b t1 n1' l1 wPrio 7 _ (Ps.five HP3.out hbg HQ3.out.r9.2.2 _ _ _ _ _) HWT1.out wPrio_l).mono ?_; rw [HPr.out]; rintro e4 W4 ⟨rfl, hp, hk⟩; have hq := (((((HQ3.out.set 0 _).set 1 _).set 2 _).set 3 _).set 4 _).kp hk (hk.below (Ps.five HP3.out hbg HQ3.out.r9.2.2 _ _ _ _ _)); clear y0 y1 y2 y3 y4 y5 y6 yf yl; have y0 := hq.r9.1.cell 0 rfl; have y1 := hq.r9.1.cell 1 rfl; have y2 := hq.r9.1.cell 2 rfl; have y3 := hq.r9.1.cell 3 rfl; have y4 := hq.r9.1.cell 4 rfl; have y5 := hq.r9.1.cell 5 rfl; have y6 := hq.r9.1.cell 6 rfl; have yf := hq.r9.1.fz; have yl := hq.r9.1.lt; have HQ4 := Lib.hid hq; have HP4 := Lib.hid hp; have HT4 := Lib.hid (TIn.kp (Nat.lt_of_lt_of_le hblt (Nat.le_refl _)) (TIn.five HT3.out hg9l (by omega) _ _ _ _ _) hk); clear hp; clear hq hk)
          | (go_at_call 37; refine (option_is b t2 n1' l1 wLim 1000 _ (HP4.out.box hbg HQ4.out.r9.2.2 5 _) HWT2.out wLim_l).mono ?_; rw [HLi.out]; rintro e5 W5 ⟨rfl, hp, hk⟩; have hq := (HQ4.out.set 5 _).kp hk (hk.below (HP4.out.box hbg HQ4.out.r9.2.2 5 _)); clear y0 y1 y2 y3 y4 y5 y6 yf yl; have y0 := hq.r9.1.cell 0 rfl; have y1 := hq.r9.1.cell 1 rfl; have y2 := hq.r9.1.cell 2 rfl; have y3 := hq.r9.1.cell 3 rfl; have y4 := hq.r9.1.cell 4 rfl; have y5 := hq.r9.1.cell 5 rfl; have y6 := hq.r9.1.cell 6 rfl; have yf := hq.r9.1.fz; have yl := hq.r9.1.lt; have HQ5' := Lib.hid hq; have HP5 := Lib.hid hp; have HT5 := Lib.hid (TIn.kp (Nat.lt_of_lt_of_le hblt (Nat.le_refl _)) (TIn.box HT4.out hg9l (by omega) 5 _) hk); clear hp; clear hq hk))
        have HQ6 : Hid (PQ w b g9 _ (W5.setCell ⟨g9, 6, none⟩ (.int .i64 v2))) := Lib.hid (HQ5'.out.set 6 _)
        have HP6 : Hid (Ps (W5.setCell ⟨g9, 6, none⟩ (.int .i64 v2)) b t3 n1' l1) := Lib.hid (HP5.out.box hbg HQ5'.out.r9.2.2 6 _)
        have HT6 : Hid (TIn (Nw W2.heap.size b (W5.setCell ⟨g9, 6, none⟩ (.int .i64 v2))) (W5.setCell ⟨g9, 6, none⟩ (.int .i64 v2)) ⟨k, s2, m, u, A, n, c⟩ E) := Lib.hid (TIn.box HT5.out hg9l (by omega) 6 _)
        clear HQ5' HP5 HT5 y0 y1 y2 y3 y4 y5 y6 yf yl
        generalize (W5.setCell ⟨g9, 6, none⟩ (.int .i64 v2)) = W6 at HQ6 HP6 HT6 ⊢
        have H3 := Lib.hid HWT3.out.pos
        obtain ⟨j, V, tb, tq, c9, tl, hpv, htl, g0, hfit, hsm, hlt, c0, c1', c2, c3, c4, c5, fz, htb, z0, z1, z2, z3⟩ := HP6.out.open_ H3.out
        obtain ⟨k0, hk0⟩ : ∃ k0, Hid ((hd t3).1 = k0) := ⟨_, rfl⟩
        obtain ⟨p, hp0⟩ : ∃ p0, Hid ((hd t3).2.2.2 = p0) := ⟨_, rfl⟩
        rw [hk0.out] at z0
        rw [hp0.out] at z3
        have hy := HQ6.out.r9
        have y0 := hy.1.cell 0 rfl
        have y1 := hy.1.cell 1 rfl
        have y2 := hy.1.cell 2 rfl
        have y3 := hy.1.cell 3 rfl
        have y4 := hy.1.cell 4 rfl
        have y5 := hy.1.cell 5 rfl
        have y6 := hy.1.cell 6 rfl
        have yf := hy.1.fz
        have yl := hy.1.lt
        have hr := HQ6.out.r0.1
        have d0 := hr.cell 0 rfl
        have d1 := hr.cell 1 rfl
        have d2 := hr.cell 2 rfl
        have d3 := hr.cell 3 rfl
        have d4 := hr.cell 4 rfl
        have d5 := hr.cell 5 rfl
        have d6 := hr.cell 6 rfl
        have df := hr.fz
        have dl := hr.lt
        clear hy hr hpv htl c2 c3 c5 z1 z2
        by_cases h5 : k0 = 5
        · have b5 : (k0 != 5) = false := by rw [bne_eq_false_iff_eq]; exact h5
          have hend : Hid (R = .ok (E, v, v2)) := by show _ = _; rw [HRe.out, hk0.out, if_pos h5]
          clear h5 HRe
          go_quiet (fail)
          go_wp2
          have e9 := hend.out
          subst e9
          have hlo : w.heap.size < W2.heap.size := by omega
          refine bodyPost_ret (v := .tuple #[rq k s2 m u A n c v v2, .int .i64 0, .int .i64 0]) (by simp [results, Tryz.results16, go_sem, d0, d1, d2, d3, d4, d5, d6, df, n3, n4, n5, n6]) rfl ⟨⟨k, s2, m, u, A, n, c, rfl, tin_seven HT6.out hlo _ _ _ _ _ _ _ _⟩, ?_⟩
          iterate 7 (refine Below.setCell ?_ (by simp only []; omega) _)
          exact bdN HQ6.out.bel _
        · have b5 : (k0 != 5) = true := by rw [bne_iff_ne]; exact h5
          have hend : Hid (R = .no p 8) := by show _ = _; rw [HRe.out, hk0.out, if_neg h5, hp0.out]
          have h8 : Hid ((8 : Int) ≠ 0) := by show _ ≠ _; decide
          clear h5 HRe
          go_quiet (fail)
          go_wp2
          go_region_with (go_at_call 38; refine (fail_is b p 8 _ (RF.up HP6.out.rf (bdN (Below.refl _ _) _)) h8).mono ?_; rintro e7 W7 ⟨rfl, he, hk⟩; have hkk : Kp b W6 W7 := (Kp.up (bdN (Below.refl _ _) _) HP6.out.lt).trans hk; have HQ5 := Lib.hid (HQ6.out.kp hkk (hkk.below HP6.out)); have HE5 := Lib.hid he; clear he hk hkk)
          all_goals (
            clear d0 d1 d2 d3 d4 d5 d6 df dl c4 hlt c0 c1' fz htb z0 z3 g0 hfit hsm b5 y0 y1 y2 y3 y4 y5 y6 yf yl HP6 HT6 HQ6
            generalize (8 : Int) = e at HE5 hend
            have c4 := HE5.out.c4
            have c5 := HE5.out.c5
            have hbl := HE5.out.lt
            have b1 : (e == 0) = false := by rw [beq_eq_false_iff_ne]; exact HE5.out.ne
            have b2 : (e != 0) = true := by rw [bne_iff_ne]; exact HE5.out.ne
            have hr := HQ5.out.r0.1
            have d0 := hr.cell 0 rfl
            have d1 := hr.cell 1 rfl
            have d2 := hr.cell 2 rfl
            have d3 := hr.cell 3 rfl
            have d4 := hr.cell 4 rfl
            have d5 := hr.cell 5 rfl
            have d6 := hr.cell 6 rfl
            have df := hr.fz
            have dl := hr.lt
            clear hr
            go_wp2
            go_region
            all_goals (
              go_wp2
              have e9 := hend.out
              subst e9
              refine bodyPost_ret (v := .tuple #[rq 0 ⟨#[]⟩ 0 0 none 0 0 0 0, .int .i64 p, .int .i64 e]) (by simp [results, Tryz.results16, go_sem, d0, d1, d2, d3, d4, d5, d6, df]) rfl ⟨rfl, ?_⟩
              repeat (first | (with_reducible exact HQ5.out.bel) | (with_reducible refine bdN ?_ _) | (with_reducible refine bdD ?_) | (with_reducible refine bel_set ?_))))
/-- The reference's Parse, whatever the text (expr's contract at every fuel: XRqr). -/
theorem refParse_of (EA : ∀ f, EC f) (s : ByteArray) (w : World) {R : QR} (hR : Hid (pR s = R)) : Calls Tryz.prog 16 #[.string s] w (PaP R w) := by
  have e := hR.out
  unfold pR at e
  by_cases h : (lexR s).2.2 = 0
  · rw [if_pos h] at e
    exact parse_go EA s w (t := (lexR s).1) (a := (lexR s).2.1) (by show _ = _; rw [← h]) (wt_lexR h) e
  · rw [if_neg h] at e
    rw [← e]
    exact parse_bad s w (x := (lexR s).1) (a := (lexR s).2.1) (e := (lexR s).2.2) rfl h
end Go.Proofs.YtlokcmbkkfjlkaaGreatDoor.Rdr

namespace Go.Proofs.YtlokcmbkkfjlkaaGreatDoor.Rdr
open Go.RowKit

theorem ec_all (f : Nat) : EC f := by
  induction f using Nat.strongRecOn with
  | ind f ih =>
    cases f with
    | zero => intro b t n l d D w hp hw hf; omega
    | succ g => exact expr_is g ih
theorem refParse_is (s : ByteArray) (w : World) {R : QR} (hR : Hid (pR s = R)) : Calls Tryz.prog 16 #[.string s] w (PaP R w) := refParse_of ec_all s w hR
end Go.Proofs.YtlokcmbkkfjlkaaGreatDoor.Rdr

namespace Go.Proofs.YtlokcmbkkfjlkaaGreatDoor
set_option linter.unusedVariables false
set_option linter.unusedSimpArgs false
open Go.RowKit
set_option maxHeartbeats 8000000 in
set_option maxRecDepth 100000 in
theorem RequestParses_walk (s0 : ByteArray) (w : World) (hV : VR w) (w0 : s0.size ≤ 140737488351232) :
    Calls Tryz.prog 4 #[.string s0] w fun e w' => e = .returned (.bool true) ∧ Below w.heap.size w w' := by
  have HV := Lib.hid hV
  clear hV w0
  cases hR : pR s0 with
  | no p0 er =>
    have hx1 := Lib.hid hR
    clear hR
    go_enter Tryz.func4, Tryz.ntmps4
    go_wp2_with (first
      | (go_at_call 15; refine (parse_is _ _ HV.out.1 hx1).mono ?_; rintro e W3 ⟨rfl, hb3⟩; have HK := Lib.hid (Blk.new W3 zr7 30 rfl); have HB3 := Lib.hid hb3; clear hb3)
      | (go_at_call 16; refine (Rdr.refParse_is _ _ hx1).mono ?_; rintro e W4 ⟨rfl, hb4⟩; have HJ := Lib.hid (HK.out.up hb4 HK.out.lt); have HK2 := Lib.hid (Blk.new W4 zr7 30 rfl); have HB4 := Lib.hid (nx HB3.out (dn1 hb4)); clear hb4)
      | (go_at_call 10; refine (awake_any _ (HV.out.below (nx HB4.out (newB _ _)))).mono ?_; rintro e W5 ⟨rfl, hb5⟩; have hj := (HJ.out.grow _).up hb5 (HJ.out.grow _).lt; have hk := HK2.out.up hb5 HK2.out.lt; obtain ⟨x0, x1, x2, x3, x4, x5, x6⟩ := hj.s7; obtain ⟨y0, y1, y2, y3, y4, y5, y6⟩ := hk.s7; have HB5 := Lib.hid (nx HB4.out (dn1 hb5)); clear hb5 hj hk)
      | (go_at_call 17; refine (sameR_is (e := .nd 0 z3 []) 0 ⟨#[]⟩ 0 0 none 0 0 0 ⟨#[]⟩ 0 0 none 0 0 0 0 _ (tin_zero _ _) (tin_zero _ _)).mono ?_; rintro e W6 ⟨rfl, hb6⟩; have HB6 := Lib.hid (nx HB5.out hb6); clear hb6))
    go_ret
    exact ⟨by simp, HB6.out⟩
  | ok z =>
    obtain ⟨E, p, t⟩ := z
    have hx1 := Lib.hid hR
    clear hR
    go_enter Tryz.func4, Tryz.ntmps4
    go_wp2_with (first
      | (go_at_call 15; refine (parse_is _ _ HV.out.1 hx1).mono ?_; rintro e W3 ⟨⟨k', s', m', u', A', n', c', rfl, ht⟩, hb3⟩; have HK := Lib.hid (Blk.new W3 [.int .i64 k', .string s', .int .i64 m', .int .i64 u', .slice A' n' c', .int .i64 p, .int .i64 t] 30 rfl); have HT3 : Hid (TIn (Lo W3.heap.size) W3 ⟨k', s', m', u', A', n', c'⟩ E) := ht; have HB3 := Lib.hid hb3; clear hb3 ht)
      | (go_at_call 16; refine (Rdr.refParse_is _ _ hx1).mono ?_; rintro e W4 ⟨⟨k2, s2, m2, u2, A2, n2, c2, rfl, ht⟩, hb4⟩; have HJ := Lib.hid (HK.out.up hb4 HK.out.lt); have HT4 := Lib.hid ((HT3.out.grow _).up hb4); have HK2 := Lib.hid (Blk.new W4 [.int .i64 k2, .string s2, .int .i64 m2, .int .i64 u2, .slice A2 n2 c2, .int .i64 p, .int .i64 t] 30 rfl); have HT4b : Hid (TIn (Lo W4.heap.size) W4 ⟨k2, s2, m2, u2, A2, n2, c2⟩ E) := ht; have HB4 := Lib.hid (nx HB3.out (dn1 hb4)); clear hb4 ht)
      | (go_at_call 10; refine (awake_any _ (HV.out.below (nx HB4.out (newB _ _)))).mono ?_; rintro e W5 ⟨rfl, hb5⟩; have hj := (HJ.out.grow _).up hb5 (HJ.out.grow _).lt; have hk := HK2.out.up hb5 HK2.out.lt; obtain ⟨x0, x1, x2, x3, x4, x5, x6⟩ := hj.s7; obtain ⟨y0, y1, y2, y3, y4, y5, y6⟩ := hk.s7; have HT5 := Lib.hid ((HT4.out.grow _).up hb5); have HT5b := Lib.hid ((HT4b.out.grow _).up hb5); have HB5 := Lib.hid (nx HB4.out (dn1 hb5)); clear hb5 hj hk)
      | (go_at_call 17; refine (sameR_is (e := E) k' s' m' u' A' n' c' k2 s2 m2 u2 A2 n2 c2 p t _ HT5.out HT5b.out).mono ?_; rintro e W6 ⟨rfl, hb6⟩; have HB6 := Lib.hid (nx HB5.out hb6); clear hb6))
    go_ret
    exact ⟨by simp, HB6.out⟩
end Go.Proofs.YtlokcmbkkfjlkaaGreatDoor
