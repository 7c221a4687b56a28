/- The statements' own example (chapter 8), out of the contracts. -/
import Derived.Test.YtecipjjnbikheaaFps
namespace Go.Proofs.Ytecipjjnbikheaa
open Go.RowKit
set_option linter.unusedVariables false
set_option linter.unusedSimpArgs false

/-- An atom on a lock in mode S. -/
def atE (s : ByteArray) : Ex := .nd 0 (s, 3, 0) []
theorem atom8_is (s : ByteArray) (w : World) : Calls Try.prog 29 #[.string s] w fun x w' => x = .returned (xe 0 s 3 0 none 0 0) ∧ Below w.heap.size w w' := by
  go_enter Try.func29, Try.ntmps29
  go_wp2
  exact bodyPost_ret (v := xe 0 s 3 0 none 0 0) (by simp [results, Try.results29, go_sem]) rfl ⟨rfl, newB _ _⟩
abbrev sA : ByteArray := ⟨#[97]⟩
abbrev sB : ByteArray := ⟨#[98]⟩
abbrev sC : ByteArray := ⟨#[99]⟩
def exL : List A3 := [(sA, 3, 0), (sB, 3, 0), (sC, 3, 0)]
def ex8 : Ex := .nd 2 z3 [atE sA, atE sB, atE sC]
theorem nam1 {s : ByteArray} (hs : s.size = 1) (h : ltr (byt s 0) = true) (hp : prt (byt s 0) = true) (hr : rsv s = false) : Nam s := ⟨by omega, by omega, h, (fun i hi => by
  have e : i = 0 := by omega
  rw [e]; exact hp), hr⟩
theorem grp_atom0 (a : A3) : grp (.nd 0 a []) = false := by unfold grp; simp [Ex.k]
theorem vld_one {a : A3} {l : List A3} (x : List Ex) (hn : Nam a.1) (hu : usb a.2.1 a.2.2 = true) : vld (.nd 0 a [] :: x) l = if (incl l a).2 = 0 then vld x (incl l a).1 else none := by
  rw [vld, grp_atom0, if_neg (by decide), if_pos (atm_mk (e := .nd 0 a []) ⟨rfl, rfl, hn, hu⟩)]
  rfl
theorem ex8_vl : VL ex8 exL := by
  have nA : Nam sA := nam1 (by decide) (by decide) (by decide) (by kernel_rfl)
  have nB : Nam sB := nam1 (by decide) (by decide) (by decide) (by kernel_rfl)
  have nC : Nam sC := nam1 (by decide) (by decide) (by decide) (by kernel_rfl)
  have hv : vld ex8.pre [] = some exL := by
    show vld (ex8 :: atE sA :: atE sB :: atE sC :: []) [] = some exL
    rw [vld, if_pos (by decide)]
    unfold atE
    rw [vld_one _ nA (by decide), if_pos (by decide), vld_one _ nB (by decide), if_pos (by decide), vld_one _ nC (by decide), if_pos (by decide)]
    rfl
  exact ⟨⟨by decide, by decide, _, hv⟩, hv⟩
theorem ex8_prn : prn ex8 exL [true, true, true] = [true, true, false] := by kernel_rfl
theorem ex8_hld : ex8.hld exL [true, false, true] = true := by kernel_rfl
theorem ex8_cls : cls ex8 exL = 4 := by kernel_rfl
theorem ex8_dead : ex8.hld exL (deadS exL.length [true, true]) = false := by kernel_rfl
/-- A row of expressions without kids. -/
theorem krd_flat {D : Nat → Prop} {W : World} {g : Nat} (vs : List XV) (es : List Ex) (hl : vs.length = es.length) (hD : D g) (hB : Blk W g (xvs vs)) (hs : ∀ i, i < es.length → ShV (vs.getD i default) (es.getD i default) ∧ (es.getD i default).l = []) : KRd D W (some ⟨g, 0, none⟩) es := by
  refine .row g 0 es vs hD hB.lt hl (fun i hi => ?_) (fun i hi => (hs i hi).1) (fun i hi => by rw [(hs i hi).2]; exact .nil _)
  obtain ⟨h1, h2, h3, h4, h5⟩ := xvs_at vs i (by omega)
  rw [Nat.zero_add]
  exact ⟨hB.cell _ h1, hB.cell _ h2, hB.cell _ h3, hB.cell _ h4, hB.cell _ h5⟩
theorem si_lit (W : World) (X : List Bool) {g : Nat} (hg : W.heap.size = g) (hn : X.length ≤ 1000) : SI (W.alloc (.cells (bvs X).toArray 4)) X (some ⟨g, 0, none⟩) X.length := ⟨rfl, (Blk.new W (bvs X) 4 hg).br, by omega⟩
abbrev a8 (s : ByteArray) : XV := ⟨0, s, 3, 0, none, 0, 0⟩
set_option maxHeartbeats 8000000 in
set_option maxRecDepth 100000 in
theorem awake8_any (w : World) : Calls Try.prog 15 #[] w fun x w' => x = .returned (.bool true) ∧ Below w.heap.size w w' := by
  have hL := Lib.hid ex8_vl
  have MA := Lib.hid trivial
  have MB := Lib.hid trivial
  have MC := Lib.hid trivial
  go_enter Try.func15, Try.ntmps15
  go_upto_region 2 with (first
    | (go_at_call 29; clear MA; refine (atom8_is _ _).mono ?_; rintro x W1 ⟨rfl, hb1⟩; have HB1 := Lib.hid hb1; clear hb1)
    | (go_at_call 29; clear MB; refine (atom8_is _ _).mono ?_; rintro x W2 ⟨rfl, hb1⟩; have HB2 := Lib.hid (nx HB1.out hb1); clear hb1)
    | (go_at_call 29; clear MC; refine (atom8_is _ _).mono ?_; rintro x W3 ⟨rfl, hb1⟩; have HB3 := Lib.hid (nx HB2.out hb1); clear hb1))
  have hW : Hid (TIn (Lo ((W3.alloc (.cells #[.int .i64 0, .string ⟨#[97]⟩, .int .i64 3, .int .i64 0, .slice none 0 0, .int .i64 0, .string ⟨#[98]⟩, .int .i64 3, .int .i64 0, .slice none 0 0, .int .i64 0, .string ⟨#[99]⟩, .int .i64 3, .int .i64 0, .slice none 0 0] 28)).alloc (.cells #[.int .i64 2, .string ⟨#[]⟩, .int .i64 0, .int .i64 0, .slice (some ⟨W3.heap.size, 0, none⟩) 3 3] 28)).heap.size) ((W3.alloc (.cells #[.int .i64 0, .string ⟨#[97]⟩, .int .i64 3, .int .i64 0, .slice none 0 0, .int .i64 0, .string ⟨#[98]⟩, .int .i64 3, .int .i64 0, .slice none 0 0, .int .i64 0, .string ⟨#[99]⟩, .int .i64 3, .int .i64 0, .slice none 0 0] 28)).alloc (.cells #[.int .i64 2, .string ⟨#[]⟩, .int .i64 0, .int .i64 0, .slice (some ⟨W3.heap.size, 0, none⟩) 3 3] 28)) ⟨2, ⟨#[]⟩, 0, 0, some ⟨W3.heap.size, 0, none⟩, 3, 3⟩ ex8 ∧ Blk ((W3.alloc (.cells #[.int .i64 0, .string ⟨#[97]⟩, .int .i64 3, .int .i64 0, .slice none 0 0, .int .i64 0, .string ⟨#[98]⟩, .int .i64 3, .int .i64 0, .slice none 0 0, .int .i64 0, .string ⟨#[99]⟩, .int .i64 3, .int .i64 0, .slice none 0 0] 28)).alloc (.cells #[.int .i64 2, .string ⟨#[]⟩, .int .i64 0, .int .i64 0, .slice (some ⟨W3.heap.size, 0, none⟩) 3 3] 28)) (W3.heap.size + 1) [.int .i64 2, .string ⟨#[]⟩, .int .i64 0, .int .i64 0, .slice (some ⟨W3.heap.size, 0, none⟩) 3 3] ∧ Below w.heap.size w ((W3.alloc (.cells #[.int .i64 0, .string ⟨#[97]⟩, .int .i64 3, .int .i64 0, .slice none 0 0, .int .i64 0, .string ⟨#[98]⟩, .int .i64 3, .int .i64 0, .slice none 0 0, .int .i64 0, .string ⟨#[99]⟩, .int .i64 3, .int .i64 0, .slice none 0 0] 28)).alloc (.cells #[.int .i64 2, .string ⟨#[]⟩, .int .i64 0, .int .i64 0, .slice (some ⟨W3.heap.size, 0, none⟩) 3 3] 28))) := by
    refine Lib.hid ⟨⟨⟨rfl, by show 3 ≤ 3; omega, by show 3 ≤ maxLen; simp [maxLen]⟩, ?_⟩, Blk.new (W3.alloc (.cells #[.int .i64 0, .string ⟨#[97]⟩, .int .i64 3, .int .i64 0, .slice none 0 0, .int .i64 0, .string ⟨#[98]⟩, .int .i64 3, .int .i64 0, .slice none 0 0, .int .i64 0, .string ⟨#[99]⟩, .int .i64 3, .int .i64 0, .slice none 0 0] 28)) _ _ (by simp), nx HB3.out (nxA (newB W3 _) _)⟩
    refine krd_flat [a8 sA, a8 sB, a8 sC] [atE sA, atE sB, atE sC] rfl (by show _ < _; simp; omega) ((Blk.new W3 (xvs [a8 sA, a8 sB, a8 sC]) 28 rfl).grow _) (fun i hi => ?_)
    have hc : i = 0 ∨ i = 1 ∨ i = 2 := by simp at hi; omega
    rcases hc with rfl | rfl | rfl <;> exact ⟨⟨rfl, by show 0 ≤ 0; omega, by show 0 ≤ maxLen; simp [maxLen]⟩, rfl⟩
  obtain ⟨gk, hgk⟩ : ∃ gk, W3.heap.size = gk := ⟨_, rfl⟩
  obtain ⟨W5, hW5⟩ : ∃ W5, ((W3.alloc (.cells #[.int .i64 0, .string ⟨#[97]⟩, .int .i64 3, .int .i64 0, .slice none 0 0, .int .i64 0, .string ⟨#[98]⟩, .int .i64 3, .int .i64 0, .slice none 0 0, .int .i64 0, .string ⟨#[99]⟩, .int .i64 3, .int .i64 0, .slice none 0 0] 28)).alloc (.cells #[.int .i64 2, .string ⟨#[]⟩, .int .i64 0, .int .i64 0, .slice (some ⟨W3.heap.size, 0, none⟩) 3 3] 28)) = W5 := ⟨_, rfl⟩
  rw [hW5] at hW ⊢
  rw [hgk] at hW ⊢
  obtain ⟨hT5, hK5, hB5⟩ := hW.out
  have x0 := hK5.cell 0 rfl
  have x1 := hK5.cell 1 rfl
  have x2 := hK5.cell 2 rfl
  have x3 := hK5.cell 3 rfl
  have x4 := hK5.cell 4 rfl
  have HT5 := Lib.hid hT5
  have HK5 := Lib.hid hK5
  have HB5 := Lib.hid hB5
  have hp := Lib.hid ex8_prn
  have hh := Lib.hid ex8_hld
  have hcl := Lib.hid ex8_cls
  have hdd := Lib.hid ex8_dead
  clear hT5 hK5 hB5 hW hW5 hgk HB1 HB2 HB3
  go_wp2_with (first
    | (go_at_call 25; refine (prune8_yes (e := ex8) 2 ⟨#[]⟩ 0 0 (some ⟨gk, 0, none⟩) 3 3 (some ⟨_, 0, none⟩) 3 3 _ (HT5.out.grow _) (si_lit W5 [true, true, true] rfl (by decide)) hL hp).mono ?_; rintro x W6 ⟨⟨A6, c6, rfl, hbr, hc6⟩, hb⟩; have HK6 := Lib.hid ((HK5.out.grow _).up hb (HK5.out.grow _).lt); have HT6 := Lib.hid ((HT5.out.grow _).up hb); have HB6 := Lib.hid (nx HB5.out (dn1 hb)); have HR6 := Lib.hid hbr; clear x0 x1 x2 x3 x4; have x0 := HK6.out.cell 0 rfl; have x1 := HK6.out.cell 1 rfl; have x2 := HK6.out.cell 2 rfl; have x3 := HK6.out.cell 3 rfl; have x4 := HK6.out.cell 4 rfl; clear hb hbr hc6)
    | (go_at_call 16; refine (holds8_yes (e := ex8) 2 ⟨#[]⟩ 0 0 (some ⟨gk, 0, none⟩) 3 3 (some ⟨_, 0, none⟩) 3 3 _ (HT6.out.grow _) (si_lit W6 [true, false, true] rfl (by decide)) hL hh).mono ?_; rintro x W7 ⟨rfl, hb⟩; have HK7 := Lib.hid ((HK6.out.grow _).up hb (HK6.out.grow _).lt); have HT7 := Lib.hid ((HT6.out.grow _).up hb); have HB7 := Lib.hid (nx HB6.out (dn1 hb)); obtain ⟨gp, op, hAp, hgp, hcp⟩ := (HR6.out.below (dn1 hb)) (by decide); subst hAp; have p0 : W7.cell? ⟨gp, op, none⟩ = some (.bool true) := hcp 0 (by decide); have p1 : W7.cell? ⟨gp, op + 1, none⟩ = some (.bool true) := hcp 1 (by decide); have p2 : W7.cell? ⟨gp, op + 2, none⟩ = some (.bool false) := hcp 2 (by decide); clear x0 x1 x2 x3 x4; have x0 := HK7.out.cell 0 rfl; have x1 := HK7.out.cell 1 rfl; have x2 := HK7.out.cell 2 rfl; have x3 := HK7.out.cell 3 rfl; have x4 := HK7.out.cell 4 rfl; clear hb hcp)
    | (go_at_call 27; refine (class8_yes (e := ex8) 2 ⟨#[]⟩ 0 0 (some ⟨gk, 0, none⟩) 3 3 _ HT7.out hL hcl).mono ?_; rintro x W8 ⟨rfl, hb⟩; have HK8 := Lib.hid (HK7.out.up hb HK7.out.lt); have HT8 := Lib.hid (HT7.out.up hb); have HB8 := Lib.hid (nx HB7.out hb); clear x0 x1 x2 x3 x4; have x0 := HK8.out.cell 0 rfl; have x1 := HK8.out.cell 1 rfl; have x2 := HK8.out.cell 2 rfl; have x3 := HK8.out.cell 3 rfl; have x4 := HK8.out.cell 4 rfl; clear hb)
    | (go_at_call 13; refine (atoms8_yes (e := ex8) 2 ⟨#[]⟩ 0 0 (some ⟨gk, 0, none⟩) 3 3 _ HT8.out hL).mono ?_; rintro x W9 ⟨⟨A9, n9, c9, rfl, hn9, -⟩, hb⟩; have hn3 : n9 = 3 := hn9.symm; subst hn3; have HK9 := Lib.hid (HK8.out.up hb HK8.out.lt); have HT9 := Lib.hid (HT8.out.up hb); have HB9 := Lib.hid (nx HB8.out hb); clear x0 x1 x2 x3 x4; have x0 := HK9.out.cell 0 rfl; have x1 := HK9.out.cell 1 rfl; have x2 := HK9.out.cell 2 rfl; have x3 := HK9.out.cell 3 rfl; have x4 := HK9.out.cell 4 rfl; clear hb hn9)
    | (go_at_call 18; refine (hopeless8_yes (e := ex8) 2 ⟨#[]⟩ 0 0 (some ⟨gk, 0, none⟩) 3 3 (some ⟨_, 0, none⟩) 2 2 _ (HT9.out.grow _) (si_lit W9 [true, true] rfl (by decide)) hL hdd).mono ?_; rintro x W10 ⟨rfl, hb⟩; have HB10 := Lib.hid (nx HB9.out (dn1 hb)); clear hb))
  go_ret
  exact ⟨by simp, HB10.out⟩
end Go.Proofs.Ytecipjjnbikheaa
