/- The reference's reader: the states of expr. -/
import Derived.Test.YtlokcmbkkfjlkaaGreatDoorRqk
namespace Go.Proofs.YtlokcmbkkfjlkaaGreatDoor.Rdr
open Go.RowKit
set_option linter.unusedVariables false
set_option linter.unusedSimpArgs false

/-- The two boxes of expr, and what is kept. -/
structure Fr (b : Nat) (a : World) (g5 : Nat) (q : T4) (w : World) : Prop where
  hb : b < a.heap.size
  hg : a.heap.size < g5
  kp : Kp b a w
  x4 : Bx w b a.heap.size z5
  x5 : Bx w b g5 (tk4 q)
theorem Fr.up {b : Nat} {a : World} {g5 : Nat} {q : T4} {w w' : World} (h : Fr b a g5 q w) (hk : Kp b w w') : Fr b a g5 q w' := ⟨h.hb, h.hg, h.kp.trans hk, h.x4.kp hk, h.x5.kp hk⟩
theorem Fr.lt {b : Nat} {a : World} {g5 : Nat} {q : T4} {w : World} (h : Fr b a g5 q w) : b < w.heap.size := Nat.lt_of_lt_of_le h.hb h.kp.size
theorem Fr.low {b : Nat} {a : World} {g5 : Nat} {q : T4} {w w' : World} (h : Fr b a g5 q w) (hb : Below w.heap.size w w') : Fr b a g5 q w' := h.up (Kp.up hb h.lt)
theorem Fr.er {b : Nat} {a : World} {g5 : Nat} {q : T4} {w : World} (h : Fr b a g5 q w) {p e : Int} (he : RE w b p e) : Er3 b p e a a.heap.size w := ⟨he, h.kp, h.x4.2.1, Nat.le_refl _⟩
set_option maxRecDepth 100000 in
theorem expr_skip (b : Nat) (D : Int) (w : World) {p e : Int} (he : Hid (RE w b p e)) :
    Calls Tryz.prog 36 #[.pointer (some ⟨b, 0, none⟩), .int .i64 D] w fun x w' => x = .returned (xe 0 ⟨#[]⟩ 0 0 none 0 0) ∧ Below w.heap.size w w' := by
  have c4 := he.out.c4
  have hlt := he.out.lt
  have b1 : (e != 0) = true := by rw [bne_iff_ne]; exact he.out.ne
  have b2 : (e == 0) = false := by rw [beq_eq_false_iff_ne]; exact he.out.ne
  go_enter Tryz.func36, Tryz.ntmps36
  go_wp2
  exact bodyPost_ret (v := xe 0 ⟨#[]⟩ 0 0 none 0 0) (by simp [results, Tryz.results36, go_sem]) rfl ⟨rfl, newB _ _⟩
theorem RF.set2 {w : World} {b : Nat} (h : RF w b) (v : Value) : RF (w.setCell ⟨b, 2, none⟩ v) b := by
  obtain ⟨h1, h2, h3, h4⟩ := h
  exact ⟨by simpa using h1, by simp [go_sem, h2, h3, h4], by simp [go_sem, h2, h3, h4], fun o => by simp [go_sem, h4]⟩
/-- What expr does, where so much is left to be read. -/
def EC (f : Nat) : Prop := ∀ (b : Nat) (t : List T4) (n : Nat) (l : List A3) (d : Nat) (D : Int) (w : World), Ps w b t n l → WT t → t.length < f → d ≤ 5 → Hid (D = (d : Int)) →
  Calls Tryz.prog 36 #[.pointer (some ⟨b, 0, none⟩), .int .i64 D] w (ExQ b (pE f d t n l) w)
/-- What becomes of the kids. -/
def wrapR (s0 : ByteArray) (n0 p0 : Int) (r : PR (List Ex)) : PR Ex := if s0 = wAll then r.grp (fun ks => ks.length) else if s0 = wAny then r.grp (fun _ => 1) else r.num n0 p0
theorem wrapR_no {s0 : ByteArray} {n0 p0 p e : Int} : wrapR s0 n0 p0 (.no p e) = .no p e := by
  unfold wrapR
  split
  · rfl
  · split
    · rfl
    · rfl
/-- Ahead of the bracket: all is well, or an error is noted. -/
def ST2 (b : Nat) (n : Nat) (l : List A3) (g d : Nat) (R : PR Ex) (s0 : ByteArray) (n0 p0 : Int) (w : World) : Prop :=
  ∃ r, R = wrapR s0 n0 p0 r ∧ ((∃ t1, Ps w b t1 n l ∧ WT t1 ∧ t1.length < g ∧ r = pK g d t1 n l) ∨ (∃ p e, RE w b p e ∧ r = .no p e))
/-- Behind the bracket. -/
def K2 (g d : Nat) (t : List T4) (n : Nat) (l : List A3) : PR (List Ex) :=
  match pE g (d + 1) t n l with
  | .ok e t1 n1 l1 => pM g d [e] t1 n1 l1
  | .no p e => .no p e
theorem pK_open {g d : Nat} {t : List T4} {n : Nat} {l : List A3} (h : (hd t).2.1 = wOpen) : pK (g + 1) d t n l = K2 g d t.tail n l := by
  rw [pK, if_pos h]
  rfl
theorem pK_shut {g d : Nat} {t : List T4} {n : Nat} {l : List A3} (h : (hd t).2.1 ≠ wOpen) : pK (g + 1) d t n l = .no (hd t).2.2.2 8 := by rw [pK, if_neg h]
def ST3 (b : Nat) (n : Nat) (l : List A3) (g d : Nat) (R : PR Ex) (s0 : ByteArray) (n0 p0 : Int) (w : World) : Prop :=
  ∃ r, R = wrapR s0 n0 p0 r ∧ ((∃ g2 t2, Ps w b t2 n l ∧ WT t2 ∧ t2.length < g2 ∧ g2 < g ∧ r = K2 g2 d t2 n l) ∨ (∃ p e, RE w b p e ∧ r = .no p e))
/-- Kids under way, in a row (blocks from lo on), and the expression's box x. -/
structure KX (b g lo x : Nat) (A : Option Addr) (nn c : Nat) (es : List Ex) (vs : List XV) (t3 : List T4) (n3 : Nat) (l3 : List A3) (f3 : Nat) (w : World) : Prop where
  ks : KS b lo x (.slice A nn c) es vs w
  ps : Ps w b t3 n3 l3
  wt : WT t3
  lt3 : t3.length < f3
  fg : f3 ≤ g
  en : es.length ≤ n3
  lx : lo ≤ x
  bx : Bx w b x [.int .i64 0, .string ⟨#[]⟩, .int .i64 0, .int .i64 0, .slice A nn c]
def ST4 (b : Nat) (g d lo x : Nat) (A : Option Addr) (nn c : Nat) (R : PR Ex) (s0 : ByteArray) (n0 p0 : Int) (w : World) : Prop :=
  ∃ r, R = wrapR s0 n0 p0 r ∧ ((∃ es vs t3 n3 l3 f3, KX b g lo x A nn c es vs t3 n3 l3 f3 w ∧ r = pM f3 d es t3 n3 l3) ∨ (∃ p e, RE w b p e ∧ r = .no p e))
/-- How much is left: the tokens, and whether there is an error. -/
def tkn (w : World) (b : Nat) : Nat := match w.cell? ⟨b, 4, none⟩, w.cell? ⟨b, 0, none⟩, w.cell? ⟨b, 1, none⟩ with
  | some (.int _ e), some (.slice _ n _), some (.int _ j) => if e = 0 then n - j.toNat + 1 else 0
  | _, _, _ => 0
theorem Ps.tkn {w : World} {b : Nat} {t : List T4} {n : Nat} {l : List A3} (h : Ps w b t n l) : tkn w b = t.length + 1 := by
  obtain ⟨j, V, tb, tq, c, h⟩ := h
  unfold Go.Proofs.YtlokcmbkkfjlkaaGreatDoor.Rdr.tkn
  rw [h.c4, h.c0, h.c1]
  simp
theorem RE.tkn {w : World} {b : Nat} {p e : Int} (h : RE w b p e) : tkn w b = 0 := by
  unfold Go.Proofs.YtlokcmbkkfjlkaaGreatDoor.Rdr.tkn
  rw [h.c4]
  cases w.cell? ⟨b, 0, none⟩ with
  | none => rfl
  | some v =>
    cases v with
    | slice A m c =>
      cases w.cell? ⟨b, 1, none⟩ with
      | none => rfl
      | some u =>
        cases u with
        | int k j => simp [h.ne]
        | _ => rfl
    | _ => rfl
theorem Fr.grown {b : Nat} {a : World} {g5 : Nat} {q : T4} {w w' : World} {r : Option Nat} (h : Fr b a g5 q w) (hg : w.grownBy w' r) (hr : ∀ g, r = some g → g5 < g) : Fr b a g5 q w' := by
  have h1 := h.hb
  have h2 := h.hg
  exact ⟨h.hb, h.hg, h.kp.grown h.lt hg (fun g e => by have := hr g e; omega), h.x4.grown h.lt hg (fun g e => by have := hr g e; omega), h.x5.grown h.lt hg (fun g e => by have := hr g e; omega)⟩
theorem Fr.box {b : Nat} {a : World} {g5 : Nat} {q : T4} {w : World} (h : Fr b a g5 q w) {x : Nat} (hx : g5 < x) (o : Nat) (v : Value) : Fr b a g5 q (w.setCell ⟨x, o, none⟩ v) := by
  have h1 := h.hb
  have h2 := h.hg
  exact ⟨h.hb, h.hg, h.kp.box (by omega) (by omega) o v, h.x4.other (by omega) (by omega) o v, h.x5.other (by omega) (by omega) o v⟩
end Go.Proofs.YtlokcmbkkfjlkaaGreatDoor.Rdr
