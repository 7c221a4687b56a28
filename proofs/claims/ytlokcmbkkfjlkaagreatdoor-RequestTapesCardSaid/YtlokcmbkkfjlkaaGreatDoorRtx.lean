/- The text of a request in plain words; its tokens; that the grammar's reader makes the request of it again. Nothing here speaks of a program. -/
import Derived.Test.YtlokcmbkkfjlkaaGreatDoorRpp
import Derived.Test.YtlokcmbkkfjlkaaGreatDoorLdig
import Derived.Lib.Join
namespace Go.Proofs.YtlokcmbkkfjlkaaGreatDoor
open Go.RowKit
set_option linter.unusedVariables false

/-- The text of a mode. -/
def mdT (m : Int) : List UInt8 := if m = 1 then [73, 83] else if m = 2 then [73, 88] else if m = 3 then [83] else if m = 4 then [83, 73, 88] else if m = 5 then [88] else []
def atx (a : A3) : List UInt8 := a.1.data.toList ++ (if a.2.2 = 0 then 58 :: mdT a.2.1 else 42 :: dec a.2.2.toNat)
/-- The word of a group. -/
def wrd (k : Int) (n : Nat) : List UInt8 := if k = (n : Int) then [97, 108, 108] else if k = 1 then [97, 110, 121] else dec k.toNat ++ [32, 111, 102, 32]
mutual
def Ex.txt : Ex → List UInt8
  | .nd k a l => if k = 0 then atx a else wrd k l.length ++ 40 :: (txF l ++ [41])
/-- Kids with commas between. -/
def txF : List Ex → List UInt8
  | [] => []
  | e :: r => e.txt ++ txM r
/-- Kids, a comma ahead of each. -/
def txM : List Ex → List UInt8
  | [] => []
  | e :: r => 44 :: 32 :: (e.txt ++ txM r)
end
def txS (w : List UInt8) (n : Int) : List UInt8 := if n = 0 then [] else 32 :: (w ++ 32 :: dec n.toNat)
def txR (r : R3) : List UInt8 := r.1.txt ++ (txS [112, 114, 105, 111] r.2.1 ++ txS [108, 105, 109, 105, 116] r.2.2)
theorem txM_append : ∀ x y : List Ex, txM (x ++ y) = txM x ++ txM y
  | [], y => by simp [txM]
  | e :: x, y => by rw [List.cons_append, txM, txM, txM_append x y]; simp
theorem txF_snoc (x : List Ex) (e : Ex) (h : x ≠ []) : txF (x ++ [e]) = txF x ++ 44 :: 32 :: e.txt := by
  cases x with
  | nil => exact absurd rfl h
  | cons f x => rw [List.cons_append, txF, txF, txM_append, txM, txM]; simp
theorem txF_one (e : Ex) : txF [e] = e.txt := by rw [txF, txM, List.append_nil]
theorem txF_join : ∀ l : List Ex, txF l = Lib.join (l.map Ex.txt) [44, 32]
  | [] => by simp [txF, Lib.join]
  | [e] => by rw [txF_one]; simp [Lib.join]
  | e :: f :: r => by
    have := txF_join (f :: r)
    rw [txF, txM]
    rw [txF] at this
    simp only [Lib.join, List.map_cons, List.intercalate, List.intersperse] at this ⊢
    simp only [List.flatten_cons]
    rw [← this]
    simp

/-! ### How long a text is -/
theorem mdT_len (m : Int) : (mdT m).length ≤ 3 := by unfold mdT; repeat (first | split | simp)
theorem usb_is {m u : Int} (h : usb m u = true) : (1 ≤ m ∧ m ≤ 5 ∧ u = 0) ∨ (m = 0 ∧ 1 ≤ u ∧ u ≤ 8) := of_decide_eq_true h
theorem nam_len' {s : ByteArray} (h : Nam s) : 1 ≤ s.data.toList.length ∧ s.data.toList.length ≤ 12 := by
  have := h.1
  have := h.2.1
  have e : s.data.toList.length = s.size := by simp
  omega
theorem atx_len {a : A3} (hn : Nam a.1) (hu : usb a.2.1 a.2.2 = true) : (atx a).length ≤ 16 := by
  have h1 := nam_len' hn
  have h2 := mdT_len a.2.1
  unfold atx
  rw [List.length_append]
  rcases usb_is hu with ⟨_, _, h⟩ | ⟨_, h3, h4⟩
  · rw [if_pos h, List.length_cons]; omega
  · have h5 := dec_len4 (n := a.2.2.toNat) (by omega)
    have h6 : dec a.2.2.toNat = [dgt a.2.2.toNat] := dec_one (by omega)
    rw [if_neg (by omega), List.length_cons, h6, List.length_singleton]; omega
/-- All nodes are atoms or groups. -/
noncomputable def okL (l : List Ex) : Prop := ∀ e ∈ l, grp e = true ∨ atm e = true
theorem okL_of : ∀ {l : List Ex} {x m : List A3}, vld l x = some m → okL l
  | [], x, m, _ => fun e h => by cases h
  | e :: r, x, m, h => by
    rw [vld] at h
    intro f hf
    split at h
    · rename_i hg
      rcases List.mem_cons.1 hf with rfl | hf
      · exact .inl hg
      · exact okL_of h f hf
    · split at h
      · rename_i ha
        split at h
        · rcases List.mem_cons.1 hf with rfl | hf
          · exact .inr ha
          · exact okL_of h f hf
        · cases h
      · cases h
theorem wrd_len {k : Int} {n : Nat} (h1 : 1 ≤ k) (hk : k ≤ (n : Int)) (hn : n ≤ 24) : (wrd k n).length ≤ 6 := by
  unfold wrd
  split
  · simp
  · split
    · simp
    · rw [List.length_append]
      have := dec_forms (n := k.toNat) (by omega)
      have h2 : (dec k.toNat).length ≤ 2 := by
        rcases this with ⟨_, e⟩ | ⟨_, _, e⟩ | ⟨h, e⟩
        · rw [e]; simp
        · rw [e]; simp
        · omega
      simp; omega
theorem okL_kid {l : List Ex} (h : okL (preL l)) {e : Ex} (he : e ∈ l) : okL e.pre := by
  induction l with
  | nil => cases he
  | cons f r ih =>
    rw [preL] at h
    rcases List.mem_cons.1 he with rfl | he
    · exact fun g hg => h g (List.mem_append_left _ hg)
    · exact ih (fun g hg => h g (List.mem_append_right _ hg)) he
theorem grp_len {k : Int} {a : A3} {l : List Ex} (h : grp (.nd k a l) = true) : a = z3 ∧ 1 ≤ k ∧ k ≤ (l.length : Int) := grp_is h
theorem txF_len {l : List Ex} (h : ∀ e ∈ l, e.txt.length ≤ 18 * e.cnt - 2) : (txF l).length ≤ 18 * cntL l ∧ (txM l).length ≤ 18 * cntL l := by
  have hM : ∀ m : List Ex, (∀ e ∈ m, e.txt.length ≤ 18 * e.cnt - 2) → (txM m).length ≤ 18 * cntL m := by
    intro m
    induction m with
    | nil => intro _; simp [txM]
    | cons e r ih =>
      intro hm
      have h1 := hm e (by simp)
      have h2 := ih (fun f hf => hm f (by simp [hf]))
      have := cnt_pos e
      rw [txM, cntL]
      simp only [List.length_cons, List.length_append]
      omega
  refine ⟨?_, hM l h⟩
  cases l with
  | nil => simp [txF]
  | cons e r =>
    have h1 := h e (by simp)
    have h2 := hM r (fun f hf => h f (by simp [hf]))
    rw [txF, cntL, List.length_append]
    omega
theorem txt_len : ∀ e : Ex, okL e.pre → e.cnt ≤ 24 → e.txt.length ≤ 18 * e.cnt - 2 := by
  refine Ex.ind fun k a l ih => ?_
  intro hok hc
  rw [Ex.pre] at hok
  have hc' := hc
  rw [Ex.cnt] at hc ⊢
  have hkid : ∀ e ∈ l, e.txt.length ≤ 18 * e.cnt - 2 := fun e he => ih e he (okL_kid (fun g hg => hok g (List.mem_cons_of_mem _ hg)) he) (by have := cntL_le he; omega)
  have hF := (txF_len hkid).1
  rcases hok (.nd k a l) (by simp) with hg | ha
  · obtain ⟨_, h1, h2⟩ := grp_len hg
    have hl := cntL_len l
    have hw := wrd_len h1 h2 (by omega)
    rw [Ex.txt, if_neg (by omega)]
    simp only [List.length_append, List.length_cons, List.length_nil]
    have hp : 1 ≤ cntL l := by omega
    omega
  · obtain ⟨h0, h1, h2, h3⟩ := atm_is ha
    have h0' : k = 0 := h0
    have := atx_len (a := a) h2 h3
    rw [Ex.txt, if_pos h0']
    omega
theorem Vex.ok {e : Ex} (h : Vex e) : okL e.pre := okL_of h.2.2.choose_spec
theorem Vex.len {e : Ex} (h : Vex e) : e.txt.length ≤ 430 := by have := txt_len e h.ok h.2.1; have := h.2.1; omega
theorem txS_len {w : List UInt8} {n : Int} (h0 : 0 ≤ n) (h : n ≤ 1000) : (txS w n).length ≤ w.length + 6 := by
  unfold txS
  split
  · simp
  · have := dec_len4 (n := n.toNat) (by omega)
    simp only [List.length_cons, List.length_append]
    omega
theorem Vrq.len {r : R3} (h : Vrq r) : (txR r).length ≤ 460 := by
  have h1 := h.1.len
  have h2 := txS_len (w := [112, 114, 105, 111]) h.2.1 (by have := h.2.2.1; omega)
  have h3 := txS_len (w := [108, 105, 109, 105, 116]) h.2.2.2.1 h.2.2.2.2
  unfold txR
  simp only [List.length_append, List.length_cons, List.length_nil] at *
  omega

/-! ### The tokens of a text -/
def tkA (a : A3) : List T4 := (1, a.1, 0, 0) :: (if a.2.2 = 0 then [(4, wCol, 0, 0), (2, mkB (mdT a.2.1), a.2.1, 0)] else [(4, wStar, 0, 0), (3, ⟨#[]⟩, a.2.2, 0)])
def tkW (k : Int) (n : Nat) : List T4 := if k = (n : Int) then [(1, wAll, 0, 0)] else if k = 1 then [(1, wAny, 0, 0)] else [(3, ⟨#[]⟩, k, 0), (1, wOf, 0, 0)]
mutual
def Ex.tks : Ex → List T4
  | .nd k a l => if k = 0 then tkA a else tkW k l.length ++ (4, wOpen, 0, 0) :: (tkF l ++ [(4, wCls, 0, 0)])
def tkF : List Ex → List T4
  | [] => []
  | e :: r => e.tks ++ tkM r
def tkM : List Ex → List T4
  | [] => []
  | e :: r => (4, wCom, 0, 0) :: (e.tks ++ tkM r)
end
def tkS (w : ByteArray) (n : Int) : List T4 := if n = 0 then [] else [(1, w, 0, 0), (3, ⟨#[]⟩, n, 0)]
def tkR (r : R3) : List T4 := r.1.tks ++ (tkS wPrio r.2.1 ++ (tkS wLim r.2.2 ++ [(5, ⟨#[]⟩, 0, 0)]))
/-- x and r as texts: the tokens of x, whatever their places, then those of r. -/
def Lexes (x : List UInt8) (t : List T4) (r : List UInt8) : Prop := ∀ i, ∃ j y, lexL i (x ++ r) = (lexL j r).put y ∧ bare y = bare t
theorem Lexes.nil (r : List UInt8) : Lexes [] [] r := fun i => ⟨i, [], by rw [List.nil_append, LR.put_nil], rfl⟩
theorem Lexes.app {x x' : List UInt8} {t t' : List T4} {r : List UInt8} (h : Lexes x t (x' ++ r)) (k : Lexes x' t' r) : Lexes (x ++ x') (t ++ t') r := fun i => by
  obtain ⟨j, y, h1, h2⟩ := h i
  obtain ⟨j', y', k1, k2⟩ := k j
  exact ⟨j', y ++ y', by rw [List.append_assoc, h1, k1, LR.put_put], by rw [bare_app, bare_app, h2, k2]⟩
theorem Lexes.sp (r : List UInt8) : Lexes [32] [] r := fun i => ⟨i + 1, [], by rw [LR.put_nil, List.singleton_append, lexL_sp rfl], rfl⟩
/-- The text goes on with a byte that no word, number or mode bears. -/
def stpR (r : List UInt8) : Prop := r = [] ∨ ∃ c q, r = c :: q ∧ prt (c.toNat : Int) = false ∧ cpl (c.toNat : Int) = false
theorem stp_dig {c : Int} (h : prt c = false) : dig c = false := by unfold prt at h; unfold dig; have := of_decide_eq_false h; simp; omega
theorem tw_stp {p : Int → Bool} {x r : List UInt8} (h : ∀ c ∈ x, p (c.toNat : Int) = true) (hp : ∀ c q, r = c :: q → p (c.toNat : Int) = false) : tw p (x ++ r) = x.length := by
  rw [tw_app r h]
  cases r with
  | nil => simp [tw]
  | cons c q => rw [tw_stop (hp c q rfl)]; omega
theorem lexes_tok {c : UInt8} {x r : List UInt8} {k : Int} {t : List UInt8} {n : Int} (h : tk1 (c.toNat : Int) (c :: x ++ r) = .tok k t n (c :: x).length) : Lexes (c :: x) [(k, mkB t, n, 0)] r := fun i => by
  refine ⟨i + (c :: x).length, [(k, mkB t, n, (i : Int))], ?_, rfl⟩
  have h' : tk1 (c.toNat : Int) (c :: (x ++ r)) = .tok k t n (c :: x).length := h
  rw [List.cons_append, lexL_tok h', ← List.cons_append, List.drop_left]
theorem lexes_punct {c : UInt8} (h : pun (c.toNat : Int) = true) (r : List UInt8) : Lexes [c] [(4, mkB [c], 0, 0)] r := by
  refine lexes_tok ?_
  have := pun_x h
  have h1 : ¬ spc (c.toNat : Int) = true := by unfold spc; simp; omega
  have h2 : ¬ ltr (c.toNat : Int) = true := by unfold ltr; simp; omega
  have h3 : ¬ cpl (c.toNat : Int) = true := by unfold cpl; simp; omega
  have h4 : ¬ dig (c.toNat : Int) = true := by unfold dig; simp; omega
  unfold tk1
  rw [if_neg h1, if_neg h2, if_neg h3, if_neg h4, if_pos h]
  rfl
theorem lexes_word {s : List UInt8} {c : UInt8} {x : List UInt8} (hs : s = c :: x) (hl : ltr (c.toNat : Int) = true) (hp : ∀ d ∈ s, prt (d.toNat : Int) = true) (h12 : s.length ≤ 12) {r : List UInt8} (hr : stpR r) : Lexes s [(1, mkB s, 0, 0)] r := by
  subst hs
  refine lexes_tok ?_
  have hx := ltr_x hl
  have h1 : ¬ spc (c.toNat : Int) = true := by unfold spc; simp; omega
  have htw : tw prt (c :: x ++ r) = (c :: x).length := tw_stp hp (fun d q e => by
    rcases hr with rfl | ⟨c', q', rfl, h, _⟩
    · cases e
    · injection e with e1 e2; subst e1; exact h)
  unfold tk1
  rw [if_neg h1, if_pos hl, htw, if_neg (by omega), List.take_left]
theorem lexes_mode {s : List UInt8} {c : UInt8} {x : List UInt8} (hs : s = c :: x) (hp : ∀ d ∈ s, cpl (d.toNat : Int) = true) {m : Int} (hm : mdL s = m) (hm0 : m ≠ 0) {r : List UInt8} (hr : stpR r) : Lexes s [(2, mkB s, m, 0)] r := by
  subst hs
  refine lexes_tok ?_
  have hc := hp c (by simp)
  have hx := cpl_x hc
  have h1 : ¬ spc (c.toNat : Int) = true := by unfold spc; simp; omega
  have h2 : ¬ ltr (c.toNat : Int) = true := by unfold ltr; simp; omega
  have htw : tw cpl (c :: x ++ r) = (c :: x).length := tw_stp hp (fun d q e => by
    rcases hr with rfl | ⟨c', q', rfl, _, h⟩
    · cases e
    · injection e with e1 e2; subst e1; exact h)
  unfold tk1
  rw [if_neg h1, if_neg h2, if_pos hc, htw, List.take_left, hm, if_neg hm0]
theorem lexes_num {n : Nat} (h : n < 10000) {r : List UInt8} (hr : stpR r) : Lexes (dec n) [(3, ⟨#[]⟩, (n : Int), 0)] r := by
  have hl := dec_len4 h
  have hd := dec_digs n
  have hn := numO_four h
  cases hx : dec n with
  | nil => rw [hx] at hl; simp at hl
  | cons c x =>
    rw [hx] at hd hn
    refine lexes_tok (t := []) ?_
    have hc := hd c (by simp)
    have hc' := hc
    unfold dig at hc'
    have hc' := of_decide_eq_true hc'
    have h1 : ¬ spc (c.toNat : Int) = true := by unfold spc; simp; omega
    have h2 : ¬ ltr (c.toNat : Int) = true := by unfold ltr; simp; omega
    have h3 : ¬ cpl (c.toNat : Int) = true := by unfold cpl; simp; omega
    have htw : tw dig (c :: x ++ r) = (c :: x).length := tw_stp hd (fun d q e => by
      rcases hr with rfl | ⟨c', q', rfl, h, _⟩
      · cases e
      · injection e with e1 e2; subst e1; exact stp_dig h)
    unfold tk1
    rw [if_neg h1, if_neg h2, if_neg h3, if_pos hc, htw, List.take_left, hn]
    rfl
theorem stpR_cons {c : UInt8} {q : List UInt8} (h1 : prt (c.toNat : Int) = false) (h2 : cpl (c.toNat : Int) = false) : stpR (c :: q) := .inr ⟨c, q, rfl, h1, h2⟩
theorem lexes_md {m : Int} (h : 1 ≤ m ∧ m ≤ 5) {r : List UInt8} (hr : stpR r) : Lexes (mdT m) [(2, mkB (mdT m), m, 0)] r := by
  have hm : m = 1 ∨ m = 2 ∨ m = 3 ∨ m = 4 ∨ m = 5 := by omega
  rcases hm with rfl | rfl | rfl | rfl | rfl
  · exact lexes_mode (s := [73, 83]) rfl (by decide) (by decide) (by decide) hr
  · exact lexes_mode (s := [73, 88]) rfl (by decide) (by decide) (by decide) hr
  · exact lexes_mode (s := [83]) rfl (by decide) (by decide) (by decide) hr
  · exact lexes_mode (s := [83, 73, 88]) rfl (by decide) (by decide) (by decide) hr
  · exact lexes_mode (s := [88]) rfl (by decide) (by decide) (by decide) hr
theorem nam_word {s : ByteArray} (h : Nam s) {r : List UInt8} (hr : stpR r) : Lexes s.data.toList [(1, s, 0, 0)] r := by
  obtain ⟨h1, h2, h3, h4, _⟩ := h
  have e : s.data.toList.length = s.size := by simp
  cases hx : s.data.toList with
  | nil => rw [hx] at e; simp at e; omega
  | cons c x =>
    have hs : s = mkB (c :: x) := by rw [← hx]; exact (mkB_self s).symm
    have hc : ltr (c.toNat : Int) = true := by
      have : byt s 0 = (c.toNat : Int) := by unfold byt; rw [hx]; rfl
      rw [← this]; exact h3
    rw [hs]
    refine lexes_word rfl hc (fun d hd => ?_) (by rw [← hx]; omega) hr
    obtain ⟨i, hi, rfl⟩ := List.getElem_of_mem hd
    have h5 := h4 i (by rw [← e, hx]; exact hi)
    unfold byt at h5
    rw [hx, List.getD_eq_getElem?_getD, List.getElem?_eq_getElem hi] at h5
    exact h5
theorem lexes_atx {a : A3} (hn : Nam a.1) (hu : usb a.2.1 a.2.2 = true) {r : List UInt8} (hr : stpR r) : Lexes (atx a) (tkA a) r := by
  unfold atx tkA
  rw [show ∀ z : List T4, (1, a.1, (0 : Int), (0 : Int)) :: z = [(1, a.1, 0, 0)] ++ z from fun _ => rfl]
  rcases usb_is hu with ⟨h1, h2, h⟩ | ⟨_, h3, h4⟩
  · rw [if_pos h, if_pos h]
    refine Lexes.app (nam_word hn (stpR_cons rfl rfl)) ?_
    exact Lexes.app (x := [58]) (t := [(4, wCol, 0, 0)]) (lexes_punct rfl _) (lexes_md ⟨h1, h2⟩ hr)
  · rw [if_neg (by omega), if_neg (by omega)]
    refine Lexes.app (nam_word hn (stpR_cons rfl rfl)) ?_
    have := lexes_num (n := a.2.2.toNat) (by omega) hr
    rw [show ((a.2.2.toNat : Nat) : Int) = a.2.2 by omega] at this
    exact Lexes.app (x := [42]) (t := [(4, wStar, 0, 0)]) (lexes_punct rfl _) this
theorem lexes_wrd {k : Int} {n : Nat} (h1 : 1 ≤ k) (hk : k ≤ (n : Int)) (hn : n ≤ 24) (r : List UInt8) : Lexes (wrd k n) (tkW k n) (40 :: r) := by
  have hr : stpR (40 :: r) := stpR_cons rfl rfl
  unfold wrd tkW
  split
  · exact lexes_word (s := [97, 108, 108]) rfl (by decide) (by decide) (by decide) hr
  · split
    · exact lexes_word (s := [97, 110, 121]) rfl (by decide) (by decide) (by decide) hr
    · have h := lexes_num (n := k.toNat) (by omega) (r := 32 :: ([111, 102] ++ ([32] ++ 40 :: r))) (stpR_cons rfl rfl)
      rw [show ((k.toNat : Nat) : Int) = k by omega] at h
      refine Lexes.app (x := dec k.toNat) (t := [(3, ⟨#[]⟩, k, 0)]) (x' := [32, 111, 102, 32]) (t' := [(1, wOf, 0, 0)]) h ?_
      refine Lexes.app (x := [32]) (t := []) (x' := [111, 102, 32]) (t' := [(1, wOf, 0, 0)]) (Lexes.sp _) ?_
      refine Lexes.app (x := [111, 102]) (t := [(1, wOf, 0, 0)]) (x' := [32]) (t' := []) ?_ (Lexes.sp _)
      exact lexes_word (s := [111, 102]) rfl (by decide) (by decide) (by decide) (stpR_cons rfl rfl)
theorem lexes_kids {l : List Ex} (h : ∀ e ∈ l, ∀ r, stpR r → Lexes e.txt e.tks r) {r : List UInt8} (hr : stpR r) : Lexes (txF l) (tkF l) r ∧ Lexes (txM l) (tkM l) r ∧ stpR (txM l ++ r) := by
  have hM : ∀ m : List Ex, (∀ e ∈ m, ∀ r, stpR r → Lexes e.txt e.tks r) → Lexes (txM m) (tkM m) r ∧ stpR (txM m ++ r) := by
    intro m
    induction m with
    | nil => intro _; rw [txM, tkM]; exact ⟨Lexes.nil _, hr⟩
    | cons e q ih =>
      intro hm
      obtain ⟨i1, i2⟩ := ih (fun f hf => hm f (by simp [hf]))
      rw [txM, tkM]
      refine ⟨?_, stpR_cons rfl rfl⟩
      refine Lexes.app (x := [44]) (t := [(4, wCom, 0, 0)]) (lexes_punct rfl _) ?_
      refine Lexes.app (x := [32]) (t := []) (Lexes.sp _) ?_
      exact Lexes.app (hm e (by simp) _ i2) i1
  refine ⟨?_, hM l h⟩
  cases l with
  | nil => rw [txF, tkF]; exact Lexes.nil _
  | cons e q =>
    obtain ⟨i1, i2⟩ := hM q (fun f hf => h f (by simp [hf]))
    rw [txF, tkF]
    exact Lexes.app (h e (by simp) _ i2) i1
theorem lexes_txt : ∀ e : Ex, okL e.pre → e.cnt ≤ 24 → ∀ r, stpR r → Lexes e.txt e.tks r := by
  refine Ex.ind fun k a l ih => ?_
  intro hok hc r hr
  rw [Ex.pre] at hok
  rw [Ex.cnt] at hc
  have hkid : ∀ e ∈ l, ∀ r, stpR r → Lexes e.txt e.tks r := fun e he => ih e he (okL_kid (fun g hg => hok g (List.mem_cons_of_mem _ hg)) he) (by have := cntL_le he; omega)
  rcases hok (.nd k a l) (by simp) with hg | ha
  · obtain ⟨_, h1, h2⟩ := grp_len hg
    have hl := cntL_len l
    rw [Ex.txt, Ex.tks, if_neg (by omega), if_neg (by omega)]
    refine Lexes.app (lexes_wrd h1 h2 (by omega) _) ?_
    refine Lexes.app (x := [40]) (t := [(4, wOpen, 0, 0)]) (lexes_punct rfl _) ?_
    exact Lexes.app (lexes_kids hkid (r := [41] ++ r) (stpR_cons rfl rfl)).1 (lexes_punct rfl _)
  · obtain ⟨h0, h1, h2, h3⟩ := atm_is ha
    have h0' : k = 0 := h0
    rw [Ex.txt, Ex.tks, if_pos h0', if_pos h0']
    exact lexes_atx (a := a) h2 h3 hr
theorem lexes_set {w : ByteArray} {l : List UInt8} {c : UInt8} {x : List UInt8} (hw : w = mkB l) (hl : l = c :: x) (hc : ltr (c.toNat : Int) = true) (hp : ∀ d ∈ l, prt (d.toNat : Int) = true) (h12 : l.length ≤ 12) {n : Int} (h0 : 0 ≤ n) (h1 : n ≤ 1000) {r : List UInt8} (hr : stpR r) :
    Lexes (txS l n) (tkS w n) r ∧ stpR (txS l n ++ r) := by
  unfold txS tkS
  split
  · exact ⟨Lexes.nil _, hr⟩
  · refine ⟨?_, stpR_cons rfl rfl⟩
    have h := lexes_num (n := n.toNat) (by omega) hr
    rw [show ((n.toNat : Nat) : Int) = n by omega] at h
    refine Lexes.app (x := [32]) (t := []) (t' := [(1, w, 0, 0), (3, ⟨#[]⟩, n, 0)]) (Lexes.sp _) ?_
    refine Lexes.app (t := [(1, w, 0, 0)]) (x' := 32 :: dec n.toNat) (t' := [(3, ⟨#[]⟩, n, 0)]) ?_ ?_
    · rw [hw]; exact lexes_word hl hc hp h12 (stpR_cons rfl rfl)
    · exact Lexes.app (x := [32]) (t := []) (Lexes.sp _) h
theorem lexes_req {r : R3} (h : Vrq r) : ∃ t, lexL 0 (txR r) = .ok t ∧ bare t = bare (tkR r) := by
  obtain ⟨h1, h2, h3, h4, h5⟩ := h
  obtain ⟨k1, k2⟩ := lexes_set (w := wLim) (l := [108, 105, 109, 105, 116]) rfl rfl (by decide) (by decide) (by decide) h4 h5 (r := []) (.inl rfl)
  obtain ⟨k3, k4⟩ := lexes_set (w := wPrio) (l := [112, 114, 105, 111]) rfl rfl (by decide) (by decide) (by decide) h2 (by omega) k2
  have k5 := lexes_txt r.1 h1.ok h1.2.1 _ k4
  have k6 := Lexes.app (r := []) (x' := txS [112, 114, 105, 111] r.2.1 ++ txS [108, 105, 109, 105, 116] r.2.2) (by rw [List.append_assoc]; exact k5) (Lexes.app k3 k1)
  obtain ⟨j, y, e1, e2⟩ := k6 0
  rw [List.append_nil, lexL_nil] at e1
  refine ⟨y ++ [(5, mkB [], 0, (j : Int))], e1, ?_⟩
  rw [bare_app, e2]
  unfold tkR
  simp only [bare_app, List.append_assoc]
  rfl

/-! ### The tokens are read back -/
theorem rsv_nam {s : ByteArray} (h : Nam s) : s ≠ wAll ∧ s ≠ wAny := by
  have hr := h.2.2.2.2
  refine ⟨?_, ?_⟩ <;> rintro rfl
  · have : rsv wAll = true := by simp [rsv, eqS_self]
    rw [this] at hr; cases hr
  · have : rsv wAny = true := by simp [rsv, eqS_self]
    rw [this] at hr; cases hr
theorem tw_dec_pos {a : A3} (hn : Nam a.1) (hu : usb a.2.1 a.2.2 = true) {l : List A3} (hi : (incl l a).2 = 0) (n : Nat) (t : List T4) : pA (tkA a ++ t) n l = .ok (.nd 0 a []) t n (incl l a).1 := by
  obtain ⟨s, m, u⟩ := a
  unfold tkA pA
  have hcs : ¬ wCol = wStar := by decide
  rcases usb_is hu with ⟨h1, h2, h⟩ | ⟨h2, h3, h4⟩
  · simp only at h h1 h2 hi
    subst h
    simp only [if_pos, List.cons_append, List.tail_cons, List.headD_cons, List.nil_append]
    rw [if_neg hcs, atEnd, if_pos hi]
  · simp only at h2 h3 h4 hi
    subst h2
    have hu0 : ¬ u = 0 := by omega
    simp only [if_neg hu0, List.cons_append, List.tail_cons, List.headD_cons, List.nil_append]
    rw [if_pos trivial, if_pos trivial, if_pos ⟨h3, h4⟩, atEnd, if_pos hi]
theorem vld_kids : ∀ {x y : List Ex} {l m : List A3}, vld (x ++ y) l = some m → ∃ q, vld x l = some q ∧ vld y q = some m := by
  intro x y l m h
  rw [vld_append] at h
  exact Option.bind_eq_some_iff.1 h
theorem tk_len (e : Ex) : 1 ≤ e.tks.length := by
  cases e with
  | nd k a l =>
    rw [Ex.tks]
    split
    · unfold tkA; simp
    · simp; omega
def Back (e : Ex) : Prop := okL e.pre → ∀ (f d n : Nat) (l l' : List A3) (t : List T4), e.tks.length + t.length < f → d + e.dp ≤ 5 → n + e.cnt ≤ 24 → vld e.pre l = some l' → pE f d (e.tks ++ t) n l = .ok e t (n + e.cnt) l'
theorem back_more {m : List Ex} (h : ∀ e ∈ m, Back e) : okL (preL m) → ∀ (f d n : Nat) (acc : List Ex) (l l' : List A3) (t : List T4), (tkM m).length + t.length + 1 < f → d + 1 + dpL m ≤ 5 → n + cntL m ≤ 24 → vld (preL m) l = some l' →
    pM f d acc (tkM m ++ (4, wCls, 0, 0) :: t) n l = .ok (acc ++ m) t (n + cntL m) l' := by
  induction m with
  | nil =>
    intro _ f d n acc l l' t hf hd hn hv
    obtain ⟨g, rfl⟩ : ∃ g, f = g + 1 := ⟨f - 1, by omega⟩
    rw [tkM, pM, List.nil_append]
    simp only [preL, vld, Option.some.injEq] at hv
    subst hv
    have h1 : ¬ wCls = wCom := by decide
    simp only [List.headD_cons, List.tail_cons, List.append_nil, cntL, Nat.add_zero]
    rw [if_neg h1, if_pos trivial]
  | cons e r ih =>
    intro hok f d n acc l l' t hf hd hn hv
    obtain ⟨g, rfl⟩ : ∃ g, f = g + 1 := ⟨f - 1, by omega⟩
    rw [preL] at hok hv
    obtain ⟨q, hq1, hq2⟩ := vld_kids hv
    rw [dpL] at hd
    rw [cntL] at hn
    rw [tkM, List.length_cons, List.length_append] at hf
    have hE := h e (by simp) (fun x hx => hok x (List.mem_append_left _ hx)) g (d + 1) n l q (tkM r ++ (4, wCls, 0, 0) :: t) (by simp; omega) (by omega) (by omega) hq1
    rw [tkM, pM]
    simp only [List.cons_append, List.headD_cons, List.tail_cons, List.append_assoc]
    rw [if_pos trivial, hE]
    simp only
    rw [ih (fun x hx => h x (by simp [hx])) (fun x hx => hok x (List.mem_append_right _ hx)) g d (n + e.cnt) (acc ++ [e]) q l' t (by omega) (by omega) (by omega) hq2]
    simp [cntL]
    omega
theorem back_list {m : List Ex} (hm : m ≠ []) (h : ∀ e ∈ m, Back e) (hok : okL (preL m)) (f d n : Nat) (l l' : List A3) (t : List T4) (hf : (tkF m).length + t.length + 2 < f) (hd4 : d + 1 + dpL m ≤ 5) (hn : n + cntL m ≤ 24) (hv : vld (preL m) l = some l') :
    pK f d ((4, wOpen, 0, 0) :: (tkF m ++ (4, wCls, 0, 0) :: t)) n l = .ok m t (n + cntL m) l' := by
  obtain ⟨g, rfl⟩ : ∃ g, f = g + 1 := ⟨f - 1, by omega⟩
  cases m with
  | nil => exact absurd rfl hm
  | cons e r =>
    rw [preL] at hok hv
    obtain ⟨q, hq1, hq2⟩ := vld_kids hv
    rw [dpL] at hd4
    rw [cntL] at hn
    rw [tkF, List.length_append] at hf
    have hE := h e (by simp) (fun x hx => hok x (List.mem_append_left _ hx)) g (d + 1) n l q (tkM r ++ (4, wCls, 0, 0) :: t) (by simp; omega) (by omega) (by omega) hq1
    rw [tkF, pK]
    simp only [List.headD_cons, List.tail_cons, List.append_assoc]
    rw [if_pos trivial, hE]
    simp only
    have hl := tk_len e
    rw [back_more (fun x hx => h x (by simp [hx])) (fun x hx => hok x (List.mem_append_right _ hx)) g d (n + e.cnt) [e] q l' t (by omega) (by omega) (by omega) hq2]
    simp [cntL]
    omega
theorem back_all : ∀ e : Ex, Back e := by
  refine Ex.ind fun k a l ih => ?_
  intro hok f d n x x' t hf hdp hn hv
  obtain ⟨g, rfl⟩ : ∃ g, f = g + 1 := ⟨f - 1, by omega⟩
  have hok' := hok
  rw [Ex.pre] at hok hv
  rw [Ex.dp] at hdp
  rw [Ex.cnt] at hn
  have h5 : ¬ (4 < d ∨ 24 < n + 1) := by omega
  rcases hok (.nd k a l) (by simp) with hg | ha
  · obtain ⟨rfl, h1, h2⟩ := grp_len hg
    have hk0 : ¬ k = 0 := by omega
    rw [vld, if_pos hg] at hv
    have hne : l ≠ [] := by rintro rfl; simp at h2; omega
    rw [Ex.tks, if_neg hk0, List.length_append, List.length_cons, List.length_append, List.length_singleton] at hf
    have hK := fun (gg : Nat) (hgg : (tkF l).length + t.length + 2 < gg) => back_list hne ih (fun y hy => hok y (List.mem_cons_of_mem _ hy)) gg d (n + 1) x x' t hgg (by omega) (by omega) hv
    rw [Ex.tks, if_neg hk0, Ex.cnt]
    unfold tkW at hf ⊢
    have hna : ¬ wAny = wAll := by decide
    split
    · rename_i he
      rw [if_pos he] at hf
      simp only [List.length_singleton] at hf
      rw [pE]
      simp only [List.cons_append, List.nil_append, List.headD_cons, List.tail_cons, List.append_assoc]
      rw [if_neg (by decide), if_neg h5, if_pos trivial, hK g (by omega)]
      simp only [PR.grp, PR.ok.injEq, true_and, and_true, Ex.nd.injEq]
      exact ⟨he.symm, by omega⟩
    · rename_i he
      rw [if_neg he] at hf
      split
      · rename_i h1k
        rw [if_pos h1k] at hf
        simp only [List.length_singleton] at hf
        rw [pE]
        simp only [List.cons_append, List.nil_append, List.headD_cons, List.tail_cons, List.append_assoc]
        rw [if_neg (by decide), if_neg h5, if_neg hna, if_pos trivial, hK g (by omega)]
        simp only [PR.grp, PR.ok.injEq, true_and, and_true, Ex.nd.injEq]
        exact ⟨h1k.symm, by omega⟩
      · rename_i h1k
        rw [if_neg h1k] at hf
        simp only [List.length_cons, List.length_nil] at hf
        rw [pE]
        simp only [List.cons_append, List.nil_append, List.headD_cons, List.tail_cons, List.append_assoc]
        rw [if_neg (by unfold mayB; simp), if_neg h5, if_neg (by decide), if_neg (by decide), if_pos trivial, if_pos trivial, hK g (by omega)]
        simp only [PR.num]
        rw [if_pos ⟨h1, h2⟩]
        simp only [PR.ok.injEq, true_and, and_true]
        omega
  · obtain ⟨h0, h1, h2, h3⟩ := atm_is ha
    have h0' : k = 0 := h0
    have h1' : l = [] := h1
    subst h0' h1'
    have hg : ¬ grp (Ex.nd 0 a []) = true := fun hh => by have := (grp_len hh).2.1; omega
    rw [vld, if_neg hg, if_pos ha] at hv
    split at hv
    · rename_i hi
      have hi' : (incl x a).2 = 0 := hi
      simp only [preL, vld, Option.some.injEq] at hv
      have hv' : (incl x a).1 = x' := hv
      rw [Ex.tks, if_pos rfl, pE]
      have e1 : (hd (tkA a ++ t)).1 = 1 := by unfold tkA; rfl
      have e2 : (hd (tkA a ++ t)).2.1 = a.1 := by unfold tkA; rfl
      obtain ⟨n1, n2⟩ := rsv_nam (s := a.1) h2
      have hr : rsv a.1 = false := h2.2.2.2.2
      rw [e1, e2, if_neg (by unfold mayB; rw [e1, e2]; simp [hr]), if_neg h5, if_neg n1, if_neg n2, if_neg (by decide), tw_dec_pos (a := a) h2 h3 hi']
      rw [hv', Ex.cnt, cntL]
    · cases hv
theorem set_yes {w : ByteArray} {g n : Int} (h0 : 0 < n) (hg : n ≤ g) (t : List T4) : pS w g (tkS w n ++ t) = .ok n t 0 [] := by
  have h1 : ¬ n = 0 := by omega
  have h2 : ¬ g < n := by omega
  unfold tkS pS
  simp only [if_neg h1, List.cons_append, List.nil_append, List.headD_cons, List.tail_cons, if_pos, if_neg h2]
theorem set_no {w : ByteArray} {g : Int} {t : List T4} (h : (hd t).2.1 ≠ w) : pS w g t = .ok 0 t 0 [] := by
  unfold pS
  rw [if_neg h]
theorem pQ_tks {r : R3} (h : Vrq r) : pQ (tkR r) = .ok r := by
  obtain ⟨e, p, m⟩ := r
  obtain ⟨h1, h2, h3, h4, h5⟩ := h
  obtain ⟨q1, q2, l, hv⟩ := h1
  unfold pQ tkR
  simp only at *
  rw [back_all e (okL_of hv) _ 1 0 [] l _ (by simp) (by omega) (by omega) hv]
  simp only [pPri]
  have hP : pS wPrio 7 (tkS wPrio p ++ (tkS wLim m ++ [(5, ⟨#[]⟩, 0, 0)])) = .ok p (tkS wLim m ++ [(5, ⟨#[]⟩, 0, 0)]) 0 [] := by
    by_cases hp : p = 0
    · subst hp
      rw [show tkS wPrio 0 = [] from rfl, List.nil_append]
      refine set_no ?_
      by_cases hm : m = 0
      · subst hm; decide
      · unfold tkS; rw [if_neg hm]; show wLim ≠ wPrio; decide
    · exact set_yes (by omega) h3 _
  have hM : pS wLim 1000 (tkS wLim m ++ [(5, ⟨#[]⟩, 0, 0)]) = .ok m [(5, ⟨#[]⟩, 0, 0)] 0 [] := by
    by_cases hm : m = 0
    · subst hm
      rw [show tkS wLim 0 = [] from rfl, List.nil_append]
      exact set_no (by decide)
    · exact set_yes (by omega) h5 _
  rw [hP]
  simp only [pLim]
  rw [hM]
  rfl
/-- Parse reads back what Format writes. -/
theorem pR_back {r : R3} (h : Vrq r) {s : ByteArray} (hs : s = mkB (txR r)) : pR s = .ok r := by
  obtain ⟨t, h1, h2⟩ := lexes_req h
  have hl := h.len
  have hz : s.size ≤ 1024 := by rw [hs, mkB_size]; omega
  have hR : lexR s = (t, 0, 0) := by
    unfold lexR
    rw [if_neg (by omega)]
    unfold lexAt
    rw [List.drop_zero, hs, mkB_data, h1]
    rfl
  unfold pR
  rw [hR]
  simp only [if_pos]
  have hs2 := pQ_sim h2
  rw [pQ_tks h] at hs2
  cases hq : pQ t with
  | ok r' => rw [hq] at hs2; exact congrArg QR.ok hs2
  | no p e => rw [hq] at hs2; exact hs2.elim
end Go.Proofs.YtlokcmbkkfjlkaaGreatDoor
