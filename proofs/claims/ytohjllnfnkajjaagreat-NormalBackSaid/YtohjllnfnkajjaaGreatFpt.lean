/- Truth of an expression by a test on its atoms; the atoms that are in a set; in plain words. Nothing here speaks of a program. Contracts of the program: isAtom, the library's Index and Contains at atoms, has, lacks, membersOf. Contracts of the program: include, Atoms. Contracts of the program: membersOf, holds. -/
import Derived.Test.YtohjllnfnkajjaaGreatFrq
import Derived.Test.YtohjllnfnkajjaaGreatRvx
import Derived.Deep.RegionHeld3
import Derived.Deep.RegionWith
namespace Go.Proofs.YtohjllnfnkajjaaGreat
open Go.RowKit
set_option linter.unusedVariables false

mutual
def Ex.tru (p : A3 → Bool) : Ex → Bool
  | .nd k a l => if k = 0 then p a else decide (k ≤ (truL p l : Int))
def truL (p : A3 → Bool) : List Ex → Nat
  | [] => 0
  | e :: r => (if e.tru p = true then 1 else 0) + truL p r
end
theorem truL_append (p : A3 → Bool) : ∀ x y : List Ex, truL p (x ++ y) = truL p x + truL p y
  | [], y => by simp [truL]
  | e :: x, y => by rw [List.cons_append, truL, truL, truL_append p x y]; omega
theorem truL_take {p : A3 → Bool} {l : List Ex} {k : Nat} (h : k < l.length) : truL p (l.take (k + 1)) = truL p (l.take k) + (if (l.getD k default).tru p = true then 1 else 0) := by
  rw [take_snocX h, truL_append, truL, truL]; omega
theorem truL_hldL {L : List A3} {S : List Bool} {p : A3 → Bool} : ∀ {l : List Ex}, (∀ e ∈ l, e.tru p = e.hld L S) → truL p l = hldL L S l
  | [], _ => by simp [hldL, truL]
  | e :: r, h => by rw [hldL, truL, h e (by simp), truL_hldL (l := r) (fun f hf => h f (by simp [hf]))]
/-- Where the test says of each atom whether it is in the set, it is the truth by the set. -/
theorem tru_hld {L : List A3} {S : List Bool} {p : A3 → Bool} (hp : ∀ a ∈ L, p a = inS L S a) : ∀ e : Ex, GoodE L e → e.tru p = e.hld L S := by
  refine Ex.ind fun k a l ih => ?_
  intro h
  rw [Ex.tru, Ex.hld]
  by_cases hk : k = 0
  · rw [if_pos hk, if_pos hk]
    rcases h.self with hg | ⟨_, hm⟩
    · obtain ⟨_, h1, _⟩ := grp_is hg
      have h1' : 1 ≤ k := h1
      omega
    · exact hp a hm
  · rw [if_neg hk, if_neg hk, truL_hldL (fun e he => ih e he (h.kid he))]
/-! ### The atoms, by include -/
noncomputable def incA (l : List A3) (a : A3) : List A3 := @ite _ (a ∈ l) (Classical.propDecidable _) l (l ++ [a])
noncomputable def incL : List Ex → List A3 → List A3
  | [], l => l
  | e :: r, l => incL r (if e.k = 0 then incA l e.a else l)
theorem incL_append : ∀ (x y : List Ex) (l : List A3), incL (x ++ y) l = incL y (incL x l)
  | [], y, l => rfl
  | e :: x, y, l => by rw [List.cons_append, incL, incL, incL_append x y]
theorem incA_len (l : List A3) (a : A3) : (incA l a).length ≤ l.length + 1 := by
  unfold incA
  split
  · omega
  · simp
theorem incL_len : ∀ (x : List Ex) (l : List A3), (incL x l).length ≤ l.length + x.length
  | [], l => by simp [incL]
  | e :: x, l => by
    rw [incL, List.length_cons]
    have h2 := incA_len l e.a
    by_cases hk : e.k = 0
    · rw [if_pos hk]
      have h := incL_len x (incA l e.a)
      omega
    · rw [if_neg hk]
      have h := incL_len x l
      omega
theorem vld_incL : ∀ (x : List Ex) (l m : List A3), vld x l = some m → incL x l = m
  | [], l, m, h => by
    simp only [vld, Option.some.injEq] at h
    exact h
  | e :: x, l, m, h => by
    rw [vld] at h
    rw [incL]
    split at h
    · rename_i hg
      obtain ⟨_, h1, _⟩ := grp_is hg
      rw [if_neg (by omega)]
      exact vld_incL x l m h
    · split at h
      · rename_i ha
        split at h
        · rename_i h0
          rw [if_pos (atm_is ha).1]
          refine vld_incL x _ m ?_
          rw [← h]
          congr 1
          unfold incA
          unfold incl at h0 ⊢
          rcases scan_cases l e.a with ⟨g1, g2⟩ | ⟨g1, b, g2, g3, g4⟩ | ⟨g1, g2⟩
          · rw [g1, if_pos g2]
          · rw [g1] at h0; cases h0
          · rw [g1] at h0 ⊢
            rw [if_neg (fun hm => g2 _ hm rfl)]
            by_cases h8 : l.length = 8
            · rw [if_pos h8] at h0; cases h0
            · simp only [if_neg h8]
        · cases h
      · cases h
theorem VL.inc {e : Ex} {L : List A3} (h : VL e L) : incL e.pre [] = L := vld_incL _ _ _ h.2
theorem VL.dist {e : Ex} {L : List A3} (h : VL e L) : Dist L := (vld_dist h.2).1
theorem VL.pos {e : Ex} {L : List A3} (h : VL e L) : 1 ≤ L.length := by
  rcases L with _ | ⟨a, r⟩
  · have h1 := hld_all (S := []) (L := []) (fun i hi => by simp at hi) e h.good
    have h2 := hld_none (L := []) (S := []) (fun i => by simp) e h.good
    rw [h1] at h2
    cases h2
  · simp
/-! ### Those that are in a set -/
def memN (L : List A3) (S : List Bool) : Nat → List A3
  | 0 => []
  | j + 1 => memN L S j ++ (if S.getD j false = true then [L.getD j default] else [])
theorem memN_len (L : List A3) (S : List Bool) : ∀ j, (memN L S j).length ≤ j
  | 0 => by simp [memN]
  | j + 1 => by
    rw [memN, List.length_append]
    have := memN_len L S j
    split <;> simp <;> omega
theorem mem_memN {L : List A3} {S : List Bool} {a : A3} : ∀ {j : Nat}, a ∈ memN L S j ↔ ∃ i, i < j ∧ S.getD i false = true ∧ L.getD i default = a
  | 0 => by simp [memN]
  | j + 1 => by
    rw [memN, List.mem_append, mem_memN]
    constructor
    · rintro (⟨i, h1, h2, h3⟩ | h)
      · exact ⟨i, by omega, h2, h3⟩
      · split at h
        · rename_i hs
          exact ⟨j, by omega, hs, (List.mem_singleton.1 h).symm⟩
        · cases h
    · rintro ⟨i, h1, h2, h3⟩
      by_cases hi : i = j
      · subst hi
        right
        rw [if_pos h2, h3]
        simp
      · exact .inl ⟨i, by omega, h2, h3⟩
theorem Dist.inj {L : List A3} (hd : Dist L) : ∀ {i j : Nat}, i < L.length → j < L.length → L.getD i default = L.getD j default → i = j := by
  intro i j hi hj e
  rw [List.getD_eq_getElem?_getD, List.getD_eq_getElem?_getD, List.getElem?_eq_getElem hi, List.getElem?_eq_getElem hj] at e
  have e' : L[i] = L[j] := e
  have hp := List.pairwise_iff_getElem.1 hd
  rcases Nat.lt_trichotomy i j with h | h | h
  · exact absurd (congrArg Prod.fst e') (hp i j hi hj h)
  · exact h
  · exact absurd (congrArg Prod.fst e').symm (hp j i hj hi h)
theorem inS_iff : ∀ {L : List A3} {S : List Bool} {a : A3}, Dist L → (inS L S a = true ↔ ∃ i, i < L.length ∧ S.getD i false = true ∧ L.getD i default = a)
  | [], S, a, hd => by simp [inS]
  | b :: r, S, a, hd => by
    have hd' := List.pairwise_cons.1 hd
    rw [inS]
    by_cases hb : b = a
    · rw [if_pos hb]
      constructor
      · intro h
        exact ⟨0, by simp, h, hb⟩
      · rintro ⟨i, h1, h2, h3⟩
        cases i with
        | zero => exact h2
        | succ i =>
          exfalso
          have h1' : i < r.length := by simpa using h1
          have h3' : r.getD i default = a := h3
          have hm : a ∈ r := by
            rw [← h3', List.getD_eq_getElem?_getD, List.getElem?_eq_getElem h1']
            exact List.getElem_mem h1'
          exact hd'.1 a hm (by rw [hb])
    · rw [if_neg hb, inS_iff hd'.2]
      constructor
      · rintro ⟨i, h1, h2, h3⟩
        exact ⟨i + 1, by simp; omega, by rw [← tail_getD]; exact h2, h3⟩
      · rintro ⟨i, h1, h2, h3⟩
        cases i with
        | zero => exact absurd h3 hb
        | succ i => exact ⟨i, by simpa using h1, by rw [tail_getD]; exact h2, h3⟩
theorem mem_ix {L : List A3} {a : A3} (h : a ∈ L) : ∃ i, i < L.length ∧ L.getD i default = a := by
  obtain ⟨i, hi, e⟩ := List.getElem_of_mem h
  exact ⟨i, hi, by rw [List.getD_eq_getElem?_getD, List.getElem?_eq_getElem hi]; exact e⟩
/-- The tests. -/
noncomputable def hasP (m : List A3) (a : A3) : Bool := @decide (a ∈ m) (Classical.propDecidable _)
noncomputable def lackP (m : List A3) (a : A3) : Bool := !hasP m a
theorem hasP_iff {m : List A3} {a : A3} : hasP m a = true ↔ a ∈ m := @decide_eq_true_iff _ (Classical.propDecidable _)
theorem hasP_no {m : List A3} {a : A3} : hasP m a = false ↔ ¬ a ∈ m := by rw [← hasP_iff, Bool.not_eq_true]
theorem has_set {e : Ex} {L : List A3} (h : VL e L) (S : List Bool) : e.tru (hasP (memN L S L.length)) = e.hld L S := by
  refine tru_hld (fun a _ => ?_) e h.good
  rw [Bool.eq_iff_iff, hasP_iff, mem_memN, inS_iff h.dist]
theorem lack_set {e : Ex} {L : List A3} (h : VL e L) (D : List Bool) : e.tru (lackP (memN L D L.length)) = e.hld L (deadS L.length D) := by
  refine tru_hld (fun a ha => ?_) e h.good
  obtain ⟨i0, hi0, e0⟩ := mem_ix ha
  unfold lackP
  rw [Bool.eq_iff_iff, inS_iff h.dist, Bool.not_eq_true', hasP_no, mem_memN]
  constructor
  · intro hn
    refine ⟨i0, hi0, ?_, e0⟩
    unfold deadS
    rw [map_getD, decide_eq_true hi0, Bool.true_and]
    cases hD : D.getD i0 false with
    | false => rfl
    | true => exact absurd ⟨i0, hi0, hD, e0⟩ hn
  · rintro ⟨i, hi, h2, h3⟩ ⟨j, hj, h4, h5⟩
    obtain rfl := h.dist.inj hi hj (h3.trans h5.symm)
    unfold deadS at h2
    rw [map_getD, h4] at h2
    simp at h2
theorem has_one {e : Ex} {L : List A3} (h : VL e L) {i : Nat} (hi : i < L.length) : e.tru (hasP [L.getD i default]) = e.hld L (oneS L.length i) := by
  refine tru_hld (fun a _ => ?_) e h.good
  rw [Bool.eq_iff_iff, hasP_iff, inS_iff h.dist, List.mem_singleton]
  unfold oneS
  constructor
  · rintro rfl
    exact ⟨i, hi, by rw [map_getD, decide_eq_true hi]; simp, rfl⟩
  · rintro ⟨j, hj, h2, h3⟩
    rw [map_getD, decide_eq_true hj, Bool.true_and, decide_eq_true_iff] at h2
    rw [← h3, h2]
theorem lack_one {e : Ex} {L : List A3} (h : VL e L) {i : Nat} (hi : i < L.length) : e.tru (lackP [L.getD i default]) = e.hld L (restS L.length i) := by
  refine tru_hld (fun a ha => ?_) e h.good
  obtain ⟨i0, hi0, e0⟩ := mem_ix ha
  unfold lackP
  rw [Bool.eq_iff_iff, inS_iff h.dist, Bool.not_eq_true', hasP_no, List.mem_singleton]
  unfold restS
  constructor
  · intro hn
    refine ⟨i0, hi0, ?_, e0⟩
    rw [map_getD, decide_eq_true hi0, Bool.true_and, Bool.not_eq_true', decide_eq_false_iff_not]
    rintro rfl
    exact hn e0.symm
  · rintro ⟨j, hj, h2, h3⟩ ha2
    rw [map_getD, decide_eq_true hj, Bool.true_and, Bool.not_eq_true', decide_eq_false_iff_not] at h2
    exact h2 (h.dist.inj hj hi (h3.trans ha2))
theorem set_self {o : List Bool} {i : Nat} {v : Bool} (h : o.getD i false = v) : o.set i v = o := by
  refine List.ext_getElem (by simp) fun j h1 h2 => ?_
  rw [List.getElem_set]
  by_cases e : i = j
  · subst e
    rw [if_pos rfl]
    rw [List.getD_eq_getElem?_getD, List.getElem?_eq_getElem h2] at h
    exact h.symm
  · rw [if_neg e]
/-- A step of Prune where the expression holds for what is left. -/
theorem stepP_alt {e : Ex} {L : List A3} {o : List Bool} {i : Nat} (h : e.hld L o = true) : o.set i (!e.hld L (o.set i false)) = stepP e L i o := by
  unfold stepP
  cases hv : o.getD i false with
  | true =>
    rw [if_pos rfl]
    cases hx : e.hld L (o.set i false) with
    | true => rfl
    | false =>
      rw [if_neg (by decide)]
      exact set_self hv
  | false =>
    rw [if_neg (by decide)]
    have hs : o.set i false = o := set_self hv
    rw [hs, h]
    exact hs
end Go.Proofs.YtohjllnfnkajjaaGreat

namespace Go.Proofs.YtohjllnfnkajjaaGreat
open Go.RowKit
set_option linter.unusedVariables false
set_option linter.unusedSimpArgs false

theorem fisAtom_is (k : Int) (s : ByteArray) (m u : Int) (A : Option Addr) (n c : Nat) (w : World) {r : Bool} (hr : Hid ((k == 0) = r)) :
    Calls Tryz.prog 86 #[xe k s m u A n c] w fun x w' => x = .returned (.bool r) ∧ Below w.heap.size w w' := by
  have h := hr.out
  clear hr
  go_enter Tryz.func86, Tryz.ntmps86
  go_wp2
  go_ret
  exact ⟨ret_bool (by first | exact h | rfl | (simp; done)), newB _ _⟩

set_option maxHeartbeats 4000000 in
set_option maxRecDepth 20000 in
theorem indexA_is (q : List A3) (A : Option Addr) (n c : Nat) (s : ByteArray) (m u : Int) (w : World) (hR : QRd w A q) (hn : Hid (q.length = n)) (hn8 : n ≤ 1000000) {r : Bool} (hr : Hid (hasP q (s, m, u) = r)) :
    Calls Tryz.prog 98 #[.slice A n c, av s m u] w fun x w' => (∃ v : Int, x = .returned (.int .i64 v) ∧ decide (0 ≤ v) = r) ∧ Below w.heap.size w w' := by
  have HR := Lib.hid hR
  have HK1 := Lib.hid (Blk.new w [.string s, .int .i64 m, .int .i64 u] 25 rfl)
  have HB0 := Lib.hid (newB w (.cells #[.string s, .int .i64 m, .int .i64 u] 25))
  clear hR
  go_enter Tryz.func98, Tryz.ntmps98
  go_wp2
  go_loopw [8] (fun i wr => ∃ (j : Nat), j ≤ n ∧ i = .int .i64 j ∧ Hid (∀ i, i < j → ¬ q.getD i default = (s, m, u)) ∧ Hid (Below w.heap.size w wr) ∧ Hid (Blk wr w.heap.size [.string s, .int .i64 m, .int .i64 u])) (fun i _ => n - (intOf i).toNat)
  case atStart => exact ⟨0, by omega, rfl, (fun i hi => by omega), HB0.out, HK1.out⟩
  case round =>
    obtain ⟨j, hj, rfl, hno, hB, hK⟩ := hrel
    have q1 := hK.out.cell 0 rfl
    have q2 := hK.out.cell 1 rfl
    have q3 := hK.out.cell 2 rfl
    by_cases hlt : (j : Int) < (n : Int)
    · obtain ⟨g, o, s', m', u', rfl, hg, hx, c1, c2, c3⟩ := (HR.out.below hB.out).at_ (i := j) (by have := hn.out; omega)
      have e5 : IntKind.i64.wrap ((j : Int) + 1) = (j : Int) + 1 := by rw [IntKind.wrap_i64]; omega
      have e0 : ∀ W, (binOp .eql 25 (av s m u) (av s' m' u')).run Tryz.prog W = .ok (.bool (eqS s s' && decide (m = m' ∧ u = u'))) W := fun W => eqAtom s s' m u m' u' W
      cases hq : (eqS s s' && decide (m = m' ∧ u = u')) with
      | true =>
        rw [hq] at e0
        have hend : Hid (r = true) := by
          show _ = _
          rw [← hr.out, hasP_iff, eq_a3.1 hq, ← hx.out]
          exact getD_mem3 (by have := hn.out; omega)
        clear hq hr
        go_wp2
        go_quiet (fail)
        go_wp2
        go_ret
        exact ⟨⟨_, rfl, by rw [hend.out]; exact decide_eq_true (by omega)⟩, bdN hB.out _⟩
      | false =>
        rw [hq] at e0
        have hno2 : Hid (∀ i, i < j + 1 → ¬ q.getD i default = (s, m, u)) := fun i hi e => by
          by_cases hjk : i = j
          · subst hjk
            rw [hx.out] at e
            rw [eq_a3.2 e.symm] at hq
            cases hq
          · exact hno.out i (by omega) e
        clear hq
        go_wp2
        go_quiet (fail)
        go_wp2
        go_roundw
        case rel => exact ⟨j + 1, by omega, by go_num, hno2, bdN hB.out _, hK.out.of rfl⟩
        case measure => simp [intOf]; omega
    · have hend : Hid (r = false) := by
        show _ = _
        rw [← hr.out, hasP_no]
        intro hmem
        obtain ⟨i, hi, he⟩ := mem_getD3 hmem
        exact hno.out i (by have := hn.out; omega) he
      go_wp2
      go_ret
      exact ⟨⟨_, rfl, by rw [hend.out]; rfl⟩, hB.out⟩
set_option maxHeartbeats 1000000 in
set_option maxRecDepth 8000 in
theorem containsA_is (q : List A3) (A : Option Addr) (n c : Nat) (s : ByteArray) (m u : Int) (w : World) (hR : QRd w A q) (hn : Hid (q.length = n)) (hn8 : n ≤ 1000000) {r : Bool} (hr : Hid (hasP q (s, m, u) = r)) :
    Calls Tryz.prog 99 #[.slice A n c, av s m u] w fun x w' => x = .returned (.bool r) ∧ Below w.heap.size w w' := by
  have HR := Lib.hid (hR.below (newB w (.cells #[.string s, .int .i64 m, .int .i64 u] 25)))
  clear hR
  go_enter Tryz.func99, Tryz.ntmps99
  go_wp2_with (first | (go_at_call 98; refine (indexA_is q A n c s m u _ HR.out hn hn8 hr).mono ?_; rintro x W1 ⟨⟨v, rfl, hv⟩, hb1⟩; have HV := Lib.hid hv; have HB1 := Lib.hid (dn1 hb1); clear hb1 hv))
  all_goals (go_ret; exact ⟨ret_bool HV.out, HB1.out⟩)

set_option maxHeartbeats 4000000 in
set_option maxRecDepth 20000 in
theorem indexM_is (q : List A3) (A : Option Addr) (n c : Nat) (s : ByteArray) (m u : Int) (w : World) (hR : QRd w A q) (hn : Hid (q.length = n)) (hn8 : n ≤ 1000000) {r : Bool} (hr : Hid (hasP q (s, m, u) = r)) :
    Calls Tryz.prog 115 #[.slice A n c, av s m u] w fun x w' => (∃ v : Int, x = .returned (.int .i64 v) ∧ decide (0 ≤ v) = r) ∧ Below w.heap.size w w' := by
  have HR := Lib.hid hR
  have HK1 := Lib.hid (Blk.new w [.string s, .int .i64 m, .int .i64 u] 25 rfl)
  have HB0 := Lib.hid (newB w (.cells #[.string s, .int .i64 m, .int .i64 u] 25))
  clear hR
  go_enter Tryz.func115, Tryz.ntmps115
  go_wp2
  go_loopw [8] (fun i wr => ∃ (j : Nat), j ≤ n ∧ i = .int .i64 j ∧ Hid (∀ i, i < j → ¬ q.getD i default = (s, m, u)) ∧ Hid (Below w.heap.size w wr) ∧ Hid (Blk wr w.heap.size [.string s, .int .i64 m, .int .i64 u])) (fun i _ => n - (intOf i).toNat)
  case atStart => exact ⟨0, by omega, rfl, (fun i hi => by omega), HB0.out, HK1.out⟩
  case round =>
    obtain ⟨j, hj, rfl, hno, hB, hK⟩ := hrel
    have q1 := hK.out.cell 0 rfl
    have q2 := hK.out.cell 1 rfl
    have q3 := hK.out.cell 2 rfl
    by_cases hlt : (j : Int) < (n : Int)
    · obtain ⟨g, o, s', m', u', rfl, hg, hx, c1, c2, c3⟩ := (HR.out.below hB.out).at_ (i := j) (by have := hn.out; omega)
      have e5 : IntKind.i64.wrap ((j : Int) + 1) = (j : Int) + 1 := by rw [IntKind.wrap_i64]; omega
      have e0 : ∀ W, (binOp .eql 25 (av s m u) (av s' m' u')).run Tryz.prog W = .ok (.bool (eqS s s' && decide (m = m' ∧ u = u'))) W := fun W => eqAtom s s' m u m' u' W
      cases hq : (eqS s s' && decide (m = m' ∧ u = u')) with
      | true =>
        rw [hq] at e0
        have hend : Hid (r = true) := by
          show _ = _
          rw [← hr.out, hasP_iff, eq_a3.1 hq, ← hx.out]
          exact getD_mem3 (by have := hn.out; omega)
        clear hq hr
        go_wp2
        go_quiet (fail)
        go_wp2
        go_ret
        exact ⟨⟨_, rfl, by rw [hend.out]; exact decide_eq_true (by omega)⟩, bdN hB.out _⟩
      | false =>
        rw [hq] at e0
        have hno2 : Hid (∀ i, i < j + 1 → ¬ q.getD i default = (s, m, u)) := fun i hi e => by
          by_cases hjk : i = j
          · subst hjk
            rw [hx.out] at e
            rw [eq_a3.2 e.symm] at hq
            cases hq
          · exact hno.out i (by omega) e
        clear hq
        go_wp2
        go_quiet (fail)
        go_wp2
        go_roundw
        case rel => exact ⟨j + 1, by omega, by go_num, hno2, bdN hB.out _, hK.out.of rfl⟩
        case measure => simp [intOf]; omega
    · have hend : Hid (r = false) := by
        show _ = _
        rw [← hr.out, hasP_no]
        intro hmem
        obtain ⟨i, hi, he⟩ := mem_getD3 hmem
        exact hno.out i (by have := hn.out; omega) he
      go_wp2
      go_ret
      exact ⟨⟨_, rfl, by rw [hend.out]; rfl⟩, hB.out⟩
set_option maxHeartbeats 1000000 in
set_option maxRecDepth 8000 in
theorem containsM_is (q : List A3) (A : Option Addr) (n c : Nat) (s : ByteArray) (m u : Int) (w : World) (hR : QRd w A q) (hn : Hid (q.length = n)) (hn8 : n ≤ 1000000) {r : Bool} (hr : Hid (hasP q (s, m, u) = r)) :
    Calls Tryz.prog 90 #[.slice A n c, av s m u] w fun x w' => x = .returned (.bool r) ∧ Below w.heap.size w w' := by
  have HR := Lib.hid (hR.below (newB w (.cells #[.string s, .int .i64 m, .int .i64 u] 25)))
  clear hR
  go_enter Tryz.func90, Tryz.ntmps90
  go_wp2_with (first | (go_at_call 115; refine (indexM_is q A n c s m u _ HR.out hn hn8 hr).mono ?_; rintro x W1 ⟨⟨v, rfl, hv⟩, hb1⟩; have HV := Lib.hid hv; have HB1 := Lib.hid (dn1 hb1); clear hb1 hv))
  all_goals (go_ret; exact ⟨ret_bool HV.out, HB1.out⟩)

/-- The atoms that are in a set, in memory. -/
structure MS (w : World) (M : List A3) (A : Option Addr) (n : Nat) : Prop where
  rd : QRd w A M
  ln : M.length = n
  n8 : n ≤ 1000000
theorem MS.below {w w' : World} {M : List A3} {A : Option Addr} {n : Nat} (h : MS w M A n) (hb : Below w.heap.size w w') : MS w' M A n := ⟨h.rd.below hb, h.ln, h.n8⟩
theorem MS.grow {w : World} {M : List A3} {A : Option Addr} {n : Nat} (h : MS w M A n) (o : Obj) : MS (w.alloc o) M A n := h.below (newB w o)
set_option maxHeartbeats 1000000 in
set_option maxRecDepth 8000 in
theorem has_is (q : List A3) (A : Option Addr) (n c : Nat) (s : ByteArray) (m u : Int) (w : World) (hM : MS w q A n) {r : Bool} (hr : Hid (hasP q (s, m, u) = r)) :
    Calls Tryz.prog 64 #[.slice A n c, av s m u] w fun x w' => x = .returned (.bool r) ∧ Below w.heap.size w w' := by
  have HM := Lib.hid (hM.grow (.cells #[.string s, .int .i64 m, .int .i64 u] 25))
  clear hM
  go_enter Tryz.func64, Tryz.ntmps64
  go_wp2_with (first | (go_at_call 90; refine (containsM_is q A n c s m u _ HM.out.rd (Lib.hid HM.out.ln) HM.out.n8 hr).mono ?_; rintro x W1 ⟨rfl, hb1⟩; have HB1 := Lib.hid (dn1 hb1); clear hb1))
  go_ret
  exact ⟨rfl, HB1.out⟩
set_option maxHeartbeats 1000000 in
set_option maxRecDepth 8000 in
theorem lacks_is (q : List A3) (A : Option Addr) (n c : Nat) (s : ByteArray) (m u : Int) (w : World) (hM : MS w q A n) {r : Bool} (hr : Hid (lackP q (s, m, u) = r)) :
    Calls Tryz.prog 59 #[.slice A n c, av s m u] w fun x w' => x = .returned (.bool r) ∧ Below w.heap.size w w' := by
  have HM := Lib.hid (hM.grow (.cells #[.string s, .int .i64 m, .int .i64 u] 25))
  obtain ⟨b, hb⟩ : ∃ b, Hid (hasP q (s, m, u) = b) := ⟨_, rfl⟩
  have he : Hid ((!b) = r) := by show _ = _; rw [← hr.out, ← hb.out]; rfl
  clear hM hr
  go_enter Tryz.func59, Tryz.ntmps59
  go_wp2_with (first | (go_at_call 64; refine (has_is q A n c s m u _ HM.out hb).mono ?_; rintro x W1 ⟨rfl, hb1⟩; have HB1 := Lib.hid (dn1 hb1); clear hb1))
  go_ret
  exact ⟨ret_bool he.out, HB1.out⟩
end Go.Proofs.YtohjllnfnkajjaaGreat

namespace Go.Proofs.YtohjllnfnkajjaaGreat
open Go.RowKit
set_option linter.unusedVariables false
set_option linter.unusedSimpArgs false

/-- What include answers: its own row, grown. -/
def InY (base : Nat) (V : Value) (M : List A3) (w : World) (e : Ending) (w' : World) : Prop :=
  ∃ A n c, e = .returned (.slice A n c) ∧ OwnQ w' base (.slice A n c) M ∧ w.grownBy w' V.ownBlock ∧ (∀ g, (Value.slice A n c).ownBlock = some g → V.ownBlock = some g ∨ w.heap.size ≤ g)
def IncOk (e : Ex) : Prop := ∀ (base : Nat) (A0 : Option Addr) (n0 c0 : Nat) (q : List A3) (k : Int) (s : ByteArray) (m u : Int) (A : Option Addr) (n c : Nat) (w : World) (M : List A3),
  Hid (OwnQ w base (.slice A0 n0 c0) q) → base ≤ w.heap.size → Hid (TIn (Lo base) w ⟨k, s, m, u, A, n, c⟩ e) → Hid (q.length + e.cnt ≤ 1000) → Hid (incL e.pre q = M) →
  Calls Tryz.prog 78 #[.slice A0 n0 c0, xe k s m u A n c] w (InY base (.slice A0 n0 c0) M w)
/-- The state at the loop over the kids. -/
structure CoI (base : Nat) (V V2 : Value) (M q2 : List A3) (l : List Ex) (j : Nat) (w wr : World) (cs : List Value) : Prop where
  own : OwnQ wr base V2 q2
  col : incL (preL (l.drop j)) q2 = M
  gro : w.grownBy wr V.ownBlock
  new : ∀ g, V2.ownBlock = some g → V.ownBlock = some g ∨ w.heap.size + 1 ≤ g
  blk : Blk wr w.heap.size cs
  len : q2.length + cntL (l.drop j) ≤ 1000
theorem CoI.step {base : Nat} {V V2 V3 : Value} {M q2 : List A3} {l : List Ex} {j : Nat} {w wr w1 : World} {cs : List Value} (h : CoI base V V2 M q2 l j w wr cs) (hj : j < l.length) (hV : ∀ g, V.ownBlock = some g → g < w.heap.size) (ho : OwnQ w1 base V3 (incL (l.getD j default).pre q2)) (hg : wr.grownBy w1 V2.ownBlock) (hn : ∀ g, V3.ownBlock = some g → V2.ownBlock = some g ∨ wr.heap.size ≤ g) :
    CoI base V V3 M (incL (l.getD j default).pre q2) l (j + 1) w w1 cs := by
  have hlt : w.heap.size < wr.heap.size := h.blk.lt
  refine ⟨ho, ?_, gB_step h.gro hg (fun g hg => ?_), fun g hg => ?_, h.blk.of (hg.block _ hlt (fun e => ?_)), ?_⟩
  · have := h.col
    rw [preL_drop hj, incL_append] at this
    exact this
  · rcases h.new g hg with h1 | h1
    · exact .inl h1
    · exact .inr (by omega)
  · rcases hn g hg with h1 | h1
    · exact h.new g h1
    · exact .inr (by omega)
  · rcases h.new _ e.symm with h1 | h1
    · have := hV _ h1; omega
    · omega
  · have h1 := incL_len (l.getD j default).pre q2
    rw [pre_len.1] at h1
    have h2 := h.len
    rw [cntL_drop hj] at h2
    omega
/-- The loop's start: nothing was appended. -/
theorem CoI.start {base : Nat} {A0 : Option Addr} {n0 c0 : Nat} {M q : List A3} {l : List Ex} {w wr : World} {cs : List Value} (ho : OwnQ w base (.slice A0 n0 c0) q) (hb : Below w.heap.size w wr) (hk : Blk wr w.heap.size cs) (hc : incL (preL l) q = M) (hlen : q.length + cntL l ≤ 1000) :
    CoI base (.slice A0 n0 c0) (.slice A0 n0 c0) M q l 0 w wr cs :=
  ⟨own_kept ho (fun g hg => hb.block g (own_lt ho hg).2), hc, gB_below hb (Nat.le_refl _), fun g hg => .inl hg, hk, hlen⟩

theorem CoI.up {base : Nat} {V V2 : Value} {M q2 : List A3} {l : List Ex} {j : Nat} {w wr w1 : World} {cs : List Value} (h : CoI base V V2 M q2 l j w wr cs) (hb : Below wr.heap.size wr w1) : CoI base V V2 M q2 l j w w1 cs :=
  ⟨own_kept h.own (fun g hg => hb.block g (own_lt h.own hg).2), h.col, gB_trans h.gro (gB_below hb (Nat.le_refl _)), h.new, h.blk.up hb h.blk.lt, h.len⟩
set_option maxHeartbeats 16000000 in
set_option maxRecDepth 100000 in
theorem inc_all : ∀ e : Ex, IncOk e := by
  refine Ex.ind fun ek ea l ih => ?_
  intro base A0 n0 c0 q k s m u A n c w M HO hbase HT hlen hM
  obtain ⟨es, em, eu⟩ := ea
  obtain ⟨a1, a2, a3, a4, b5, b6, b7⟩ := ks_at HT.out.1
  obtain rfl : k = ek := a1
  obtain rfl : s = es := a2
  obtain rfl : m = em := a3
  obtain rfl : u = eu := a4
  have hn : Hid (l.length = n) := b5.symm
  have hbig : n ≤ 9223372036854775807 := by have h1 : n ≤ c := b6; have h2 : c ≤ maxLen := b7; simp only [maxLen] at h2; omega
  clear b5 b6 b7
  obtain ⟨A', c', hV, -, hrd⟩ := HO.out.form
  obtain ⟨rfl, rfl, rfl⟩ : A0 = A' ∧ n0 = q.length ∧ c0 = c' := by simpa using hV
  obtain ⟨n0, hn0⟩ : ∃ n, Hid (q.length = n) := ⟨_, rfl⟩
  rw [hn0.out] at HO ⊢
  have hn8 : n0 ≤ 1000 := by have := hn0.out; have := hlen.out; omega
  have HR := Lib.hid hrd
  have HB0 := Lib.hid (newB w (.cells #[.int .i64 k, .string s, .int .i64 m, .int .i64 u, .slice A n c] 28))
  have HK1 := Lib.hid (Blk.new w [.int .i64 k, .string s, .int .i64 m, .int .i64 u, .slice A n c] 28 rfl)
  have HKR : Hid (KRd (Lo base) w A l) := HT.out.2
  have HBASE := Lib.hid hbase
  have HV := Lib.hid (show ∀ g, (Value.slice A0 n0 c0).ownBlock = some g → g < w.heap.size from fun g hg => (own_lt HO.out hg).2)
  have HBG := Lib.hid (show ∀ g, (Value.slice A0 n0 c0).ownBlock = some g → base ≤ g from fun g hg => (own_lt HO.out hg).1)
  have HLEN : Hid (q.length + cntL l + 1 ≤ 1000) := by have := hlen.out; rw [Ex.cnt] at this; show _ ≤ _; omega
  clear hrd hV hbase hlen HT
  by_cases hk : k = 0
  · subst hk
    obtain ⟨b, hb⟩ : ∃ b, Hid (hasP q (s, m, u) = b) := ⟨_, rfl⟩
    have hk0 : Hid (((0 : Int) == 0) = true) := rfl
    cases b with
    | true =>
      have hc : Hid (incL (preL l) q = M) := by
        have h := hM.out
        rw [Ex.pre, incL] at h
        rw [if_pos (show Ex.k (.nd 0 (s, m, u) l) = 0 from rfl)] at h
        unfold incA at h
        rw [if_pos (show (Ex.a (.nd 0 (s, m, u) l)) ∈ q from hasP_iff.1 hb.out)] at h
        exact h
      clear hM
      have MK := Lib.hid trivial

      go_enter Tryz.func78, Tryz.ntmps78
      go_wp2_with (first
        | (clear MK; go_at_call 86; refine (fisAtom_is 0 s m u A n c _ hk0).mono ?_; rintro x W1 ⟨rfl, hb1⟩; have HB1 := Lib.hid (dn1 hb1); have HK2 := Lib.hid (HK1.out.up hb1 (by simp)); have y1 := HK2.out.cell 1 rfl; have y2 := HK2.out.cell 2 rfl; have y3 := HK2.out.cell 3 rfl; clear hb1)
        | (go_at_call 99; refine (containsA_is q A0 n0 c0 s m u _ (HR.out.below HB1.out) hn0 (by omega) hb).mono ?_; rintro x W2 ⟨rfl, hb2⟩; have HB3 := Lib.hid (nx HB1.out hb2); have HK3 := Lib.hid (HK2.out.up hb2 HK2.out.lt); have y4 := HK3.out.cell 4 rfl; clear hb2))
      have HC0 := Lib.hid (CoI.start HO.out HB3.out HK3.out hc.out (by have := HLEN.out; omega))
      clear HB3 HK3 hc HO
      go_loopw [0, 24] (fun v i wr => ∃ (j : Nat) (A2 : Option Addr) (n2 c2 : Nat) (q2 : List A3), j ≤ n ∧ i = .int .i64 j ∧ v = .slice A2 n2 c2 ∧ Hid (CoI base (.slice A0 n0 c0) (.slice A2 n2 c2) M q2 l j w wr [.int .i64 0, .string s, .int .i64 m, .int .i64 u, .slice A n c])) (fun _ i _ => n - (intOf i).toNat)
      case atStart => exact ⟨0, _, _, _, _, by omega, rfl, rfl, HC0.out⟩
      case round =>
        obtain ⟨j, A2, n2, c2, q2, hj, rfl, rfl, HC⟩ := hrel
        have q4 := HC.out.blk.cell 4 rfl
        by_cases hlt : (j : Int) < (n : Int)
        · have hjl : j < l.length := by have := hn.out; omega
          have HBB := Lib.hid (gB_own HC.out.gro HBG.out HBASE.out)
          obtain ⟨g, o, ⟨k1, s1, m1, u1, A1, n1, c1⟩, rfl, hgb, hgs, ⟨z0, z1, z2, z3, z4⟩, hT1⟩ := (HKR.out.lo HBB.out).at_ hjl
          have e5 : IntKind.i64.wrap ((j : Int) + 1) = (j : Int) + 1 := by rw [IntKind.wrap_i64]; omega
          have hin : Below wr.heap.size wr (wr.alloc (.cells #[.int .i64 k1, .string s1, .int .i64 m1, .int .i64 u1, .slice A1 n1 c1] 28)) := newB wr _
          have HCA : Hid (CoI base (.slice A0 n0 c0) (.slice A2 n2 c2) M q2 l j w (wr.alloc (.cells #[.int .i64 k1, .string s1, .int .i64 m1, .int .i64 u1, .slice A1 n1 c1] 28)) _) := Lib.hid (HC.out.up hin)
          have IH := Lib.hid (ih _ (getD_memX hjl) base A2 n2 c2 q2 k1 s1 m1 u1 A1 n1 c1 (wr.alloc (.cells #[.int .i64 k1, .string s1, .int .i64 m1, .int .i64 u1, .slice A1 n1 c1] 28)) _ HCA.out.own (Nat.le_trans HBASE.out HCA.out.gro.size) (Lib.hid (hT1.of (fun _ h => h) (fun b hb _ => hin.block b (Nat.lt_of_lt_of_le hb (Nat.le_trans HBASE.out HC.out.gro.size))) hin.size)) (by have := HC.out.len; rw [cntL_drop hjl] at this; show _ ≤ _; omega) (Lib.hid rfl))
          clear hT1 hin
          go_wp2_with (go_at_call 78; refine IH.out.mono ?_; rintro e W1 ⟨A3', n3, c3, rfl, ho3, hg3, hn3⟩; have HC3 := Lib.hid (HCA.out.step hjl HV.out ho3 hg3 hn3); clear ho3 hg3 hn3)
          go_roundw
          case rel => exact ⟨j + 1, A3', n3, c3, _, by omega, by go_num, rfl, HC3.out⟩
          case measure => simp [intOf]; omega
        · have hend : Hid (q2 = M) := by
            have h := HC.out.col
            rw [List.drop_eq_nil_of_le (by have := hn.out; omega)] at h
            exact h
          go_wp2
          go_ret
          have e := hend.out
          subst e
          exact ⟨_, _, _, rfl, HC.out.own, HC.out.gro, fun g hg => (HC.out.new g hg).elim .inl (fun h => .inr (Nat.le_of_succ_le h))⟩
    | false =>
      have hc : Hid (incL (preL l) (q ++ [(s, m, u)]) = M) := by
        have h := hM.out
        rw [Ex.pre, incL] at h
        rw [if_pos (show Ex.k (.nd 0 (s, m, u) l) = 0 from rfl)] at h
        unfold incA at h
        rw [if_neg (show ¬ (Ex.a (.nd 0 (s, m, u) l)) ∈ q from hasP_no.1 hb.out)] at h
        exact h
      clear hM
      have MK := Lib.hid trivial
      have h1 : Hid ([((s, m, u) : A3)].length = 1) := rfl
      obtain ⟨k2, hk2⟩ : ∃ k2, Hid ((q ++ [((s, m, u) : A3)]).length = k2) := ⟨_, rfl⟩
      have hl2 : Hid (q.length + 1 ≤ 1000000) := by have := hn0.out; show _ ≤ _; omega

      go_enter Tryz.func78, Tryz.ntmps78
      go_wp2_with (first
        | (clear MK; go_at_call 86; refine (fisAtom_is 0 s m u A n c _ hk0).mono ?_; rintro x W1 ⟨rfl, hb1⟩; have HB1 := Lib.hid (dn1 hb1); have HK2 := Lib.hid (HK1.out.up hb1 (by simp)); have y1 := HK2.out.cell 1 rfl; have y2 := HK2.out.cell 2 rfl; have y3 := HK2.out.cell 3 rfl; clear hb1)
        | (go_at_call 99; refine (containsA_is q A0 n0 c0 s m u _ (HR.out.below HB1.out) hn0 (by omega) hb).mono ?_; rintro x W2 ⟨rfl, hb2⟩; have HB3 := Lib.hid (nx HB1.out hb2); have HK3 := Lib.hid (HK2.out.up hb2 HK2.out.lt); clear y1 y2 y3; have y1 := HK3.out.cell 1 rfl; have y2 := HK3.out.cell 2 rfl; have y3 := HK3.out.cell 3 rfl; have HO2 : Hid (OwnQ W2 base (.slice A0 n0 c0) q) := Lib.hid (own_kept HO.out (fun g hg => HB3.out.block g (own_lt HO.out hg).2)); have HBS := Lib.hid (show base ≤ W2.heap.size from Nat.le_trans HBASE.out HB3.out.size); clear hb2)
        | (at_builtin; (refine app_atom rfl (.tmp 16) (.tmp 19) rfl base (.slice A0 n0 c0) q _ [(s, m, u)] 1 1 h1 rfl rfl (own_kept HO2.out (fun g hg => (newB W2 _).block g (own_lt HO2.out hg).2)) (QRd.one_at _ _ _ _ _ rfl) hl2 (Nat.le_trans HBS.out (by simp)) ?_); intro V2 w2 ho2 hg2 hn2; obtain ⟨A2, c2, hV2, -⟩ := ho2.form; rw [hk2.out] at hV2; subst hV2; have HO3 := Lib.hid ho2; have HG2 := Lib.hid (gB_trans (gB_below (newB W2 _) (Nat.le_refl _)) hg2); have HN2 := Lib.hid hn2; have y4 := (HK3.out.of (HG2.out.block _ HK3.out.lt (fun e => Nat.lt_irrefl _ (HV.out _ e.symm)))).cell 4 rfl; clear ho2 hg2 hn2))
      have HC0 : Hid (CoI base (.slice A0 n0 c0) (.slice A2 k2 c2) M (q ++ [(s, m, u)]) l 0 w w2 [.int .i64 0, .string s, .int .i64 m, .int .i64 u, .slice A n c]) := by
        refine Lib.hid ⟨HO3.out, hc.out, gB_trans (gB_below HB3.out (Nat.le_refl _)) HG2.out, fun g hg => ?_, HK3.out.of (HG2.out.block _ HK3.out.lt (fun e => Nat.lt_irrefl _ (HV.out _ e.symm))), by have := HLEN.out; rw [List.length_append, List.length_singleton, List.drop_zero]; omega⟩
        have hs := HK3.out.lt
        rcases HN2.out with h | h
        · exact .inl (by rw [← h]; exact hg)
        · right
          rw [hg] at h
          injection h with h
          rw [h]
          simp
          omega
      have y5 := HC0.out.blk.cell 4 rfl
      clear HB3 HK3 hc HO HO2 HO3 HG2 HN2
      go_loopw [0, 24] (fun v i wr => ∃ (j : Nat) (A2 : Option Addr) (n2 c2 : Nat) (q2 : List A3), j ≤ n ∧ i = .int .i64 j ∧ v = .slice A2 n2 c2 ∧ Hid (CoI base (.slice A0 n0 c0) (.slice A2 n2 c2) M q2 l j w wr [.int .i64 0, .string s, .int .i64 m, .int .i64 u, .slice A n c])) (fun _ i _ => n - (intOf i).toNat)
      case atStart => exact ⟨0, _, _, _, _, by omega, rfl, rfl, HC0.out⟩
      case round =>
        obtain ⟨j, A2, n2, c2, q2, hj, rfl, rfl, HC⟩ := hrel
        have q4 := HC.out.blk.cell 4 rfl
        by_cases hlt : (j : Int) < (n : Int)
        · have hjl : j < l.length := by have := hn.out; omega
          have HBB := Lib.hid (gB_own HC.out.gro HBG.out HBASE.out)
          obtain ⟨g, o, ⟨k1, s1, m1, u1, A1, n1, c1⟩, rfl, hgb, hgs, ⟨z0, z1, z2, z3, z4⟩, hT1⟩ := (HKR.out.lo HBB.out).at_ hjl
          have e5 : IntKind.i64.wrap ((j : Int) + 1) = (j : Int) + 1 := by rw [IntKind.wrap_i64]; omega
          have hin : Below wr.heap.size wr (wr.alloc (.cells #[.int .i64 k1, .string s1, .int .i64 m1, .int .i64 u1, .slice A1 n1 c1] 28)) := newB wr _
          have HCA : Hid (CoI base (.slice A0 n0 c0) (.slice A2 n2 c2) M q2 l j w (wr.alloc (.cells #[.int .i64 k1, .string s1, .int .i64 m1, .int .i64 u1, .slice A1 n1 c1] 28)) _) := Lib.hid (HC.out.up hin)
          have IH := Lib.hid (ih _ (getD_memX hjl) base A2 n2 c2 q2 k1 s1 m1 u1 A1 n1 c1 (wr.alloc (.cells #[.int .i64 k1, .string s1, .int .i64 m1, .int .i64 u1, .slice A1 n1 c1] 28)) _ HCA.out.own (Nat.le_trans HBASE.out HCA.out.gro.size) (Lib.hid (hT1.of (fun _ h => h) (fun b hb _ => hin.block b (Nat.lt_of_lt_of_le hb (Nat.le_trans HBASE.out HC.out.gro.size))) hin.size)) (by have := HC.out.len; rw [cntL_drop hjl] at this; show _ ≤ _; omega) (Lib.hid rfl))
          clear hT1 hin
          go_wp2_with (go_at_call 78; refine IH.out.mono ?_; rintro e W1 ⟨A3', n3, c3, rfl, ho3, hg3, hn3⟩; have HC3 := Lib.hid (HCA.out.step hjl HV.out ho3 hg3 hn3); clear ho3 hg3 hn3)
          go_roundw
          case rel => exact ⟨j + 1, A3', n3, c3, _, by omega, by go_num, rfl, HC3.out⟩
          case measure => simp [intOf]; omega
        · have hend : Hid (q2 = M) := by
            have h := HC.out.col
            rw [List.drop_eq_nil_of_le (by have := hn.out; omega)] at h
            exact h
          go_wp2
          go_ret
          have e := hend.out
          subst e
          exact ⟨_, _, _, rfl, HC.out.own, HC.out.gro, fun g hg => (HC.out.new g hg).elim .inl (fun h => .inr (Nat.le_of_succ_le h))⟩
  · have hkb : Hid ((k == 0) = false) := by show _ = _; rw [beq_eq_false_iff_ne]; exact hk
    have hc : Hid (incL (preL l) q = M) := by
      have h := hM.out
      rw [Ex.pre, incL, if_neg (show ¬ Ex.k (.nd k (s, m, u) l) = 0 from hk)] at h
      exact h
    clear hM hk
    · skip

      go_enter Tryz.func78, Tryz.ntmps78
      go_wp2_with (first
        | (go_at_call 86; refine (fisAtom_is k s m u A n c _ hkb).mono ?_; rintro x W1 ⟨rfl, hb1⟩; have HB1 := Lib.hid (dn1 hb1); have HK2 := Lib.hid (HK1.out.up hb1 (by simp)); have y4 := HK2.out.cell 4 rfl; clear hb1))
      have HC0 := Lib.hid (CoI.start HO.out HB1.out HK2.out hc.out (by have := HLEN.out; omega))
      clear HB1 HK2 hc HO
      go_loopw [0, 24] (fun v i wr => ∃ (j : Nat) (A2 : Option Addr) (n2 c2 : Nat) (q2 : List A3), j ≤ n ∧ i = .int .i64 j ∧ v = .slice A2 n2 c2 ∧ Hid (CoI base (.slice A0 n0 c0) (.slice A2 n2 c2) M q2 l j w wr [.int .i64 k, .string s, .int .i64 m, .int .i64 u, .slice A n c])) (fun _ i _ => n - (intOf i).toNat)
      case atStart => exact ⟨0, _, _, _, _, by omega, rfl, rfl, HC0.out⟩
      case round =>
        obtain ⟨j, A2, n2, c2, q2, hj, rfl, rfl, HC⟩ := hrel
        have q4 := HC.out.blk.cell 4 rfl
        by_cases hlt : (j : Int) < (n : Int)
        · have hjl : j < l.length := by have := hn.out; omega
          have HBB := Lib.hid (gB_own HC.out.gro HBG.out HBASE.out)
          obtain ⟨g, o, ⟨k1, s1, m1, u1, A1, n1, c1⟩, rfl, hgb, hgs, ⟨z0, z1, z2, z3, z4⟩, hT1⟩ := (HKR.out.lo HBB.out).at_ hjl
          have e5 : IntKind.i64.wrap ((j : Int) + 1) = (j : Int) + 1 := by rw [IntKind.wrap_i64]; omega
          have hin : Below wr.heap.size wr (wr.alloc (.cells #[.int .i64 k1, .string s1, .int .i64 m1, .int .i64 u1, .slice A1 n1 c1] 28)) := newB wr _
          have HCA : Hid (CoI base (.slice A0 n0 c0) (.slice A2 n2 c2) M q2 l j w (wr.alloc (.cells #[.int .i64 k1, .string s1, .int .i64 m1, .int .i64 u1, .slice A1 n1 c1] 28)) _) := Lib.hid (HC.out.up hin)
          have IH := Lib.hid (ih _ (getD_memX hjl) base A2 n2 c2 q2 k1 s1 m1 u1 A1 n1 c1 (wr.alloc (.cells #[.int .i64 k1, .string s1, .int .i64 m1, .int .i64 u1, .slice A1 n1 c1] 28)) _ HCA.out.own (Nat.le_trans HBASE.out HCA.out.gro.size) (Lib.hid (hT1.of (fun _ h => h) (fun b hb _ => hin.block b (Nat.lt_of_lt_of_le hb (Nat.le_trans HBASE.out HC.out.gro.size))) hin.size)) (by have := HC.out.len; rw [cntL_drop hjl] at this; show _ ≤ _; omega) (Lib.hid rfl))
          clear hT1 hin
          go_wp2_with (go_at_call 78; refine IH.out.mono ?_; rintro e W1 ⟨A3', n3, c3, rfl, ho3, hg3, hn3⟩; have HC3 := Lib.hid (HCA.out.step hjl HV.out ho3 hg3 hn3); clear ho3 hg3 hn3)
          go_roundw
          case rel => exact ⟨j + 1, A3', n3, c3, _, by omega, by go_num, rfl, HC3.out⟩
          case measure => simp [intOf]; omega
        · have hend : Hid (q2 = M) := by
            have h := HC.out.col
            rw [List.drop_eq_nil_of_le (by have := hn.out; omega)] at h
            exact h
          go_wp2
          go_ret
          have e := hend.out
          subst e
          exact ⟨_, _, _, rfl, HC.out.own, HC.out.gro, fun g hg => (HC.out.new g hg).elim .inl (fun h => .inr (Nat.le_of_succ_le h))⟩
set_option maxHeartbeats 1000000 in
set_option maxRecDepth 8000 in
theorem atoms8_yes {e : Ex} {L : List A3} (k : Int) (s : ByteArray) (m u : Int) (A : Option Addr) (n c : Nat) (w : World) (hT : TIn (Lo w.heap.size) w ⟨k, s, m, u, A, n, c⟩ e) (hL : Hid (VL e L)) :
    Calls Tryz.prog 50 #[xe k s m u A n c] w fun x w' => (∃ A n c, x = .returned (.slice A n c) ∧ L.length = n ∧ QRd w' A L) ∧ Below w.heap.size w w' := by
  have HT := Lib.hid (hT.grow (.cells #[.int .i64 k, .string s, .int .i64 m, .int .i64 u, .slice A n c] 28))
  have HK0 := Lib.hid (Blk.new w [.int .i64 k, .string s, .int .i64 m, .int .i64 u, .slice A n c] 28 rfl)
  have hr : Hid (vexB e = true) := vexB_iff.2 hL.out.1
  have hcn : Hid (([] : List A3).length + e.cnt ≤ 1000) := by have := hL.out.1.2.1; show _ ≤ _; simp; omega
  have hinc : Hid (incL e.pre [] = L) := hL.out.inc
  clear hT
  go_enter Tryz.func50, Tryz.ntmps50
  go_wp2_with (first
    | (go_at_call 40; refine (validExpr_is (e := e) k s m u A n c _ HT.out hr).mono ?_; rintro x W1 ⟨rfl, hb1⟩; have HT1 := Lib.hid (HT.out.up hb1); have hk1 := HK0.out.up hb1 (by simp); have x0 := hk1.cell 0 rfl; have x1 := hk1.cell 1 rfl; have x2 := hk1.cell 2 rfl; have x3 := hk1.cell 3 rfl; have x4 := hk1.cell 4 rfl; have HB1 := Lib.hid (dn1 hb1); clear hb1 hk1)
    | (go_at_call 78; refine (inc_all e W1.heap.size none 0 0 [] k s m u A n c W1 L (Lib.hid (OwnQ.nil _ _)) (Nat.le_refl _) HT1 hcn hinc).mono ?_; rintro x W2 ⟨A2, n2, c2, rfl, ho2, hg2, -⟩; obtain ⟨A3', c3, hV3, -, hrd⟩ := ho2.form; have HQ := Lib.hid hrd; have HN : Hid (A2 = A3' ∧ n2 = L.length ∧ c2 = c3) := Lib.hid (by simpa using hV3); have HB2 := Lib.hid (nx HB1.out (gB_own hg2 (fun g hg => by simp [Value.ownBlock] at hg) (Nat.le_refl _))); clear ho2 hg2 hrd hV3))
  go_ret
  exact ⟨⟨_, _, _, rfl, HN.out.2.1.symm, by rw [HN.out.1]; exact HQ.out⟩, HB2.out⟩
set_option maxHeartbeats 1000000 in
set_option maxRecDepth 8000 in
theorem atoms8_nil {e : Ex} (k : Int) (s : ByteArray) (m u : Int) (A : Option Addr) (n c : Nat) (w : World) (hT : TIn (Lo w.heap.size) w ⟨k, s, m, u, A, n, c⟩ e) (hv : Hid (¬ Vex e)) :
    Calls Tryz.prog 50 #[xe k s m u A n c] w fun x w' => x = .returned (.slice none 0 0) ∧ Below w.heap.size w w' := by
  have HT := Lib.hid (hT.grow (.cells #[.int .i64 k, .string s, .int .i64 m, .int .i64 u, .slice A n c] 28))
  have hr : Hid (vexB e = false) := vexB_no.2 hv.out
  clear hT
  go_enter Tryz.func50, Tryz.ntmps50
  go_wp2_with (first
    | (go_at_call 40; refine (validExpr_is (e := e) k s m u A n c _ HT.out hr).mono ?_; rintro x W1 ⟨rfl, hb1⟩; have HB1 := Lib.hid (dn1 hb1); clear hb1))
  go_ret
  exact ⟨rfl, HB1.out⟩
end Go.Proofs.YtohjllnfnkajjaaGreat

namespace Go.Proofs.YtohjllnfnkajjaaGreat
open Go.RowKit
set_option linter.unusedVariables false
set_option linter.unusedSimpArgs false

theorem app_mem {w : World} {ops : Array Oper} {rest : List Oper} {o : Oper} {a : Act} {Q : Exit → Act → World → Prop} (hgd : Region.wanted o (yielded ops a.tmps) = true) (s y : Operand)
    (ho : o.op = .call { callee := .builtin .append, args := #[s, y], argTypes := #[78, 78] })
    (base : Nat) (V : Value) (xs : List A3) (A : Option Addr) (ys : List A3) (n c : Nat) (hn : Hid (ys.length = n)) (hv : a.eval s = V) (hx : a.eval y = .slice A n c)
    (hd : OwnQ w base V xs) (hs : QRd w A ys) (hlen : Hid (xs.length + n ≤ 1000000)) (hbase : base ≤ w.heap.size)
    (h : ∀ V' w', OwnQ w' base V' (xs ++ ys) → w.grownBy w' V.ownBlock → (V'.ownBlock = V.ownBlock ∨ V'.ownBlock = some w.heap.size) → wpList Tryz.prog ops Q rest (a.put o.dst V') w') :
    wpList Tryz.prog ops Q (o :: rest) a w := by
  have hn' := hn.out
  subst hn'
  obtain ⟨i0, hi, hz0, hz1, hz2⟩ := info_parts atom_info
  have hl := hlen.out
  refine wpList_app w hgd s y 78 78 ho base 25 i0 _ 3 32 Tryz.underlying78 hi hz0 hz1 hz2 rfl V xs.length (avs xs) _ ys.length (avs ys) hv hx (.inl hd)
    (Src.atoms Tryz.underlying78 c hs) (by simp only [maxLen]; omega) (fits_half (by omega)) hbase (fun V' w' h1 h2 h3 h4 => h V' w' ?_ (h3 hd) h4)
  unfold OwnQ
  rw [List.length_append, avs_append]
  exact h1
theorem memN_step {L : List A3} {S : List Bool} {j : Nat} : memN L S (j + 1) = memN L S j ++ (if S.getD j false = true then [L.getD j default] else []) := rfl
set_option maxHeartbeats 4000000 in
set_option maxRecDepth 20000 in
theorem members_is (L : List A3) (S : List Bool) (A : Option Addr) (n c : Nat) (B : Option Addr) (q cq : Nat) (w : World) (hR : QRd w A L) (hn : Hid (L.length = n)) (hn8 : n ≤ 1000) (hS : SI w S B q) :
    Calls Tryz.prog 58 #[.slice A n c, .slice B q cq] w fun x w' => (∃ A' n' c', x = .returned (.slice A' n' c') ∧ MS w' (memN L S n) A' n') ∧ Below w.heap.size w w' := by
  have HR := Lib.hid hR
  have HS := Lib.hid hS
  have hq := hS.m8
  clear hR hS
  go_enter Tryz.func58, Tryz.ntmps58
  go_wp2
  go_loopw [5, 10] (fun v i wr => ∃ (j : Nat) (A2 : Option Addr) (n2 c2 : Nat), j ≤ n ∧ i = .int .i64 j ∧ v = .slice A2 n2 c2 ∧ Hid (OwnQ wr w.heap.size (.slice A2 n2 c2) (memN L S j)) ∧ Hid (Below w.heap.size w wr)) (fun _ i _ => n - (intOf i).toNat)
  case atStart => exact ⟨0, none, 0, 0, by omega, rfl, rfl, OwnQ.nil _ _, Below.refl _ _⟩
  case round =>
    obtain ⟨j, A2, n2, c2, hj, rfl, rfl, hO, hB⟩ := hrel
    by_cases hlt : (j : Int) < (n : Int)
    · obtain ⟨g, o, s, m, u, rfl, hg, hx, d1, d2, d3⟩ := (HR.out.below hB.out).at_ (i := j) (by have := hn.out; omega)
      have e5 : IntKind.i64.wrap ((j : Int) + 1) = (j : Int) + 1 := by rw [IntKind.wrap_i64]; omega
      have HB2 := Lib.hid (nx hB.out (newB wr (.cells #[.string s, .int .i64 m, .int .i64 u] 25)))
      have HO2 : Hid (∀ o, OwnQ (wr.alloc o) w.heap.size (.slice A2 n2 c2) (memN L S j)) := Lib.hid (fun o => own_kept hO.out (fun q hq => (newB wr o).block q (own_lt hO.out hq).2))
      have hml := memN_len L S j
      have HL := Lib.hid hml
      clear hml
      have hstep := memN_step (L := L) (S := S) (j := j)
      by_cases hjs : (j : Int) < (q : Int)
      · obtain ⟨g2, o2, v, rfl, hg2, hv, b1⟩ := (HS.out.sr.below hB.out).at_ (i := j) (by have := HS.out.sn; omega)
        have dj : decide (j < q) = true := decide_eq_true (by omega)
        rw [hv.out, hx.out] at hstep
        cases v with
        | true =>
          rw [if_pos rfl] at hstep
          have HST := Lib.hid hstep
          have h1 : Hid ([((s, m, u) : A3)].length = 1) := rfl
          obtain ⟨k2, hk2⟩ : ∃ k2, Hid ((memN L S j ++ [((s, m, u) : A3)]).length = k2) := ⟨_, rfl⟩
          have hl2 : Hid ((memN L S j).length + 1 ≤ 1000000) := by have := HL.out; show _ ≤ _; omega
          have HW := Lib.hid (show w.heap.size ≤ wr.heap.size from hB.out.size)
          have HO3 : Hid (∀ o o2, OwnQ ((wr.alloc o).alloc o2) w.heap.size (.slice A2 n2 c2) (memN L S j)) := Lib.hid (fun o o2 => own_kept (HO2.out o) (fun q hq => (newB _ o2).block q (own_lt (HO2.out o) hq).2))
          clear hstep
          go_wp2_with (at_builtin; (refine app_mem rfl (.tmp 25) (.tmp 27) rfl w.heap.size (.slice A2 n2 c2) (memN L S j) _ [(s, m, u)] 1 1 h1 rfl rfl (HO3.out _ _) (QRd.one_at _ _ _ _ _ (by simp)) hl2 (Nat.le_trans HW.out (by simp; omega)) ?_); intro V2 w2 ho2 hg2 hn2; obtain ⟨A3', c3, hV2, -⟩ := ho2.form; rw [hk2.out] at hV2; subst hV2; have HO4 : Hid (OwnQ w2 w.heap.size (.slice A3' k2 c3) (memN L S (j + 1))) := Lib.hid (by rw [HST.out]; exact ho2); have HB4 := Lib.hid (gB_own (gB_trans (gB_below (nxA HB2.out _) (Nat.le_refl _)) hg2) (fun g hg => (own_lt hO.out hg).1) (Nat.le_refl _)); clear ho2 hg2 hn2)
          go_roundw
          case rel => exact ⟨j + 1, A3', k2, c3, by omega, by go_num, rfl, HO4, HB4⟩
          case measure => simp [intOf]; omega
        | false =>
          rw [if_neg (by decide), List.append_nil] at hstep
          have HO4 : Hid (OwnQ (wr.alloc (.cells #[.string s, .int .i64 m, .int .i64 u] 25)) w.heap.size (.slice A2 n2 c2) (memN L S (j + 1))) := Lib.hid (by rw [hstep]; exact HO2.out _)
          clear hstep
          go_wp2
          go_roundw
          case rel => exact ⟨j + 1, A2, n2, c2, by omega, by go_num, rfl, HO4, HB2⟩
          case measure => simp [intOf]; omega
      · have dj : decide (j < q) = false := decide_eq_false (by omega)
        rw [getD_out (by have := HS.out.sn; omega), if_neg (by decide), List.append_nil] at hstep
        have HO4 : Hid (OwnQ (wr.alloc (.cells #[.string s, .int .i64 m, .int .i64 u] 25)) w.heap.size (.slice A2 n2 c2) (memN L S (j + 1))) := Lib.hid (by rw [hstep]; exact HO2.out _)
        clear hstep
        go_wp2
        go_roundw
        case rel => exact ⟨j + 1, A2, n2, c2, by omega, by go_num, rfl, HO4, HB2⟩
        case measure => simp [intOf]; omega
    · have hje : j = n := by omega
      subst hje
      go_wp2
      go_ret
      obtain ⟨A', c', hV, -, hrd⟩ := hO.out.form
      obtain ⟨rfl, rfl, rfl⟩ : A2 = A' ∧ n2 = (memN L S j).length ∧ c2 = c' := by simpa using hV

      exact ⟨⟨_, _, ⟨_, rfl⟩, hrd, rfl, by have := memN_len L S j; omega⟩, hB.out⟩

def TruOkhas (e : Ex) : Prop := ∀ (M : List A3) (Am : Option Addr) (nm cm : Nat) (k : Int) (s : ByteArray) (m u : Int) (A : Option Addr) (n c : Nat) (w : World) (r : Bool),
  Hid (TIn (Lo w.heap.size) w ⟨k, s, m, u, A, n, c⟩ e) → Hid (MS w M Am nm) → Hid (e.tru (hasP M) = r) →
  Calls Tryz.prog 57 #[xe k s m u A n c, .func (.func 64) #[.slice Am nm cm] #[]] w fun x w' => x = .returned (.bool r) ∧ Below w.heap.size w w'
set_option maxHeartbeats 8000000 in
set_option maxRecDepth 100000 in
theorem holds_has : ∀ e : Ex, TruOkhas e := by
  refine Ex.ind fun ek ea l ih => ?_
  intro M Am nm cm k s m u A n c w r HT HM hr
  obtain ⟨as_, am, au⟩ := ea
  obtain ⟨a1, a2, a3, a4, a5, a6, a7⟩ := ks_at HT.out.1
  obtain rfl : k = ek := a1
  obtain rfl : s = as_ := a2
  obtain rfl : m = am := a3
  obtain rfl : u = au := a4
  have hn : Hid (l.length = n) := a5.symm
  have hnb : n ≤ 9223372036854775807 := by have h1 : n ≤ c := a6; have h2 : c ≤ maxLen := a7; simp only [maxLen] at h2; omega
  have HK1 := Lib.hid (Blk.new w [.int .i64 k, .string s, .int .i64 m, .int .i64 u, .slice A n c] 28 rfl)
  clear a5 a6 a7
  by_cases hk : k = 0
  · subst hk
    have hk0 : Hid (((0 : Int) == 0) = true) := rfl
    have hr2 : Hid (hasP M (s, m, u) = r) := by have h := hr.out; rw [Ex.tru, if_pos rfl] at h; exact h
    clear hr ih
    have MK := Lib.hid trivial
    go_enter Tryz.func57, Tryz.ntmps57
    go_wp2_with (first
      | (clear MK; go_at_call 86; refine (fisAtom_is 0 s m u A n c _ hk0).mono ?_; rintro x W1 ⟨rfl, hb1⟩; have HB1 := Lib.hid (dn1 hb1); have HK2 := Lib.hid (HK1.out.up hb1 (by simp)); have y1 := HK2.out.cell 1 rfl; have y2 := HK2.out.cell 2 rfl; have y3 := HK2.out.cell 3 rfl; clear hb1)
      | (go_at_call 64; refine (has_is M Am nm cm s m u _ (HM.out.below HB1.out) hr2).mono ?_; rintro x W2 ⟨rfl, hb2⟩; have HB2 := Lib.hid (nx HB1.out hb2); clear hb2))
    go_ret
    exact ⟨rfl, HB2.out⟩
  · have hr2 : Hid (decide (k ≤ (truL (hasP M) l : Int)) = r) := by have h := hr.out; rw [Ex.tru, if_neg hk] at h; exact h
    have HKR : Hid (KRd (Lo w.heap.size) w A l) := HT.out.2
    have hkb : Hid ((k == 0) = false) := by show _ = _; rw [beq_eq_false_iff_ne]; exact hk
    clear hr HT hk
    go_enter Tryz.func57, Tryz.ntmps57
    go_wp2_with (first
      | (go_at_call 86; refine (fisAtom_is k s m u A n c _ hkb).mono ?_; rintro x W1 ⟨rfl, hb1⟩; have HB1 := Lib.hid (dn1 hb1); have HK2 := Lib.hid (HK1.out.up hb1 (by simp)); have y4 := HK2.out.cell 4 rfl; clear hb1))
    go_loopw [5, 17] (fun q i wr => ∃ (j p : Nat), j ≤ n ∧ p ≤ j ∧ i = .int .i64 j ∧ q = .int .i64 p ∧ Hid (truL (hasP M) (l.take j) = p) ∧ Hid (Below w.heap.size w wr) ∧ Hid (Blk wr w.heap.size [.int .i64 k, .string s, .int .i64 m, .int .i64 u, .slice A n c])) (fun _ i _ => n - (intOf i).toNat)
    case atStart => exact ⟨0, 0, by omega, by omega, rfl, rfl, by show _ = _; simp [truL], HB1.out, HK2.out⟩
    case round =>
      obtain ⟨j, p, hj, hp, rfl, rfl, hH, hB, hK⟩ := hrel
      have q0 := hK.out.cell 0 rfl
      have q4 := hK.out.cell 4 rfl
      by_cases hlt : (j : Int) < (n : Int)
      · have hjl : j < l.length := by have := hn.out; omega
        obtain ⟨g, o, ⟨k1, s1, m1, u1, A1, n1, c1⟩, rfl, hgb, hgs, ⟨z0, z1, z2, z3, z4⟩, hT1⟩ := (HKR.out.lo hB.out).at_ hjl
        have e5 : IntKind.i64.wrap ((j : Int) + 1) = (j : Int) + 1 := by rw [IntKind.wrap_i64]; omega
        have e6 : IntKind.i64.wrap ((p : Int) + 1) = (p : Int) + 1 := by rw [IntKind.wrap_i64]; omega
        have IH := Lib.hid (ih _ (getD_memX hjl))
        have htk := truL_take (p := hasP M) hjl
        rw [hH.out] at htk
        obtain ⟨f, hf⟩ : ∃ f, Hid (l.getD j default = f) := ⟨_, rfl⟩
        rw [hf.out] at IH hT1 htk
        obtain ⟨b, hb⟩ : ∃ b, Hid (f.tru (hasP M) = b) := ⟨_, rfl⟩
        rw [hb.out] at htk
        have HB4 := Lib.hid (nx hB.out (newB wr (.cells #[.int .i64 k1, .string s1, .int .i64 m1, .int .i64 u1, .slice A1 n1 c1] 28)))
        have HT1 : Hid (TIn (Lo (wr.alloc (.cells #[.int .i64 k1, .string s1, .int .i64 m1, .int .i64 u1, .slice A1 n1 c1] 28)).heap.size) (wr.alloc (.cells #[.int .i64 k1, .string s1, .int .i64 m1, .int .i64 u1, .slice A1 n1 c1] 28)) ⟨k1, s1, m1, u1, A1, n1, c1⟩ f) := TIn.grow (hT1.mono (fun b h => Nat.lt_of_lt_of_le h hB.out.size)) _
        have HMr := Lib.hid (HM.out.below HB4.out)
        have HK4 := Lib.hid (hK.out.grow (.cells #[.int .i64 k1, .string s1, .int .i64 m1, .int .i64 u1, .slice A1 n1 c1] 28))
        clear hT1
        cases b with
        | true =>
          have hH2 : Hid (truL (hasP M) (l.take (j + 1)) = p + 1) := by show _ = _; rw [htk, if_pos rfl]
          clear htk
          go_wp2_with (go_at_call 57; refine (IH.out M Am nm cm k1 s1 m1 u1 A1 n1 c1 _ true HT1 HMr hb).mono ?_; rintro x W1 ⟨rfl, hb1⟩; have HB5 := Lib.hid (nx HB4.out hb1); have HK5 := Lib.hid (HK4.out.up hb1 HK4.out.lt); clear hb1)
          exact ⟨⟨j + 1, p + 1, by omega, by omega, by go_num, by go_num, hH2, HB5.out, HK5.out⟩, by simp [intOf]; omega⟩
        | false =>
          have hH2 : Hid (truL (hasP M) (l.take (j + 1)) = p) := by show _ = _; rw [htk, if_neg (by decide)]; rfl
          clear htk
          go_wp2_with (go_at_call 57; refine (IH.out M Am nm cm k1 s1 m1 u1 A1 n1 c1 _ false HT1 HMr hb).mono ?_; rintro x W1 ⟨rfl, hb1⟩; have HB5 := Lib.hid (nx HB4.out hb1); have HK5 := Lib.hid (HK4.out.up hb1 HK4.out.lt); clear hb1)
          exact ⟨⟨j + 1, p, by omega, by omega, by go_num, rfl, hH2, HB5.out, HK5.out⟩, by simp [intOf]; omega⟩
      · have hje : j = n := by omega
        have hend : Hid (decide (k ≤ (p : Int)) = r) := by
          show _ = _
          rw [← hr2.out, ← hH.out, hje, List.take_of_length_le (by rw [hn.out]; exact Nat.le_refl _)]
        clear hr2 hH hje
        go_wp2
        go_ret
        exact ⟨ret_bool (by rw [← hend.out]), hB.out⟩

def TruOklacks (e : Ex) : Prop := ∀ (M : List A3) (Am : Option Addr) (nm cm : Nat) (k : Int) (s : ByteArray) (m u : Int) (A : Option Addr) (n c : Nat) (w : World) (r : Bool),
  Hid (TIn (Lo w.heap.size) w ⟨k, s, m, u, A, n, c⟩ e) → Hid (MS w M Am nm) → Hid (e.tru (lackP M) = r) →
  Calls Tryz.prog 57 #[xe k s m u A n c, .func (.func 59) #[.slice Am nm cm] #[]] w fun x w' => x = .returned (.bool r) ∧ Below w.heap.size w w'
set_option maxHeartbeats 8000000 in
set_option maxRecDepth 100000 in
theorem holds_lacks : ∀ e : Ex, TruOklacks e := by
  refine Ex.ind fun ek ea l ih => ?_
  intro M Am nm cm k s m u A n c w r HT HM hr
  obtain ⟨as_, am, au⟩ := ea
  obtain ⟨a1, a2, a3, a4, a5, a6, a7⟩ := ks_at HT.out.1
  obtain rfl : k = ek := a1
  obtain rfl : s = as_ := a2
  obtain rfl : m = am := a3
  obtain rfl : u = au := a4
  have hn : Hid (l.length = n) := a5.symm
  have hnb : n ≤ 9223372036854775807 := by have h1 : n ≤ c := a6; have h2 : c ≤ maxLen := a7; simp only [maxLen] at h2; omega
  have HK1 := Lib.hid (Blk.new w [.int .i64 k, .string s, .int .i64 m, .int .i64 u, .slice A n c] 28 rfl)
  clear a5 a6 a7
  by_cases hk : k = 0
  · subst hk
    have hk0 : Hid (((0 : Int) == 0) = true) := rfl
    have hr2 : Hid (lackP M (s, m, u) = r) := by have h := hr.out; rw [Ex.tru, if_pos rfl] at h; exact h
    clear hr ih
    have MK := Lib.hid trivial
    go_enter Tryz.func57, Tryz.ntmps57
    go_wp2_with (first
      | (clear MK; go_at_call 86; refine (fisAtom_is 0 s m u A n c _ hk0).mono ?_; rintro x W1 ⟨rfl, hb1⟩; have HB1 := Lib.hid (dn1 hb1); have HK2 := Lib.hid (HK1.out.up hb1 (by simp)); have y1 := HK2.out.cell 1 rfl; have y2 := HK2.out.cell 2 rfl; have y3 := HK2.out.cell 3 rfl; clear hb1)
      | (go_at_call 59; refine (lacks_is M Am nm cm s m u _ (HM.out.below HB1.out) hr2).mono ?_; rintro x W2 ⟨rfl, hb2⟩; have HB2 := Lib.hid (nx HB1.out hb2); clear hb2))
    go_ret
    exact ⟨rfl, HB2.out⟩
  · have hr2 : Hid (decide (k ≤ (truL (lackP M) l : Int)) = r) := by have h := hr.out; rw [Ex.tru, if_neg hk] at h; exact h
    have HKR : Hid (KRd (Lo w.heap.size) w A l) := HT.out.2
    have hkb : Hid ((k == 0) = false) := by show _ = _; rw [beq_eq_false_iff_ne]; exact hk
    clear hr HT hk
    go_enter Tryz.func57, Tryz.ntmps57
    go_wp2_with (first
      | (go_at_call 86; refine (fisAtom_is k s m u A n c _ hkb).mono ?_; rintro x W1 ⟨rfl, hb1⟩; have HB1 := Lib.hid (dn1 hb1); have HK2 := Lib.hid (HK1.out.up hb1 (by simp)); have y4 := HK2.out.cell 4 rfl; clear hb1))
    go_loopw [5, 17] (fun q i wr => ∃ (j p : Nat), j ≤ n ∧ p ≤ j ∧ i = .int .i64 j ∧ q = .int .i64 p ∧ Hid (truL (lackP M) (l.take j) = p) ∧ Hid (Below w.heap.size w wr) ∧ Hid (Blk wr w.heap.size [.int .i64 k, .string s, .int .i64 m, .int .i64 u, .slice A n c])) (fun _ i _ => n - (intOf i).toNat)
    case atStart => exact ⟨0, 0, by omega, by omega, rfl, rfl, by show _ = _; simp [truL], HB1.out, HK2.out⟩
    case round =>
      obtain ⟨j, p, hj, hp, rfl, rfl, hH, hB, hK⟩ := hrel
      have q0 := hK.out.cell 0 rfl
      have q4 := hK.out.cell 4 rfl
      by_cases hlt : (j : Int) < (n : Int)
      · have hjl : j < l.length := by have := hn.out; omega
        obtain ⟨g, o, ⟨k1, s1, m1, u1, A1, n1, c1⟩, rfl, hgb, hgs, ⟨z0, z1, z2, z3, z4⟩, hT1⟩ := (HKR.out.lo hB.out).at_ hjl
        have e5 : IntKind.i64.wrap ((j : Int) + 1) = (j : Int) + 1 := by rw [IntKind.wrap_i64]; omega
        have e6 : IntKind.i64.wrap ((p : Int) + 1) = (p : Int) + 1 := by rw [IntKind.wrap_i64]; omega
        have IH := Lib.hid (ih _ (getD_memX hjl))
        have htk := truL_take (p := lackP M) hjl
        rw [hH.out] at htk
        obtain ⟨f, hf⟩ : ∃ f, Hid (l.getD j default = f) := ⟨_, rfl⟩
        rw [hf.out] at IH hT1 htk
        obtain ⟨b, hb⟩ : ∃ b, Hid (f.tru (lackP M) = b) := ⟨_, rfl⟩
        rw [hb.out] at htk
        have HB4 := Lib.hid (nx hB.out (newB wr (.cells #[.int .i64 k1, .string s1, .int .i64 m1, .int .i64 u1, .slice A1 n1 c1] 28)))
        have HT1 : Hid (TIn (Lo (wr.alloc (.cells #[.int .i64 k1, .string s1, .int .i64 m1, .int .i64 u1, .slice A1 n1 c1] 28)).heap.size) (wr.alloc (.cells #[.int .i64 k1, .string s1, .int .i64 m1, .int .i64 u1, .slice A1 n1 c1] 28)) ⟨k1, s1, m1, u1, A1, n1, c1⟩ f) := TIn.grow (hT1.mono (fun b h => Nat.lt_of_lt_of_le h hB.out.size)) _
        have HMr := Lib.hid (HM.out.below HB4.out)
        have HK4 := Lib.hid (hK.out.grow (.cells #[.int .i64 k1, .string s1, .int .i64 m1, .int .i64 u1, .slice A1 n1 c1] 28))
        clear hT1
        cases b with
        | true =>
          have hH2 : Hid (truL (lackP M) (l.take (j + 1)) = p + 1) := by show _ = _; rw [htk, if_pos rfl]
          clear htk
          go_wp2_with (go_at_call 57; refine (IH.out M Am nm cm k1 s1 m1 u1 A1 n1 c1 _ true HT1 HMr hb).mono ?_; rintro x W1 ⟨rfl, hb1⟩; have HB5 := Lib.hid (nx HB4.out hb1); have HK5 := Lib.hid (HK4.out.up hb1 HK4.out.lt); clear hb1)
          exact ⟨⟨j + 1, p + 1, by omega, by omega, by go_num, by go_num, hH2, HB5.out, HK5.out⟩, by simp [intOf]; omega⟩
        | false =>
          have hH2 : Hid (truL (lackP M) (l.take (j + 1)) = p) := by show _ = _; rw [htk, if_neg (by decide)]; rfl
          clear htk
          go_wp2_with (go_at_call 57; refine (IH.out M Am nm cm k1 s1 m1 u1 A1 n1 c1 _ false HT1 HMr hb).mono ?_; rintro x W1 ⟨rfl, hb1⟩; have HB5 := Lib.hid (nx HB4.out hb1); have HK5 := Lib.hid (HK4.out.up hb1 HK4.out.lt); clear hb1)
          exact ⟨⟨j + 1, p, by omega, by omega, by go_num, rfl, hH2, HB5.out, HK5.out⟩, by simp [intOf]; omega⟩
      · have hje : j = n := by omega
        have hend : Hid (decide (k ≤ (p : Int)) = r) := by
          show _ = _
          rw [← hr2.out, ← hH.out, hje, List.take_of_length_le (by rw [hn.out]; exact Nat.le_refl _)]
        clear hr2 hH hje
        go_wp2
        go_ret
        exact ⟨ret_bool (by rw [← hend.out]), hB.out⟩

end Go.Proofs.YtohjllnfnkajjaaGreat
