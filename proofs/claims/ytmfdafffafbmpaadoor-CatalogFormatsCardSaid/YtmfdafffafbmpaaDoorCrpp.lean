/- The reference's way to read a line, plain. -/
import Derived.Test.YtmfdafffafbmpaaDoorCpar
namespace Go.Proofs.YtmfdafffafbmpaaDoor
open Go.RowKit
set_option linter.unusedVariables false
set_option linter.unusedSimpArgs false

/-- The words of a line, cut at single spaces. -/
def wof (x : List UInt8) : List (List UInt8) := (spl 32 x).1 ++ [(spl 32 x).2]
def rdW : List (List UInt8) → Option P4
  | [a, b, c, d] => if a = sLock ∧ c = sAt then Option.map (fun h : Nat => ((mkB b, 1, 1, (h : Int)) : P4)) (numO d) else none
  | [a, b, c, d, e] => if a = sPool ∧ d = sAt then Option.bind (numO c) fun n : Nat => Option.map (fun h : Nat => ((mkB b, 2, (n : Int), (h : Int)) : P4)) (numO e) else none
  | _ => none
theorem rdW_wds {r : P4} (h : RsR r) : rdW (wds r) = some r := by
  obtain ⟨hk, h0, h4⟩ := h.nums
  obtain ⟨s, k, u, hm⟩ := r
  simp only at hk h0 h4
  have n1 := numO_dec (n := hm.toNat) (by omega)
  have e1 : (hm.toNat : Int) = hm := by omega
  rcases hk with ⟨rfl, rfl⟩ | ⟨rfl, hu⟩
  · simp only [wds, if_pos, rdW, mkB_self, n1, and_self, Option.map_some, e1]
  · have n2 := numO_dec (n := u.toNat) (by omega)
    have e2 : (u.toNat : Int) = u := by omega
    simp only [wds, show ¬ (2 : Int) = 1 by omega, if_false, rdW, if_pos, mkB_self, n1, n2, and_self, Option.map_some, Option.bind_some, e1, e2]
def rdL (x : List UInt8) : Option P4 := rdW (wof x)
theorem rdL_line {r : P4} (h : RsR r) : rdL (lnL r) = some r := by
  unfold rdL wof
  rw [spl_line h, rdW_wds h]
theorem good_map {l : List P4} (h : Vcat l) {s : ByteArray} (hs : s = mkB (txtL l)) : (spl 10 s.data.toList).1.map rdL = l.map some := by
  subst hs
  rw [mkB_data, spl_txt h, List.map_map]
  exact List.map_congr_left fun r hr => rdL_line (h.res hr)
theorem rp_fail {s : ByteArray} (h : s.size ≤ 1024) {x : List P4} {e : Int} (hp : PRes s x e) {j : Nat} {p : List UInt8} (hj : (spl 10 s.data.toList).1[j]? = some p) (hn : rdL p = none) : x = [] ∧ e = 6 := by
  rcases hp with ⟨h1, rfl, rfl⟩ | ⟨h1, h2, h3, rfl⟩ | ⟨h1, h2, rfl, rfl⟩
  · omega
  · have := congrArg (fun m => m[j]?) (good_map h2 h3)
    simp only [List.getElem?_map, hj, Option.map_some, hn] at this
    cases hx : x[j]? with
    | none => rw [hx] at this; cases this
    | some r => rw [hx] at this; cases this
  · exact ⟨rfl, rfl⟩
theorem some_inj : ∀ {l m : List P4}, l.map some = m.map some → l = m
  | [], [], _ => rfl
  | [], _ :: _, h => by simp at h
  | _ :: _, [], h => by simp at h
  | a :: l, b :: m, h => by
    simp only [List.map_cons, List.cons.injEq, Option.some.injEq] at h
    rw [h.1, some_inj h.2]
theorem rp_end {s : ByteArray} (h : s.size ≤ 1024) {x : List P4} {e : Int} (hp : PRes s x e) {X : List P4} (hX : (spl 10 s.data.toList).1.map rdL = X.map some) :
    (Vcat X ∧ s = mkB (txtL X) ∧ x = X ∧ e = 0) ∨ (¬ Vcat X ∧ x = [] ∧ e = 6) ∨ (Vcat X ∧ s ≠ mkB (txtL X) ∧ x = [] ∧ e = 6) := by
  rcases hp with ⟨h1, rfl, rfl⟩ | ⟨h1, h2, h3, rfl⟩ | ⟨h1, h2, rfl, rfl⟩
  · omega
  · left
    have : X = x := some_inj (hX.symm.trans (good_map h2 h3))
    subst this
    exact ⟨h2, h3, rfl, rfl⟩
  · by_cases hv : Vcat X
    · exact .inr (.inr ⟨hv, h2 _ hv, rfl, rfl⟩)
    · exact .inr (.inl ⟨hv, rfl, rfl⟩)
/-! ### The reference's Number, decided -/
theorem num_no (s : ByteArray) (w : World) (h : Hid (numO s.data.toList = none)) : Calls Tryd.prog 54 #[.string s] w fun e w' => e = .returned (.tuple #[.int .i64 0, .bool false]) ∧ Below w.heap.size w w' :=
  (number_any s w).mono fun _ _ ⟨n, r, he, hn, hb⟩ => by
    rcases hn with ⟨_, rfl, rfl⟩ | ⟨v, h2, _⟩
    · exact ⟨he, hb⟩
    · rw [h.out] at h2; cases h2
theorem num_yes (s : ByteArray) (w : World) {v : Nat} (h : Hid (numO s.data.toList = some v)) : Calls Tryd.prog 54 #[.string s] w fun e w' => e = .returned (.tuple #[.int .i64 (v : Int), .bool true]) ∧ Below w.heap.size w w' :=
  (number_any s w).mono fun _ _ ⟨n, r, he, hn, hb⟩ => by
    have h1 := h.out
    rcases hn with ⟨h2, _⟩ | ⟨u, h2, rfl, rfl⟩
    · rw [h1] at h2; cases h2
    · rw [h1] at h2
      cases h2
      exact ⟨he, hb⟩

/-! ### The ways of a line -/
theorem wcase (ws : List (List UInt8)) :
    (rdW ws = none ∧ ((¬ (ws.length : Int) = 4 ∧ ¬ (ws.length : Int) = 5) ∨ (∃ a b c d, ws = [a, b, c, d] ∧ a ≠ sLock) ∨ (∃ a b c d e, ws = [a, b, c, d, e] ∧ a ≠ sPool) ∨
      (∃ b c d e, ws = [sPool, b, c, d, e] ∧ numO c = none) ∨ (∃ b c d e n, ws = [sPool, b, c, d, e] ∧ numO c = some n ∧ numO e = none) ∨ (∃ b c d e n h, ws = [sPool, b, c, d, e] ∧ numO c = some n ∧ numO e = some h ∧ d ≠ sAt) ∨
      (∃ b c d, ws = [sLock, b, c, d] ∧ numO d = none) ∨ (∃ b c d h, ws = [sLock, b, c, d] ∧ numO d = some h ∧ c ≠ sAt))) ∨
    (∃ b c e n h, ws = [sPool, b, c, sAt, e] ∧ numO c = some n ∧ numO e = some h ∧ rdW ws = some (mkB b, 2, (n : Int), (h : Int))) ∨
    (∃ b d h, ws = [sLock, b, sAt, d] ∧ numO d = some h ∧ rdW ws = some (mkB b, 1, 1, (h : Int))) := by
  rcases ws with _ | ⟨a, _ | ⟨b, _ | ⟨c, _ | ⟨d, _ | ⟨e, _ | ⟨f, t⟩⟩⟩⟩⟩⟩
  · exact .inl ⟨rfl, .inl (by simp)⟩
  · exact .inl ⟨rfl, .inl (by simp)⟩
  · exact .inl ⟨rfl, .inl (by simp)⟩
  · exact .inl ⟨rfl, .inl (by simp)⟩
  · by_cases ha : a = sLock
    · subst ha
      cases hd : numO d with
      | none => exact .inl ⟨by simp [rdW, hd], .inr (.inr (.inr (.inr (.inr (.inr (.inl ⟨b, c, d, rfl, hd⟩))))))⟩
      | some h =>
        by_cases hc : c = sAt
        · subst hc
          exact .inr (.inr ⟨b, d, h, rfl, hd, by simp [rdW, hd]⟩)
        · exact .inl ⟨by simp [rdW, hc], .inr (.inr (.inr (.inr (.inr (.inr (.inr ⟨b, c, d, h, rfl, hd, hc⟩))))))⟩
    · exact .inl ⟨by simp [rdW, ha], .inr (.inl ⟨a, b, c, d, rfl, ha⟩)⟩
  · by_cases ha : a = sPool
    · subst ha
      cases hc : numO c with
      | none => exact .inl ⟨by simp [rdW, hc], .inr (.inr (.inr (.inl ⟨b, c, d, e, rfl, hc⟩)))⟩
      | some n =>
        cases he : numO e with
        | none => exact .inl ⟨by simp [rdW, he], .inr (.inr (.inr (.inr (.inl ⟨b, c, d, e, n, rfl, hc, he⟩))))⟩
        | some h =>
          by_cases hd : d = sAt
          · subst hd
            exact .inr (.inl ⟨b, c, e, n, h, rfl, hc, he, by simp [rdW, hc, he]⟩)
          · exact .inl ⟨by simp [rdW, hd], .inr (.inr (.inr (.inr (.inr (.inl ⟨b, c, d, e, n, h, rfl, hc, he, hd⟩)))))⟩
    · exact .inl ⟨by simp [rdW, ha], .inr (.inr (.inl ⟨a, b, c, d, e, rfl, ha⟩))⟩
  · exact .inl ⟨by simp [rdW], .inl (by simp; omega)⟩

/-! ### Split, by the list it hands back -/
theorem piece_len (d : UInt8) (l : List UInt8) {p : List UInt8} (h : p ∈ (spl d l).1) : p.length ≤ l.length := by
  have hz := congrArg List.length (jn_spl d l)
  have h2 : ∀ (ps : List (List UInt8)), p ∈ ps → p.length ≤ ((ps.map (· ++ [d])).flatten).length := by
    intro ps
    induction ps with
    | nil => intro hx; cases hx
    | cons q r ih =>
      intro hx
      rw [List.map_cons, List.flatten_cons, List.length_append]
      rcases List.mem_cons.1 hx with rfl | hx
      · simp; omega
      · have := ih hx; omega
  have := h2 _ h
  unfold jn at hz
  rw [List.length_append] at hz
  omega
theorem wof_len (x : List UInt8) : (wof x).length = (spl 32 x).1.length + 1 := by simp [wof]
theorem words_is (s : ByteArray) (hs : s.size ≤ 1024) (w : World) {ws : List (List UInt8)} (hw : Hid (wof s.data.toList = ws)) {n : Nat} (hn : Hid (ws.length = n)) :
    Calls Tryd.prog 53 #[.string s, .int .u8 32] w fun e w' => ∃ g c, e = .returned (.slice (some ⟨g, 0, none⟩) n c) ∧ (∀ i x, ws[i]? = some x → w'.cell? ⟨g, i, none⟩ = some (.string (mkB x))) ∧ g < w'.heap.size ∧ w.heap.size ≤ g ∧ Below w.heap.size w w' := by
  refine (split_walk 32 32 rfl s hs w).mono fun e w' ⟨g, m, cap, he, hm, ho, hb⟩ => ?_
  have hnm : n = m + 1 := by rw [← hn.out, ← hw.out, wof_len, hm]
  subst hnm
  obtain ⟨h1, h2⟩ := ho.lt g rfl
  refine ⟨g, cap, he, fun i x hi => ?_, h2, h1, hb⟩
  have hlt : i < m + 1 := by rw [← hn.out]; exact (List.getElem?_eq_some_iff.1 hi).1
  have := ho.cellAt i (by omega)
  rw [this]
  have h3 : strs (spl 32 s.data.toList) = (wof s.data.toList).map fun x => Value.string (mkB x) := rfl
  rw [h3, hw.out, List.getElem?_map, hi]
  rfl
theorem cut_is (s : ByteArray) (hs : s.size ≤ 1024) (w : World) {ps : List (List UInt8)} (hw : Hid ((spl 10 s.data.toList).1 = ps)) {n : Nat} (hn : Hid (ps.length = n)) :
    Calls Tryd.prog 53 #[.string s, .int .u8 10] w fun e w' => ∃ g c, e = .returned (.slice (some ⟨g, 0, none⟩) (n + 1) c) ∧ (∀ i x, ps[i]? = some x → w'.cell? ⟨g, i, none⟩ = some (.string (mkB x))) ∧ g < w'.heap.size ∧ w.heap.size ≤ g ∧ Below w.heap.size w w' := by
  refine (split_walk 10 10 rfl s hs w).mono fun e w' ⟨g, m, cap, he, hm, ho, hb⟩ => ?_
  have hnm : n = m := by rw [← hn.out, ← hw.out, hm]
  subst hnm
  obtain ⟨h1, h2⟩ := ho.lt g rfl
  refine ⟨g, cap, he, fun i x hi => ?_, h2, h1, hb⟩
  have hlt : i < n := by rw [← hn.out]; exact (List.getElem?_eq_some_iff.1 hi).1
  have := ho.cellAt i (by omega)
  rw [this, strs, hw.out, List.getElem?_map, List.getElem?_append_left (by rw [hn.out]; exact hlt), hi]
  rfl
theorem mkB_list (a : List UInt8) : (mkB a).toList = a := by
  show (⟨a.toArray⟩ : ByteArray).toList = a
  rw [ByteArray.toList_mk]
theorem word_no {a b : List UInt8} (h : a ≠ b) : ((mkB a).toList == b) = false := by
  rw [mkB_list]
  simpa using h
end Go.Proofs.YtmfdafffafbmpaaDoor
