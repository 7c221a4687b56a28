/- Contract: parseLine at every line; what Parse answers. -/
import Derived.Test.YtmfdafffafbmpaaDoorCpm
import Derived.Test.YtmfdafffafbmpaaDoorClin
import Derived.Test.YtmfdafffafbmpaaDoorCrfm
namespace Go.Proofs.YtmfdafffafbmpaaDoor
open Go.RowKit
set_option linter.unusedVariables false
set_option linter.unusedSimpArgs false

theorem fgoD_len : ∀ (f : Nat) (cur l : List UInt8), ∀ x ∈ Lib.fieldsGoD f cur l, x.length ≤ cur.length + l.length
  | 0, cur, l, x, hx => by
    rw [Lib.fieldsGoD] at hx
    split at hx
    · cases hx
    · simp only [List.mem_singleton] at hx; subst hx; omega
  | f + 1, cur, l, x, hx => by
    rw [Lib.fieldsGoD] at hx
    split at hx
    · split at hx
      · cases hx
      · simp only [List.mem_singleton] at hx; subst hx; omega
    · split at hx
      · rcases List.mem_append.1 hx with hx | hx
        · split at hx
          · cases hx
          · simp only [List.mem_singleton] at hx; subst hx; omega
        · have := fgoD_len f _ _ x hx
          rw [List.length_drop] at this
          simp at this
          omega
      · have := fgoD_len f _ _ x hx
        rw [List.length_drop, List.length_append, List.length_take] at this
        omega
theorem fD_len {l : List UInt8} {x : List UInt8} (h : x ∈ Lib.fieldsD l) : x.length ≤ l.length := by
  have := fgoD_len _ _ _ x h
  simpa using this
theorem lineL_ascii {r : P4} (h : RsR r) : ∀ b ∈ lineL r, b.toNat < 128 := by
  obtain ⟨hk, h0, h4⟩ := h.nums
  have wn := (wrd_nam h.1).2
  have wh := (wrd_dec (n := r.2.2.2.toNat) (by omega)).2
  have w1 := wrd_lock.2
  have w2 := wrd_pool.2
  have w3 := wrd_at.2
  intro b hb
  unfold lineL lnL at hb
  rcases hk with ⟨hk, hu⟩ | ⟨hk, hu⟩
  · rw [if_pos hk] at hb
    simp only [List.mem_append, List.mem_cons, List.not_mem_nil, or_false] at hb
    rcases hb with (hb | hb | hb | hb | hb | hb | hb) | hb
    all_goals first | (rw [hb]; decide) | (have := w1 b hb; omega) | (have := wn b hb; omega) | (have := w3 b hb; omega) | (have := wh b hb; omega)
  · rw [if_neg (by omega)] at hb
    have wu := (wrd_dec (n := r.2.2.1.toNat) (by omega)).2
    simp only [List.mem_append, List.mem_cons, List.not_mem_nil, or_false] at hb
    rcases hb with (hb | hb | hb | hb | hb | hb | hb | hb | hb) | hb
    all_goals first | (rw [hb]; decide) | (have := w2 b hb; omega) | (have := wn b hb; omega) | (have := w3 b hb; omega) | (have := wh b hb; omega) | (have := wu b hb; omega)
theorem plF_line {r : P4} (h : RsR r) : plF (lineL r) = r := by
  unfold plF
  rw [Lib.fieldsD_ascii _ (lineL_ascii h), fields_line h, plW_wds h]
theorem parse_is (s : ByteArray) (hs : s.size ≤ 100000) (w : World) (hV : VP w) {r : P4} (hr : Hid (plF s.data.toList = r)) :
    Calls Tryd.prog 52 #[.string s] w fun e w' => e = .returned (rv r) ∧ Below w.heap.size w w' := by
  have hr' := hr.out
  subst hr'
  have hlen : ∀ x ∈ Lib.fieldsD s.data.toList, x.length ≤ 100000 := fun x hx => by
    have := fD_len hx
    have h2 : s.data.toList.length = s.size := by simp
    omega
  unfold plF
  rcases h : Lib.fieldsD s.data.toList with _ | ⟨a, _ | ⟨b, _ | ⟨c, _ | ⟨d, _ | ⟨e, _ | ⟨f, t⟩⟩⟩⟩⟩⟩
  · exact parse0 s hs w hV h rfl (by simp) (by simp)
  · exact parse0 s hs w hV h rfl (by simp) (by simp)
  · exact parse0 s hs w hV h rfl (by simp) (by simp)
  · exact parse0 s hs w hV h rfl (by simp) (by simp)
  · rw [h] at hlen
    exact parse4 s hs w hV h (hlen _ (by simp)) rfl
  · rw [h] at hlen
    exact parse5 s hs w hV h (hlen _ (by simp)) (hlen _ (by simp)) rfl rfl
  · exact parse0 s hs w hV h rfl (by simp; omega) (by simp; omega)

/-! ### What Parse answers -/
def PRes (s : ByteArray) (x : List P4) (e : Int) : Prop :=
  (1024 < s.size ∧ x = [] ∧ e = 3) ∨ (s.size ≤ 1024 ∧ Vcat x ∧ s = mkB (txtL x) ∧ e = 0) ∨ (s.size ≤ 1024 ∧ (∀ l, Vcat l → s ≠ mkB (txtL l)) ∧ x = [] ∧ e = 6)
theorem pres_ex (s : ByteArray) : ∃ x e, Hid (PRes s x e) := by
  by_cases h : 1024 < s.size
  · exact ⟨_, _, .inl ⟨h, rfl, rfl⟩⟩
  · by_cases h2 : ∃ l, Vcat l ∧ s = mkB (txtL l)
    · obtain ⟨l, h3, h4⟩ := h2
      exact ⟨l, _, .inr (.inl ⟨by omega, h3, h4, rfl⟩)⟩
    · exact ⟨_, _, .inr (.inr ⟨by omega, fun l h3 h4 => h2 ⟨l, h3, h4⟩, rfl, rfl⟩)⟩
/-- What the program collects. -/
def prg (s : ByteArray) : List P4 := ((lns s.data.toList).map mkB).map fun x => plF x.data.toList
theorem prg_txt {l : List P4} (h : Vcat l) {s : ByteArray} (hs : s = mkB (txtL l)) : prg s = l := by
  subst hs
  unfold prg
  rw [mkB_data, lns_txt h, List.map_map, List.map_map]
  have : ∀ r ∈ l, (((fun x : ByteArray => plF x.data.toList) ∘ mkB) ∘ lineL) r = r := fun r hr => by
    simp only [Function.comp, mkB_data]
    exact plF_line (h.res hr)
  rw [List.map_congr_left this, List.map_id']
theorem txt_inj {l m : List P4} (h : Vcat l) (k : Vcat m) (e : txtL l = txtL m) : l = m := by
  rw [← prg_txt h rfl, ← prg_txt k rfl, e]
theorem PRes.uniq {s : ByteArray} {x y : List P4} {e f : Int} (h : PRes s x e) (k : PRes s y f) : x = y ∧ e = f := by
  rcases h with ⟨h1, rfl, rfl⟩ | ⟨h1, h2, h3, rfl⟩ | ⟨h1, h2, rfl, rfl⟩ <;> rcases k with ⟨k1, rfl, rfl⟩ | ⟨k1, k2, k3, rfl⟩ | ⟨k1, k2, rfl, rfl⟩
  · exact ⟨rfl, rfl⟩
  · omega
  · omega
  · omega
  · exact ⟨txt_inj h2 k2 (by have := congrArg (fun b : ByteArray => b.data.toList) (h3.symm.trans k3); simpa [mkB_data] using this), rfl⟩
  · exact absurd h3 (k2 _ h2)
  · omega
  · exact absurd k3 (h2 _ k2)
  · exact ⟨rfl, rfl⟩
theorem prg_len (s : ByteArray) : (prg s).length ≤ s.size + 1 := by
  unfold prg
  rw [List.length_map, List.length_map]
  have := (lns_sizes s.data.toList).1
  simpa using this
/-- The program's comparison, decided. -/
theorem prg_cases {s : ByteArray} (h : s.size ≤ 1024) {x : List P4} {e : Int} (hp : PRes s x e) {r : ByteArray} (hr : Fmt (prg s) r) : (r = s ∧ x = prg s ∧ e = 0) ∨ (r ≠ s ∧ x = [] ∧ e = 6) := by
  rcases hp with ⟨h1, rfl, rfl⟩ | ⟨h1, h2, h3, rfl⟩ | ⟨h1, h2, rfl, rfl⟩
  · omega
  · left
    have := prg_txt h2 h3
    rw [this] at hr ⊢
    rcases hr with ⟨_, rfl⟩ | ⟨hn, _⟩
    · exact ⟨h3.symm, rfl, rfl⟩
    · exact absurd h2 hn
  · right
    refine ⟨fun hrs => ?_, rfl, rfl⟩
    rcases hr with ⟨hv, rfl⟩ | ⟨hn, rfl⟩
    · exact h2 _ hv hrs.symm
    · subst hrs
      exact h2 [] Vcat.nil rfl
end Go.Proofs.YtmfdafffafbmpaaDoor
