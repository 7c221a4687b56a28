/- strings.Lines: the iterator that it hands back, walked. -/
import Derived.Test.YtmfdafffafbmpaaDoorCrng
import Derived.Test.YtmfdafffafbmpaaDoorCstr
import Derived.Shelf.Abstract
import Derived.Shelf.RegionOpen
import Derived.OwnWalkIn
import Derived.TacticsInMore
import Derived.LoopNIn
import Derived.LoopIn
namespace Go.Proofs.YtmfdafffafbmpaaDoor
open Go.RowKit Go.Shelf
set_option linter.unusedVariables false
set_option linter.unusedSimpArgs false
attribute [local go_sem] Oper.semAt_some

/-! ### The lines of a text, plain -/
theorem fold_init (d : UInt8) : ∀ (r : List UInt8) (i : List (List UInt8)) (c : List UInt8), r.foldl (stp d) (i, c) = (i ++ (r.foldl (stp d) ([], c)).1, (r.foldl (stp d) ([], c)).2)
  | [], i, c => by simp
  | b :: r, i, c => by
    rw [List.foldl_cons, List.foldl_cons]
    unfold stp
    by_cases h : b = d
    · simp only [if_pos h]
      rw [show (r.foldl (fun (st : List (List UInt8) × List UInt8) c => if c = d then (st.1 ++ [st.2], []) else (st.1, st.2 ++ [c])) (i ++ [c], [])) = r.foldl (stp d) (i ++ [c], []) from rfl,
        show (r.foldl (fun (st : List (List UInt8) × List UInt8) c => if c = d then (st.1 ++ [st.2], []) else (st.1, st.2 ++ [c])) ([] ++ [c], [])) = r.foldl (stp d) ([] ++ [c], []) from rfl,
        fold_init d r (i ++ [c]) [], fold_init d r ([] ++ [c]) []]
      simp
    · simp only [if_neg h]
      exact fold_init d r i (c ++ [b])
/-- The lines of a text, each with its end. -/
def lns (l : List UInt8) : List (List UInt8) := (spl 10 l).1.map (· ++ [10]) ++ (if (spl 10 l).2 = [] then [] else [(spl 10 l).2])
theorem lns_nil : lns [] = [] := rfl
theorem lns_cons {x r : List UInt8} (h : (10 : UInt8) ∉ x) : lns (x ++ 10 :: r) = (x ++ [10]) :: lns r := by
  unfold lns
  have : spl 10 (x ++ 10 :: r) = (x :: (spl 10 r).1, (spl 10 r).2) := by
    unfold spl
    rw [spl_cut 10 x r [] h, fold_init]
    simp
  rw [this]
  simp
theorem lns_last {x : List UInt8} (h : (10 : UInt8) ∉ x) (h0 : x ≠ []) : lns x = [x] := by
  unfold lns
  have : spl 10 x = ([], x) := spl_last 10 x [] h
  rw [this]
  simp [h0]
theorem index_cases (l : List UInt8) : ((10 : UInt8) ∉ l ∧ Lib.indexByte l 10 = -1) ∨ ∃ x r, l = x ++ 10 :: r ∧ (10 : UInt8) ∉ x ∧ Lib.indexByte l 10 = x.length := by
  induction l with
  | nil => exact .inl ⟨by simp, rfl⟩
  | cons b r ih =>
    by_cases hb : b = 10
    · subst hb
      exact .inr ⟨[], r, rfl, by simp, by unfold Lib.indexByte; simp⟩
    · rcases ih with ⟨h1, h2⟩ | ⟨x, y, rfl, h2, h3⟩
      · left
        refine ⟨by simp [h1]; exact fun e => hb e.symm, ?_⟩
        unfold Lib.indexByte
        rw [if_neg (by simpa using hb), h2]
        rfl
      · right
        refine ⟨b :: x, y, rfl, by simp [h2]; exact fun e => hb e.symm, ?_⟩
        unfold Lib.indexByte
        rw [if_neg (by simpa using hb), h3]
        have : ¬ ((x.length : Int) == -1) = true := by intro e; have := beq_iff_eq.1 e; omega
        rw [if_neg this]
        simp
theorem lns_txt {l : List P4} (h : Vcat l) : lns (txtL l) = l.map lineL := by
  unfold lns
  rw [spl_txt h]
  simp [lineL, Function.comp]
theorem lns_sizes (s : List UInt8) : (lns s).length ≤ s.length + 1 ∧ ∀ x ∈ lns s, x.length ≤ s.length := by
  have hj := jn_spl 10 s
  have hl := spl_len 10 s
  have h2 : ∀ (ps : List (List UInt8)) (x : List UInt8), x ∈ ps.map (· ++ [10]) → x.length ≤ ((ps.map (· ++ [10])).flatten).length := by
    intro ps
    induction ps with
    | nil => intro x hx; simp at hx
    | cons p r ih =>
      intro x hx
      simp only [List.map_cons, List.mem_cons] at hx
      rw [List.map_cons, List.flatten_cons, List.length_append]
      rcases hx with rfl | hx
      · omega
      · have := ih x hx; omega
  have hz := congrArg List.length hj
  unfold jn at hz
  rw [List.length_append] at hz
  unfold lns
  constructor
  · rw [List.length_append, List.length_map]
    split <;> simp <;> omega
  · intro x hx
    rcases List.mem_append.1 hx with hx | hx
    · have := h2 _ x hx; omega
    · split at hx
      · cases hx
      · simp at hx; subst hx; omega

/-- What the iterator does to the heap between two rounds: it sets its own cell. -/
def Sets (b : Nat) (A B : World) : Prop := (∃ v, B = A.setCell ⟨b, 0, none⟩ v) ∨ ∃ v, B = (A.setCell ⟨b, 0, none⟩ v).drew
/-- What a round keeps: the iterator's cell. -/
def KeepC (b : Nat) (A B : World) : Prop := ∀ v, A.cell? ⟨b, 0, none⟩ = some v → A.frozen? ⟨b, 0, none⟩ = false → B.cell? ⟨b, 0, none⟩ = some v ∧ B.frozen? ⟨b, 0, none⟩ = false
theorem indexB (s : ByteArray) (W : World) {i : Int} (hi : Hid (Lib.indexByte s.data.toList 10 = i)) : Calls Tryd.prog 66 #[.string s, .int .u8 10] W fun e w' => e = .returned (.int .i64 i) ∧ W = w' := by
  rw [← hi.out]
  exact (Tryd.strings_IndexByte s 10 W).mono fun _ _ ⟨he, hw⟩ => ⟨he, hw.symm⟩
theorem ex_front {s : ByteArray} {x r : List UInt8} (h : s.data.toList = x ++ r) : s.extract 0 x.length = mkB x := by
  apply ByteArray.ext
  apply Array.toList_inj.1
  simp [mkB, h]
theorem ex_back {s : ByteArray} {x r : List UInt8} (h : s.data.toList = x ++ r) : s.extract x.length s.size = mkB r := by
  have hs : s.size = x.length + r.length := by
    have := congrArg List.length h
    simp at this
    omega
  apply ByteArray.ext
  apply Array.toList_inj.1
  simp [mkB, h, hs]
set_option maxHeartbeats 4000000 in
set_option maxRecDepth 100000 in
theorem lines_walk (n : Nat) (hn : 1 ≤ n) (l b : Nat) (s0 : ByteArray) (hs0 : s0.size ≤ 100000) (J : List ByteArray → World → Prop) (hJ : ∀ pre A B, J pre A → Sets b A B → J pre B)
    (hY : ∀ pre x W, J pre W → x.size ≤ s0.size ∧ pre.length < (lns s0.data.toList).length → YieldAt Fence.wide (n - 1) Tryd.prog l #[.string x] W fun e W' => e = .returned (.bool true) ∧ J (pre ++ [x]) W' ∧ KeepC b W W')
    (W : World) (hb : W.cell? ⟨b, 0, none⟩ = some (.string s0)) (hf : W.frozen? ⟨b, 0, none⟩ = false) (h0 : J [] W) :
    CallsIn Fence.wide n Tryd.prog 65 #[.func (.yield l) #[] #[], .pointer (some ⟨b, 0, none⟩)] W fun e W' => (∃ v, e = .returned v) ∧ J ((lns s0.data.toList).map mkB) W' := by
  refine callsIn_of_wp Tryd.func65 rfl trivial ?_ rfl
  simp only [Tryd.ntmps65, List.size_toArray, List.length_cons, List.length_nil, Nat.reduceAdd, Nat.reduceSub, Array.replicate_succ, Array.replicate_zero, List.push_toArray, List.append_toArray, List.nil_append, List.cons_append]
  gi_wp2
  gi_loopw [3, 4] (fun p q wr => ∃ (pre : List ByteArray) (T : ByteArray), Hid ((lns s0.data.toList).map mkB = pre ++ (lns T.data.toList).map mkB) ∧ T.size ≤ s0.size ∧ J pre wr ∧ wr.cell? ⟨b, 0, none⟩ = some (.string T) ∧ wr.frozen? ⟨b, 0, none⟩ = false)
    (fun _ _ wr => match wr.cell? ⟨b, 0, none⟩ with | some (.string T) => T.size | _ => 0)
  case atStart => exact ⟨[], s0, rfl, Nat.le_refl _, h0, hb, hf⟩
  case round =>
    obtain ⟨pre, T, hx, hT, hJs, hc, hfz⟩ := hrel
    by_cases hz : (T.size : Int) = 0
    · have hT0 : T.data.toList = [] := by
        apply List.eq_nil_of_length_eq_zero
        have : T.data.toList.length = T.size := by simp
        omega
      have hend : Hid ((lns s0.data.toList).map mkB = pre) := by have := hx.out; rw [hT0, lns_nil, List.map_nil, List.append_nil] at this; exact this
      gi_wp2
      go_end0
      exact ⟨⟨_, rfl⟩, by rw [hend.out]; exact hJs⟩
    · have hz2 : (0 : Int) < (T.size : Int) := by omega
      have hTl : T.data.toList.length = T.size := by simp
      rcases index_cases T.data.toList with ⟨hno, hi⟩ | ⟨x, r, hxr, hno, hi⟩
      · have hI : Hid (Lib.indexByte T.data.toList 10 = -1) := hi
        have hnx : Hid ((lns s0.data.toList).map mkB = (pre ++ [T]) ++ (lns (⟨#[]⟩ : ByteArray).data.toList).map mkB) := by
          show _ = _
          rw [hx.out, lns_last hno (fun e => by rw [e] at hTl; simp at hTl; omega)]
          simp [lns_nil, mkB_self]
        have hJ2 := hJ _ _ (wr.setCell ⟨b, 0, none⟩ (.string ⟨#[]⟩)) hJs (.inl ⟨_, rfl⟩)
        obtain ⟨fn, tmps, assign, body, hy, hR⟩ := hY pre T _ hJ2 ⟨hT, by have := congrArg List.length hnx.out; simp at this; omega⟩
        have HR := Lib.hid hR
        have hk : (wr.setCell ⟨b, 0, none⟩ (.string ⟨#[]⟩)).cell? ⟨b, 0, none⟩ = some (.string ⟨#[]⟩) ∧ (wr.setCell ⟨b, 0, none⟩ (.string ⟨#[]⟩)).frozen? ⟨b, 0, none⟩ = false := ⟨World.cell?_setCell_same' _ _ _ (by rw [hc]; rfl), by rw [World.frozen?_setCell]; exact hfz⟩
        have HK := Lib.hid hk
        clear hi hTl hR hk hz
        gi_wp2_with (first | (refine ⟨trivial, ?_⟩; gi_at_call 66; refine (callsIn_wide.2 (indexB _ _ hI)).mono ?_; rintro e w' ⟨rfl, rfl⟩))
        refine HR.out.mono ?_
        rintro e W3 ⟨rfl, hJ3, hk3⟩
        obtain ⟨k1, k2⟩ := hk3 _ HK.out.1 HK.out.2
        gi_wp2
        go_roundw
        case rel => exact ⟨pre ++ [T], ⟨#[]⟩, hnx, by show 0 ≤ _; omega, hJ3, k1, k2⟩
        case measure => rw [k1, hc]; have : (⟨#[]⟩ : ByteArray).size = 0 := rfl; simp; omega
      · have hI : Hid (Lib.indexByte T.data.toList 10 = (x.length : Int)) := hi
        obtain ⟨L, hL⟩ : ∃ L, Hid (mkB (x ++ [10]) = L) := ⟨_, Lib.hid rfl⟩
        obtain ⟨R, hRR⟩ : ∃ R, Hid (mkB r = R) := ⟨_, Lib.hid rfl⟩
        have hsz : T.size = x.length + 1 + r.length := by rw [← hTl, hxr]; simp; omega
        have hLs : L.size ≤ s0.size := by rw [← hL.out, mkB_size, List.length_append, List.length_singleton]; omega
        have hRs : R.size < T.size := by rw [← hRR.out, mkB_size]; omega
        have hxr2 : T.data.toList = (x ++ [10]) ++ r := by rw [hxr]; simp
        have e1 : IntKind.i64.wrap ((x.length : Int) + 1) = (x.length : Int) + 1 := by rw [IntKind.wrap_i64]; omega
        have e2 : 0 ≤ (x.length : Int) + 1 := by omega
        have hs1 : ∀ W : World, (Instr.slice 9 (.string T) none (some (.int .i64 ((x.length : Int) + 1))) none).run Tryd.prog W = .ok (.string L) W := fun W => by
          rw [run_slice_string_to_if (P := Tryd.prog) W 9 T .i64 ((x.length : Int) + 1) Tryd.underlying9, if_pos (by omega), ← hL.out, ← ex_front hxr2]
          simp
        have hs2 : ∀ W : World, (Instr.slice 9 (.string T) (some (.int .i64 ((x.length : Int) + 1))) none none).run Tryd.prog W = .ok (.string R) W := fun W => by
          rw [run_slice_string_from_if (P := Tryd.prog) W 9 T .i64 ((x.length : Int) + 1) Tryd.underlying9, if_pos (by omega), ← hRR.out, ← ex_back hxr2]
          simp
        have hnx : Hid ((lns s0.data.toList).map mkB = (pre ++ [L]) ++ (lns R.data.toList).map mkB) := by
          show _ = _
          rw [hx.out, hxr, lns_cons hno, ← hL.out, ← hRR.out, mkB_data]
          simp
        have hJ2 := hJ _ _ (wr.setCell ⟨b, 0, none⟩ (.string R)).drew hJs (.inr ⟨_, rfl⟩)
        obtain ⟨fn, tmps, assign, body, hy, hR⟩ := hY pre L _ hJ2 ⟨hLs, by have := congrArg List.length hnx.out; simp at this; omega⟩
        have HR := Lib.hid hR
        have hk : (wr.setCell ⟨b, 0, none⟩ (.string R)).drew.cell? ⟨b, 0, none⟩ = some (.string R) ∧ (wr.setCell ⟨b, 0, none⟩ (.string R)).drew.frozen? ⟨b, 0, none⟩ = false := ⟨World.cell?_setCell_same' _ _ _ (by rw [hc]; rfl), by show (wr.setCell _ _).frozen? _ = false; rw [World.frozen?_setCell]; exact hfz⟩
        have HK := Lib.hid hk
        have HT := Lib.hid hRs
        clear hi hTl hR hk hz hxr hxr2 hsz hLs hRs
        gi_wp2_with (first | (refine ⟨trivial, ?_⟩; gi_at_call 66; refine (callsIn_wide.2 (indexB _ _ hI)).mono ?_; rintro e w' ⟨rfl, rfl⟩))
        gi_region
        all_goals gi_wp2
        all_goals (
          refine HR.out.mono ?_
          rintro e W3 ⟨rfl, hJ3, hk3⟩
          obtain ⟨k1, k2⟩ := hk3 _ HK.out.1 HK.out.2
          gi_wp2
          go_roundw
          case rel => exact ⟨pre ++ [L], R, hnx, by have := HT.out; omega, hJ3, k1, k2⟩
          case measure => rw [k1, hc]; have := HT.out; simp; omega)
end Go.Proofs.YtmfdafffafbmpaaDoor
