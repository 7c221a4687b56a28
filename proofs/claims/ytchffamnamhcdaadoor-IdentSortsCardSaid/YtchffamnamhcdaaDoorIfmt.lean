/- Contracts: strconv.Itoa at small numbers, FormatProc. -/
import Derived.Test.YtchffamnamhcdaaDoorIsmall
import Derived.Test.YtchffamnamhcdaaDoorItext
namespace Go.Proofs.YtchffamnamhcdaaDoor
open Go.RowKit

/-- The library's table of powers of ten, as its initialiser lays it. -/
def Tab (w : World) : Prop := Lib.TabIs Tryd.prog w "internal/strconv.uint64pow10" .u64 Lib.pow10Tab
theorem var_below {P : Program} {w w' : World} {name : String} {cs : Array Value} (h : w.var? P name = some cs) (hb : Below w.heap.size w w') : w'.var? P name = some cs := by
  unfold World.var? at *
  cases hg : P.globalNamed name with
  | none => simp [hg] at h
  | some g =>
    simp only [hg, Option.bind_some] at h ⊢
    have hlt : g < w.heap.size := by
      rcases Nat.lt_or_ge g w.heap.size with h' | h'
      · exact h'
      · rw [Array.getElem?_eq_none h'] at h; cases h
    rw [hb.block g hlt]
    exact h
theorem Tab.below {w w' : World} (h : Tab w) (hb : Below w.heap.size w w') : Tab w' := var_below h hb

theorem itoa_is (n : Int) (w : World) (h0 : 0 ≤ n) (h1 : n < 1000) (hT : 100 ≤ n → Tab w) :
    Calls Tryd.prog 43 #[.int .i64 n] w fun e w' => e = .returned (.string (mkB (dec n.toNat))) ∧ Gro w w' := by
  by_cases h : n < 100
  · obtain ⟨m, rfl⟩ := Int.eq_ofNat_of_zero_le h0
    exact (Tryd.strconv_Itoa_small m (by omega) w).mono fun _ _ ⟨he, hw⟩ => ⟨he, hw ▸ Gro.refl _⟩
  · refine (Tryd.strconv_Itoa n (by omega) (by omega) w (hT (by omega))).mono fun _ _ ⟨he, hw⟩ => ⟨he.trans ?_, hw⟩
    rw [Lib.itoa, if_neg (by omega)]
    rfl

theorem itoa_str (n : Int) (w : World) (h0 : 0 ≤ n) (h1 : n < 1000) (hT : 100 ≤ n → Tab w) {A : ByteArray} (hA : Hid (mkB (dec n.toNat) = A)) :
    Calls Tryd.prog 43 #[.int .i64 n] w fun e w' => e = .returned (.string A) ∧ Gro w w' := by
  have h' := hA.out
  subst h'
  exact itoa_is n w h0 h1 hT

theorem box3 {w W : World} {T : TypeId} {a b c : Value} (h : Below (w.alloc (.cells #[a, b, c] T)).heap.size (w.alloc (.cells #[a, b, c] T)) W) :
    W.cell? ⟨w.heap.size, 0, none⟩ = some a ∧ W.cell? ⟨w.heap.size, 1, none⟩ = some b ∧ W.cell? ⟨w.heap.size, 2, none⟩ = some c := by
  have e : ∀ p : Addr, p.block < w.heap.size + 1 → W.cell? p = (w.alloc (.cells #[a, b, c] T)).cell? p := fun p hp => h.cell (by simp; omega)
  refine ⟨?_, ?_, ?_⟩ <;> rw [e _ (by simp)] <;> simp
theorem box3G {w W : World} {T : TypeId} {a b c : Value} (h : Gro (w.alloc (.cells #[a, b, c] T)) W) :
    Gro (w.alloc (.cells #[a, b, c] T)) W ∧ W.cell? ⟨w.heap.size, 0, none⟩ = some a ∧ W.cell? ⟨w.heap.size, 1, none⟩ = some b ∧ W.cell? ⟨w.heap.size, 2, none⟩ = some c := ⟨h, box3 h.below⟩

theorem join3 (x y z : List UInt8) : (((mkB x ++ ⟨#[46]⟩) ++ mkB y) ++ ⟨#[46]⟩) ++ mkB z = mkB (x ++ 46 :: (y ++ 46 :: z)) := by
  apply ByteArray.ext
  apply Array.toList_inj.1
  simp [mkB]

theorem format_no (a b c : Int) (w : World) (h : Hid (vpB a b c = false)) :
    Calls Tryd.prog 23 #[.agg #[.int .i64 a, .int .i64 b, .int .i64 c]] w fun e w' => e = .returned (.string ⟨#[]⟩) ∧ Gro w w' := by
  go_enter Tryd.func23, Tryd.ntmps23
  go_wp2_with (go_at_call 15; refine (valid_is _ _ _ _ h).mono ?_; rintro e W1 ⟨rfl, hg1⟩)
  go_ret
  exact ⟨rfl, ((Gro.refl _).alloc _).trans hg1⟩

set_option maxHeartbeats 400000 in
theorem format_yes (a b c : Int) (w : World) (h : Hid (vpB a b c = true)) (hT : 100 ≤ c → Tab w) :
    Calls Tryd.prog 23 #[.agg #[.int .i64 a, .int .i64 b, .int .i64 c]] w fun e w' => e = .returned (.string (mkB (fmtP a b c))) ∧ Gro w w' := by
  obtain ⟨b1, b2, b3, b4, b5, b6⟩ := vpB_true h.out
  have g0 : Gro w (w.alloc (.cells #[.int .i64 a, .int .i64 b, .int .i64 c] 23)) := (Gro.refl w).alloc _
  have HT : Hid (∀ W, Gro (w.alloc (.cells #[.int .i64 a, .int .i64 b, .int .i64 c] 23)) W → 100 ≤ c → Tab W) := fun W hW hc => (hT hc).below (g0.trans hW).below
  clear hT
  obtain ⟨A, hA⟩ : ∃ A, Hid (mkB (dec a.toNat) = A) := ⟨_, rfl⟩
  obtain ⟨B, hB⟩ : ∃ B, Hid (mkB (dec b.toNat) = B) := ⟨_, rfl⟩
  obtain ⟨C, hC⟩ : ∃ C, Hid (mkB (dec c.toNat) = C) := ⟨_, rfl⟩
  have sA : A.size ≤ 3 := by rw [← hA.out, mkB_size]; exact (dec_len (by omega)).2
  have sB : B.size ≤ 3 := by rw [← hB.out, mkB_size]; exact (dec_len (by omega)).2
  have sC : C.size ≤ 3 := by rw [← hC.out, mkB_size]; exact (dec_len (by omega)).2
  have n1 : ¬ 9223372036854775807 < A.size + 1 := by omega
  have n2 : ¬ 9223372036854775807 < A.size + 1 + B.size := by omega
  have n3 : ¬ 9223372036854775807 < A.size + 1 + B.size + 1 := by omega
  have n4 : ¬ 9223372036854775807 < A.size + 1 + B.size + 1 + C.size := by omega
  have HJ : Hid ((((A ++ ⟨#[46]⟩) ++ B) ++ ⟨#[46]⟩) ++ C = mkB (fmtP a b c)) := by
    show _ = _
    rw [← hA.out, ← hB.out, ← hC.out]
    exact join3 _ _ _
  clear sA sB sC
  go_enter Tryd.func23, Tryd.ntmps23
  go_wp2_with (go_at_call 15; refine (valid_is _ _ _ _ h).mono ?_; rintro e W1 ⟨rfl, hg1⟩)
  go_region_held3 (fun W => Gro (w.alloc (.cells #[.int .i64 a, .int .i64 b, .int .i64 c] 23)) W ∧ W.cell? ⟨w.heap.size, 0, none⟩ = some (.int .i64 a) ∧ W.cell? ⟨w.heap.size, 1, none⟩ = some (.int .i64 b) ∧ W.cell? ⟨w.heap.size, 2, none⟩ = some (.int .i64 c))
    (first
      | exact box3G hg1
      | exact box3G hg1.drew
      | (go_split_ands; exact box3G (Gro.trans (by assumption) hg2)))
    (first
      | (go_at_call 43; (with_reducible refine (itoa_str a _ (by omega) (by omega) (fun hc => by omega) hA).mono ?_); rintro e W2 ⟨rfl, hg2⟩)
      | (go_at_call 43; (with_reducible refine (itoa_str b _ (by omega) (by omega) (fun hc => by omega) hB).mono ?_); rintro e W2 ⟨rfl, hg2⟩)
      | (go_at_call 43; (with_reducible refine (itoa_str c _ (by omega) (by omega) (fun hc => HT.out _ (by go_split_ands; assumption) hc) hC).mono ?_); rintro e W2 ⟨rfl, hg2⟩))
  all_goals (go_wp2; go_ret; go_split_ands; exact ⟨by rw [← HJ.out]; rfl, g0.trans (by assumption)⟩)
end Go.Proofs.YtchffamnamhcdaaDoor
