/- CatalogUndoes walked. -/
import Derived.Test.YtmfdafffafbmpaaDoorCall
namespace Go.Proofs.YtmfdafffafbmpaaDoor
set_option linter.unusedVariables false
open Go.RowKit
theorem ins_cases {l : List P4} {r : P4} {e : Int} {x : List P4} (h : Ins l r e x) : (e ≠ 0 ∧ x = []) ∨ (e = 0 ∧ Vcat x ∧ x.length = l.length + 1 ∧ Fnd x r.1 r true ∧ Rem x r.1 0 l) := by
  rcases h with ⟨h1, rfl, rfl⟩ | ⟨h1, h2, rfl, rfl⟩ | ⟨h1, h2, h3, rfl, rfl⟩ | ⟨h1, h3, h4, rfl, rfl⟩ | ⟨h1, h3, h4, h5, rfl, rfl⟩ | ⟨h1, h3, h4, h5, rfl, p, hp, rfl⟩
  · exact .inl ⟨by decide, rfl⟩
  · exact .inl ⟨by decide, rfl⟩
  · exact .inl ⟨by decide, rfl⟩
  · exact .inl ⟨by decide, rfl⟩
  · exact .inl ⟨by decide, rfl⟩
  · have hA := putL_At h1.asc hp h4
    have hv := Vcat.put h1 h5 h3 hp h4
    exact .inr ⟨rfl, hv, putL_length l r hp.1, .inl ⟨p, hA, (putL_at r hp.1).symm, rfl⟩, .inr (.inr ⟨hv, rfl, p, hA, (cut_put r hp.1).symm⟩)⟩
set_option maxHeartbeats 2000000 in
theorem CatalogUndoes_walk (A0 : Option Addr) (n0 c0 : Nat) (x0 : List P4) (s1 : ByteArray) (a1 b1 c1 : Int) (w : World) (hV : Vars w) (w0 : InR w A0 n0 c0 x0) (wa1 : (Lit.int .i64 a1).wf = true) (wb1 : (Lit.int .i64 b1).wf = true) (wc1 : (Lit.int .i64 c1).wf = true) :
    Calls Tryd.prog 7 #[.slice A0 n0 c0, .agg #[.string s1, .int .i64 a1, .int .i64 b1, .int .i64 c1]] w fun e w' => e = .returned (.bool true) ∧ Below w.heap.size w w' := by
  obtain ⟨e0, x, hi⟩ : ∃ e x, Hid (Ins x0 (s1, a1, b1, c1) e x) := ins_ex x0 (s1, a1, b1, c1)
  have HI := Lib.hid w0
  have hS : Hid (∀ W, Below (BX w s1 a1 b1 c1).heap.size (BX w s1 a1 b1 c1) W → S4 W w.heap.size s1 a1 b1 c1) := fun W hW => S4.of hW (by simp [BX]) (S4.new _ _ _ _ _)
  have hbig := w0.big
  have hn : Hid (x0.length = n0) := w0.len
  clear hV w0 wa1 wb1 wc1
  rcases ins_cases hi.out with ⟨he, rfl⟩ | ⟨rfl, hv, hl, hf, hr⟩
  · have he2 : (e0 == 0) = false := by simpa using he
    have he3 : (e0 != 0) = true := by simpa using he
    clear he
    go_enter Tryd.func7, Tryd.ntmps7
    go_wp2_with (first
      | (go_at_call 22; refine (insert_is _ _ _ _ _ _ _ _ _ (HI.out.below (newB _ _)) hi).mono ?_; rintro e W1 ⟨A1, m1, k1, rfl, hr1, hb1⟩; obtain rfl : m1 = 0 := hr1.len.symm; have HB1 := Lib.hid hb1; clear hr1 hb1)
      | (go_at_call 13; refine (awake_any _).mono ?_; rintro e W3 ⟨rfl, hb3⟩; have HB3 := Lib.hid hb3; clear hb3))
    go_ret
    exact ⟨by simp, nx (dn1 HB1.out) HB3.out⟩
  · have HV : Hid (Vcat x) := hv
    have HL : Hid (x.length = n0 + 1) := by show _ = _; rw [hl, hn.out]
    have HF : Hid (Fnd x s1 (s1, a1, b1, c1) true) := hf
    have HR : Hid (Rem x s1 0 x0) := hr
    have q0 : ∀ W, (binOp .eql 26 (ra s1 a1 b1 c1) (ra s1 a1 b1 c1)).run Tryd.prog W = .ok (.bool true) W := fun W => by rw [eqRes]; simp [eqS_self]
    have e5 : IntKind.i64.wrap ((n0 : Int) + 1) = (n0 : Int) + 1 := by rw [IntKind.wrap_i64]; omega
    clear hv hl hf hr
    go_enter Tryd.func7, Tryd.ntmps7
    go_wp2_with (first
      | (go_at_call 22; refine (insert_is _ _ _ _ _ _ _ _ _ (HI.out.below (newB _ _)) hi).mono ?_; rintro e W1 ⟨A1, m1, k1, rfl, hr1, hb1⟩; obtain rfl : m1 = n0 + 1 := (hr1.len.symm.trans HL.out); obtain ⟨g1, g2, g3, g4⟩ := hS.out W1 hb1; have HR1 := Lib.hid hr1; have HB1 := Lib.hid hb1; clear hr1 hb1)
      | (go_at_call 27; refine (remove_is _ _ _ _ _ _ HR1.out HR).mono ?_; rintro e W2 ⟨A2, m2, k2, rfl, hr2, hb2⟩; clear g1 g2 g3 g4; have HR2 := Lib.hid hr2; have HB2 := Lib.hid hb2; clear hr2 hb2; obtain ⟨g1, g2, g3, g4⟩ := hS.out W2 (nx HB1.out HB2.out))
      | (go_at_call 25; refine (find_is _ _ _ _ _ _ (HR1.out.below HB2.out) HF).mono ?_; rintro e W3 ⟨rfl, hb3⟩; clear g1 g2 g3 g4; have HB3 := Lib.hid hb3; clear hb3)
      | (go_at_call 13; refine (awake_any _).mono ?_; rintro e W4 ⟨rfl, hb4⟩; have HB4 := Lib.hid hb4; clear hb4)
      | (go_at_call 21; refine (refVcat_yes _ _ _ _ _ ((HR1.out.below HB2.out).rd.below (nx (nxA HB3.out _) HB4.out)) HL HV).mono ?_; rintro e W5 ⟨rfl, hg5⟩; have HB5 := Lib.hid hg5.below; clear hg5; obtain ⟨g1, g2, g3, g4⟩ := hS.out W5 (nx (nx (nx HB1.out HB2.out) (nx (nxA HB3.out _) HB4.out)) HB5.out); obtain ⟨g5, g6, g7, g8⟩ := S4.of (nx HB4.out HB5.out) (by simp) (S4.new W3 s1 a1 b1 c1))
      | (go_at_call 24; refine (same_yes _ _ _ _ _ _ _ _ (HR2.out.below (nx (nx (nxA HB3.out _) HB4.out) HB5.out)) (HI.out.below (dn1 (nx (nx (nx HB1.out HB2.out) (nx (nxA HB3.out _) HB4.out)) HB5.out)))).mono ?_; rintro e W6 ⟨rfl, hb6⟩; have HB6 := Lib.hid hb6; clear hb6))
    go_ret
    exact ⟨by simp, nx (dn1 (nx (nx (nx HB1.out HB2.out) (nx (nxA HB3.out _) HB4.out)) HB5.out)) HB6.out⟩
end Go.Proofs.YtmfdafffafbmpaaDoor
