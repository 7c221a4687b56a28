/- CatalogScripts walked. -/
import Derived.Test.YtmfdafffafbmpaaDoorCatalogUndoesW
import Derived.Test.YtmfdafffafbmpaaDoorCopen
namespace Go.Proofs.YtmfdafffafbmpaaDoor
set_option linter.unusedVariables false
open Go.RowKit
theorem rem_cases {l : List P4} {s : ByteArray} {e : Int} {x : List P4} (h : Rem l s e x) : e ≠ 0 ∨ (e = 0 ∧ Vcat x) := by
  rcases h with ⟨h1, rfl, rfl⟩ | ⟨h1, h2, rfl, rfl⟩ | ⟨h1, rfl, p, h2, rfl⟩
  · exact .inl (by decide)
  · exact .inl (by decide)
  · exact .inr ⟨rfl, h1.cut⟩
theorem InB.at_ {w : World} {A : Option Addr} {n c : Nat} {l : List Bool} (h : InB w A n c l) {i : Nat} (hi : i < n) : ∃ b o v, A = some ⟨b, o, none⟩ ∧ b < w.heap.size ∧ w.cell? ⟨b, o + i, none⟩ = some (.bool v) := by
  obtain ⟨b, o, hA, hb, hc⟩ := h.rd (by rintro hl; have := h.len; rw [hl] at this; simp at this; omega)
  exact ⟨b, o, _, hA, hb, hc i (by have := h.len; omega)⟩
set_option maxHeartbeats 8000000 in
set_option maxRecDepth 8000 in
theorem CatalogScripts_walk (A0 : Option Addr) (n0 c0 : Nat) (x0 : List P4) (A1 : Option Addr) (n1 c1 : Nat) (x1 : List Bool) (w : World) (hV : Vars w) (w0 : InR w A0 n0 c0 x0) (w1 : InB w A1 n1 c1 x1) :
    Calls Tryd.prog 12 #[.slice A0 n0 c0, .slice A1 n1 c1] w fun e w' => e = .returned (.bool true) ∧ Below w.heap.size w w' := by
  have HI := Lib.hid w0
  have HJ := Lib.hid w1
  have hn : Hid (x0.length = n0) := w0.len
  clear hV w0 w1
  by_cases h40 : 40 < (n0 : Int)
  · go_enter Tryd.func12, Tryd.ntmps12
    go_wp2_with (first
      | (go_at_call 13; refine (awake_any _).mono ?_; rintro e W1 ⟨rfl, hb1⟩; have HB1 := Lib.hid hb1; clear hb1))
    go_ret
    exact ⟨rfl, HB1.out⟩
  · go_enter Tryd.func12, Tryd.ntmps12
    go_wp2
    go_loopw [5, 6, 7] (fun V U i wr => ∃ (j : Nat) (X : List P4) (Ax : Option Addr) (mx cx : Nat) (Ay : Option Addr) (my cy : Nat), j ≤ n0 ∧ i = .int .i64 j ∧ V = .slice Ax mx cx ∧ U = .slice Ay my cy ∧ Hid (Vcat X) ∧ Hid (InR wr Ax mx cx X) ∧ Hid (InR wr Ay my cy X) ∧ Hid (Below w.heap.size w wr)) (fun _ _ i _ => n0 - (intOf i).toNat)
    case atStart => exact ⟨0, [], none, 0, 0, none, 0, 0, by omega, rfl, rfl, rfl, Vcat.nil, InR.none _, InR.none _, Below.refl _ _⟩
    case round =>
      obtain ⟨j, X, Ax, mx, cx, Ay, my, cy, hj, rfl, rfl, rfl, hv, hx, hy, hB⟩ := hrel
      by_cases hlt : (j : Int) < (n0 : Int)
      · obtain ⟨g, o, s, k, u, h, rfl, hg, hxx, d1, d2, d3, d4⟩ := HI.out.rd.at_ (i := j) (by have := hn.out; omega)
        have Z : Hid (Z4 w g (o + j * 4) (s, k, u, h) ∧ g < w.heap.size) := ⟨⟨d1, d2, d3, d4⟩, hg⟩
        clear d1 d2 d3 d4 hg
        obtain ⟨g1, g2, g3, g4⟩ := Z.out.1.of hB.out Z.out.2
        have e5 : IntKind.i64.wrap ((j : Int) + 1) = (j : Int) + 1 := by rw [IntKind.wrap_i64]; omega
        have hdrop : (¬ (j : Int) < (n1 : Int)) ∨ (j : Int) < (n1 : Int) ∧ ∃ b q v, A1 = some ⟨b, q, none⟩ ∧ wr.cell? ⟨b, q + j, none⟩ = some (.bool v) := by
          by_cases h1 : (j : Int) < (n1 : Int)
          · right
            obtain ⟨b, q, v, h2, h3, h4⟩ := HJ.out.at_ (i := j) (by omega)
            exact ⟨h1, b, q, v, h2, (hB.out.cell (p := ⟨b, q + j, none⟩) h3).trans h4⟩
          · exact .inl h1
        obtain ⟨ei, xi, hi⟩ : ∃ e x, Hid (Ins X (s, k, u, h) e x) := ins_ex X (s, k, u, h)
        obtain ⟨er, xr, hr⟩ : ∃ e x, Hid (Rem X s e x) := rem_ex X s
        have hci : (ei ≠ 0) ∨ (ei = 0 ∧ Vcat xi) := (ins_cases hi.out).imp (·.1) fun hh => ⟨hh.1, hh.2.1⟩
        have hcr := rem_cases hr.out
        have hmx : Hid (X.length = mx) := hx.out.len
        rcases hdrop with hd | ⟨hd, b, q, v, rfl, hc⟩
        · clear hcr hr
          rcases hci with he | ⟨rfl, hvx⟩
          · have he2 : (ei == 0) = false := by simpa using he
            clear he
            go_wp2_with (first
              | (go_at_call 22; refine (insert_is _ _ _ _ _ _ _ _ _ hx.out hi).mono ?_; rintro e W1 ⟨A2, m2, k2, rfl, hr2, hb2⟩; clear g1 g2 g3 g4; have HR2 := Lib.hid hr2; have HB2 := Lib.hid hb2; clear hb2 hr2; obtain ⟨g1, g2, g3, g4⟩ := Z.out.1.of (nx hB.out HB2.out) Z.out.2)
              | (go_at_call 23; refine (refInsert_is _ _ _ _ _ _ _ _ _ (hy.out.below HB2.out) hi).mono ?_; rintro e W3 ⟨A3, m3, k3, rfl, hr3, hb3⟩; clear g1 g2 g3 g4; have HR3 := Lib.hid hr3; have HR2b := Lib.hid (HR2.out.below hb3); have HB3 := Lib.hid (nx HB2.out hb3); clear hb3 hr3)
              | (go_at_call 24; refine (same_yes _ _ _ _ _ _ _ _ (hx.out.below HB3.out) (hy.out.below HB3.out)).mono ?_; rintro e W4 ⟨rfl, hb4⟩; have HB4 := Lib.hid (nx HB3.out hb4); clear hb4)
              | (go_at_call 20; refine (vcat_yes _ _ _ _ _ (hx.out.rd.below HB4.out) hmx hv).mono ?_; rintro e W5 ⟨rfl, hg5⟩; have HB5 := Lib.hid (nx HB4.out hg5.below); clear hg5))
            go_roundw
            case rel => exact ⟨j + 1, X, Ax, mx, cx, Ay, my, cy, by omega, by go_num, rfl, rfl, hv, hx.out.below HB5.out, hy.out.below HB5.out, nx hB.out HB5.out⟩
            case measure => simp [intOf]; omega
          · have hvx := Lib.hid hvx
            go_wp2_with (first
              | (go_at_call 22; refine (insert_is _ _ _ _ _ _ _ _ _ hx.out hi).mono ?_; rintro e W1 ⟨A2, m2, k2, rfl, hr2, hb2⟩; clear g1 g2 g3 g4; have HR2 := Lib.hid hr2; have HB2 := Lib.hid hb2; clear hb2 hr2; obtain ⟨g1, g2, g3, g4⟩ := Z.out.1.of (nx hB.out HB2.out) Z.out.2)
              | (go_at_call 23; refine (refInsert_is _ _ _ _ _ _ _ _ _ (hy.out.below HB2.out) hi).mono ?_; rintro e W3 ⟨A3, m3, k3, rfl, hr3, hb3⟩; clear g1 g2 g3 g4; have HR3 := Lib.hid hr3; have HR2b := Lib.hid (HR2.out.below hb3); have HB3 := Lib.hid (nx HB2.out hb3); clear hb3 hr3)
              | (go_at_call 24; refine (same_yes _ _ _ _ _ _ _ _ HR2b.out HR3.out).mono ?_; rintro e W4 ⟨rfl, hb4⟩; have HB4 := Lib.hid hb4; clear hb4)
              | (go_at_call 20; refine (vcat_yes _ _ _ _ _ (HR2b.out.rd.below HB4.out) HR2b.out.len hvx).mono ?_; rintro e W5 ⟨rfl, hg5⟩; have HB5 := Lib.hid (nx HB4.out hg5.below); clear hg5))
            go_roundw
            case rel => exact ⟨j + 1, xi, _, _, _, _, _, _, by omega, by go_num, rfl, rfl, hvx, HR2b.out.below HB5.out, HR3.out.below HB5.out, nx hB.out (nx HB3.out HB5.out)⟩
            case measure => simp [intOf]; omega
        · cases v with
          | true =>
            clear hci hi
            rcases hcr with he | ⟨rfl, hvx⟩
            · have he2 : (er == 0) = false := by simpa using he
              clear he
              go_wp2_with (first
                | (go_at_call 27; refine (remove_is _ _ _ _ _ _ hx.out hr).mono ?_; rintro e W1 ⟨A2, m2, k2, rfl, hr2, hb2⟩; clear g1 g2 g3 g4; have HR2 := Lib.hid hr2; have HB2 := Lib.hid hb2; clear hb2 hr2; obtain ⟨g1, g2, g3, g4⟩ := Z.out.1.of (nx hB.out HB2.out) Z.out.2)
                | (go_at_call 28; refine (refRemove_is _ _ _ _ _ _ (hy.out.below HB2.out) hr).mono ?_; rintro e W3 ⟨A3, m3, k3, rfl, hr3, hb3⟩; clear g1 g2 g3 g4; have HR3 := Lib.hid hr3; have HR2b := Lib.hid (HR2.out.below hb3); have HB3 := Lib.hid (nx HB2.out hb3); clear hb3 hr3)
                | (go_at_call 24; refine (same_yes _ _ _ _ _ _ _ _ (hx.out.below HB3.out) (hy.out.below HB3.out)).mono ?_; rintro e W4 ⟨rfl, hb4⟩; have HB4 := Lib.hid (nx HB3.out hb4); clear hb4)
                | (go_at_call 20; refine (vcat_yes _ _ _ _ _ (hx.out.rd.below HB4.out) hmx hv).mono ?_; rintro e W5 ⟨rfl, hg5⟩; have HB5 := Lib.hid (nx HB4.out hg5.below); clear hg5))
              go_roundw
              case rel => exact ⟨j + 1, X, Ax, mx, cx, Ay, my, cy, by omega, by go_num, rfl, rfl, hv, hx.out.below HB5.out, hy.out.below HB5.out, nx hB.out HB5.out⟩
              case measure => simp [intOf]; omega
            · have hvx := Lib.hid hvx
              go_wp2_with (first
                | (go_at_call 27; refine (remove_is _ _ _ _ _ _ hx.out hr).mono ?_; rintro e W1 ⟨A2, m2, k2, rfl, hr2, hb2⟩; clear g1 g2 g3 g4; have HR2 := Lib.hid hr2; have HB2 := Lib.hid hb2; clear hb2 hr2; obtain ⟨g1, g2, g3, g4⟩ := Z.out.1.of (nx hB.out HB2.out) Z.out.2)
                | (go_at_call 28; refine (refRemove_is _ _ _ _ _ _ (hy.out.below HB2.out) hr).mono ?_; rintro e W3 ⟨A3, m3, k3, rfl, hr3, hb3⟩; clear g1 g2 g3 g4; have HR3 := Lib.hid hr3; have HR2b := Lib.hid (HR2.out.below hb3); have HB3 := Lib.hid (nx HB2.out hb3); clear hb3 hr3)
                | (go_at_call 24; refine (same_yes _ _ _ _ _ _ _ _ HR2b.out HR3.out).mono ?_; rintro e W4 ⟨rfl, hb4⟩; have HB4 := Lib.hid hb4; clear hb4)
                | (go_at_call 20; refine (vcat_yes _ _ _ _ _ (HR2b.out.rd.below HB4.out) HR2b.out.len hvx).mono ?_; rintro e W5 ⟨rfl, hg5⟩; have HB5 := Lib.hid (nx HB4.out hg5.below); clear hg5))
              go_roundw
              case rel => exact ⟨j + 1, xr, _, _, _, _, _, _, by omega, by go_num, rfl, rfl, hvx, HR2b.out.below HB5.out, HR3.out.below HB5.out, nx hB.out (nx HB3.out HB5.out)⟩
              case measure => simp [intOf]; omega
          | false =>
            clear hcr hr
            rcases hci with he | ⟨rfl, hvx⟩
            · have he2 : (ei == 0) = false := by simpa using he
              clear he
              go_wp2_with (first
                | (go_at_call 22; refine (insert_is _ _ _ _ _ _ _ _ _ hx.out hi).mono ?_; rintro e W1 ⟨A2, m2, k2, rfl, hr2, hb2⟩; clear g1 g2 g3 g4; have HR2 := Lib.hid hr2; have HB2 := Lib.hid hb2; clear hb2 hr2; obtain ⟨g1, g2, g3, g4⟩ := Z.out.1.of (nx hB.out HB2.out) Z.out.2)
                | (go_at_call 23; refine (refInsert_is _ _ _ _ _ _ _ _ _ (hy.out.below HB2.out) hi).mono ?_; rintro e W3 ⟨A3, m3, k3, rfl, hr3, hb3⟩; clear g1 g2 g3 g4; have HR3 := Lib.hid hr3; have HR2b := Lib.hid (HR2.out.below hb3); have HB3 := Lib.hid (nx HB2.out hb3); clear hb3 hr3)
                | (go_at_call 24; refine (same_yes _ _ _ _ _ _ _ _ (hx.out.below HB3.out) (hy.out.below HB3.out)).mono ?_; rintro e W4 ⟨rfl, hb4⟩; have HB4 := Lib.hid (nx HB3.out hb4); clear hb4)
                | (go_at_call 20; refine (vcat_yes _ _ _ _ _ (hx.out.rd.below HB4.out) hmx hv).mono ?_; rintro e W5 ⟨rfl, hg5⟩; have HB5 := Lib.hid (nx HB4.out hg5.below); clear hg5))
              go_roundw
              case rel => exact ⟨j + 1, X, Ax, mx, cx, Ay, my, cy, by omega, by go_num, rfl, rfl, hv, hx.out.below HB5.out, hy.out.below HB5.out, nx hB.out HB5.out⟩
              case measure => simp [intOf]; omega
            · have hvx := Lib.hid hvx
              go_wp2_with (first
                | (go_at_call 22; refine (insert_is _ _ _ _ _ _ _ _ _ hx.out hi).mono ?_; rintro e W1 ⟨A2, m2, k2, rfl, hr2, hb2⟩; clear g1 g2 g3 g4; have HR2 := Lib.hid hr2; have HB2 := Lib.hid hb2; clear hb2 hr2; obtain ⟨g1, g2, g3, g4⟩ := Z.out.1.of (nx hB.out HB2.out) Z.out.2)
                | (go_at_call 23; refine (refInsert_is _ _ _ _ _ _ _ _ _ (hy.out.below HB2.out) hi).mono ?_; rintro e W3 ⟨A3, m3, k3, rfl, hr3, hb3⟩; clear g1 g2 g3 g4; have HR3 := Lib.hid hr3; have HR2b := Lib.hid (HR2.out.below hb3); have HB3 := Lib.hid (nx HB2.out hb3); clear hb3 hr3)
                | (go_at_call 24; refine (same_yes _ _ _ _ _ _ _ _ HR2b.out HR3.out).mono ?_; rintro e W4 ⟨rfl, hb4⟩; have HB4 := Lib.hid hb4; clear hb4)
                | (go_at_call 20; refine (vcat_yes _ _ _ _ _ (HR2b.out.rd.below HB4.out) HR2b.out.len hvx).mono ?_; rintro e W5 ⟨rfl, hg5⟩; have HB5 := Lib.hid (nx HB4.out hg5.below); clear hg5))
              go_roundw
              case rel => exact ⟨j + 1, xi, _, _, _, _, _, _, by omega, by go_num, rfl, rfl, hvx, HR2b.out.below HB5.out, HR3.out.below HB5.out, nx hB.out (nx HB3.out HB5.out)⟩
              case measure => simp [intOf]; omega
      · go_wp2_with (first
          | (go_at_call 13; refine (awake_any _).mono ?_; rintro e W1 ⟨rfl, hb1⟩; have HB1 := Lib.hid hb1; clear hb1))
        go_ret
        exact ⟨rfl, nx hB.out HB1.out⟩
end Go.Proofs.YtmfdafffafbmpaaDoor
