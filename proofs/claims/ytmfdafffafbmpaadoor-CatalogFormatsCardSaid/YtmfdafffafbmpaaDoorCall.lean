/- The contracts of Insert, Remove, Resolve in one form each; the statements' own example. -/
import Derived.Test.YtmfdafffafbmpaaDoorCrfm
import Derived.Test.YtmfdafffafbmpaaDoorClaid
namespace Go.Proofs.YtmfdafffafbmpaaDoor
open Go.RowKit
open Go.Sort (grow)
set_option linter.unusedVariables false
set_option linter.unusedSimpArgs false

/-- What a call answers that returns a list and an error. -/
def LE (x : List P4) (e : Int) (w : World) (e' : Ending) (w' : World) : Prop := ∃ A m c, e' = .returned (.tuple #[.slice A m c, .int .i64 e]) ∧ InR w' A m c x ∧ Below w.heap.size w w'
theorem insert_is (A : Option Addr) (n c : Nat) (l : List P4) (s : ByteArray) (k u h : Int) (w : World) (hl : InR w A n c l) {e : Int} {x : List P4} (hi : Hid (Ins l (s, k, u, h) e x)) :
    Calls Tryd.prog 22 #[.slice A n c, ra s k u h] w (LE x e w) := by
  have hz := InR.none
  rcases hi.out with ⟨h1, rfl, rfl⟩ | ⟨h1, h2, rfl, rfl⟩ | ⟨h1, h2, h3, rfl, rfl⟩ | ⟨h1, h3, h4, rfl, rfl⟩ | ⟨h1, h3, h4, h5, rfl, rfl⟩ | ⟨h1, h3, h4, h5, rfl, p, hp, rfl⟩
  · exact (insert_bad A n c l s k u h w hl h1).mono fun _ _ ⟨he, hb⟩ => ⟨_, _, _, he, hz _, hb⟩
  · exact (insert_name A n c l s k u h w hl h1 h2).mono fun _ _ ⟨he, hb⟩ => ⟨_, _, _, he, hz _, hb⟩
  · exact (insert_arg A n c l s k u h w hl h1 h2 h3).mono fun _ _ ⟨he, hb⟩ => ⟨_, _, _, he, hz _, hb⟩
  · exact (insert_old A n c l s k u h w hl h1 h3.1 h3 h4).mono fun _ _ ⟨he, hb⟩ => ⟨_, _, _, he, hz _, hb⟩
  · exact (insert_many A n c l s k u h w hl h1 h3.1 h3 (no4_b h4) (by have := hl.len; omega)).mono fun _ _ ⟨he, hb⟩ => ⟨_, _, _, he, hz _, hb⟩
  · exact (insert_ok A n c l s k u h w hl h1 h3.1 h3 (no4_b h4) (by have := hl.len; omega) hp).mono fun _ _ ⟨A', c', he, hi, hb⟩ => ⟨_, _, _, he, hi, hb⟩
theorem refInsert_is (A : Option Addr) (n c : Nat) (l : List P4) (s : ByteArray) (k u h : Int) (w : World) (hl : InR w A n c l) {e : Int} {x : List P4} (hi : Hid (Ins l (s, k, u, h) e x)) :
    Calls Tryd.prog 23 #[.slice A n c, ra s k u h] w (LE x e w) := by
  have hz := InR.none
  rcases hi.out with ⟨h1, rfl, rfl⟩ | ⟨h1, h2, rfl, rfl⟩ | ⟨h1, h2, h3, rfl, rfl⟩ | ⟨h1, h3, ⟨p, h4⟩, rfl, rfl⟩ | ⟨h1, h3, h4, h5, rfl, rfl⟩ | ⟨h1, h3, h4, h5, rfl, p, hp, rfl⟩
  · exact (refInsert_bad A n c l s k u h w hl h1).mono fun _ _ ⟨he, hb⟩ => ⟨_, _, _, he, hz _, hb⟩
  · exact (refInsert_name A n c l s k u h w hl h1 h2).mono fun _ _ ⟨he, hb⟩ => ⟨_, _, _, he, hz _, hb⟩
  · exact (refInsert_arg A n c l s k u h w hl h1 h2 h3).mono fun _ _ ⟨he, hb⟩ => ⟨_, _, _, he, hz _, hb⟩
  · exact (refInsert_old A n c l s k u h w hl h1 h3.1 h3 h4).mono fun _ _ ⟨he, hb⟩ => ⟨_, _, _, he, hz _, hb⟩
  · exact (refInsert_many A n c l s k u h w hl h1 h3.1 h3 (no4_b h4) (by have := hl.len; omega)).mono fun _ _ ⟨he, hb⟩ => ⟨_, _, _, he, hz _, hb⟩
  · exact (refInsert_ok A n c l s k u h w hl h1 h3.1 h3 (no4_b h4) (by have := hl.len; omega) hp).mono fun _ _ ⟨A', c', he, hi, hb⟩ => ⟨_, _, _, he, hi, hb⟩
theorem remove_is (A : Option Addr) (n c : Nat) (l : List P4) (s : ByteArray) (w : World) (hl : InR w A n c l) {e : Int} {x : List P4} (hi : Hid (Rem l s e x)) :
    Calls Tryd.prog 27 #[.slice A n c, .string s] w (LE x e w) := by
  have hz := InR.none
  rcases hi.out with ⟨h1, rfl, rfl⟩ | ⟨h1, h2, rfl, rfl⟩ | ⟨h1, rfl, p, h2, rfl⟩
  · exact (remove_bad A n c l s w hl h1).mono fun _ _ ⟨he, hb⟩ => ⟨_, _, _, he, hz _, hb⟩
  · exact (remove_none A n c l s w hl h1 (no4_b h2)).mono fun _ _ ⟨he, hb⟩ => ⟨_, _, _, he, hz _, hb⟩
  · exact (remove_ok A n c l s w hl h1 h2).mono fun _ _ ⟨A', c', he, hi, hb⟩ => ⟨_, _, _, he, hi, hb⟩
theorem refRemove_is (A : Option Addr) (n c : Nat) (l : List P4) (s : ByteArray) (w : World) (hl : InR w A n c l) {e : Int} {x : List P4} (hi : Hid (Rem l s e x)) :
    Calls Tryd.prog 28 #[.slice A n c, .string s] w (LE x e w) := by
  have hz := InR.none
  rcases hi.out with ⟨h1, rfl, rfl⟩ | ⟨h1, h2, rfl, rfl⟩ | ⟨h1, rfl, p, h2, rfl⟩
  · exact (refRemove_bad A n c l s w hl h1).mono fun _ _ ⟨he, hb⟩ => ⟨_, _, _, he, hz _, hb⟩
  · exact (refRemove_none A n c l s w hl h1 (no4_b h2)).mono fun _ _ ⟨he, hb⟩ => ⟨_, _, _, he, hz _, hb⟩
  · exact (refRemove_ok A n c l s w hl h1 h2).mono fun _ _ ⟨A', c', he, hi, hb⟩ => ⟨_, _, _, he, hi, hb⟩
theorem resolve_is (A : Option Addr) (n c : Nat) (l : List P4) (s : ByteArray) (x y : Int) (w : World) (hl : InR w A n c l) {e : Int} (hi : Hid (Rsv l s x y e)) :
    Calls Tryd.prog 29 #[.slice A n c, ta s x y] w fun e' w' => e' = .returned (.int .i64 e) ∧ Below w.heap.size w w' := by
  rcases hi.out with ⟨h1, rfl⟩ | ⟨h1, h2, rfl⟩ | ⟨h1, p, h2, ⟨h3, rfl⟩ | ⟨h3, rfl⟩⟩
  · exact resolve_bad A n c l s x y w hl h1
  · exact resolve_none A n c l s x y w hl h1 (no4_b h2)
  · exact resolve_at A n c l s x y w hl h1 h2 h3
  · exact resolve_at A n c l s x y w hl h1 h2 h3
theorem refResolve_is (A : Option Addr) (n c : Nat) (l : List P4) (s : ByteArray) (x y : Int) (w : World) (hl : InR w A n c l) {e : Int} (hi : Hid (Rsv l s x y e)) :
    Calls Tryd.prog 30 #[.slice A n c, ta s x y] w fun e' w' => e' = .returned (.int .i64 e) ∧ Below w.heap.size w w' := by
  rcases hi.out with ⟨h1, rfl⟩ | ⟨h1, h2, rfl⟩ | ⟨h1, p, h2, ⟨h3, rfl⟩ | ⟨h3, rfl⟩⟩
  · exact refResolve_bad A n c l s x y w hl h1
  · exact refResolve_none A n c l s x y w hl h1 (no4_b h2)
  · exact refResolve_at A n c l s x y w hl h1 h2 h3
  · exact refResolve_at A n c l s x y w hl h1 h2 h3
theorem same_yes (A : Option Addr) (n c : Nat) (l : List P4) (B : Option Addr) (m d : Nat) (w : World) (hl : InR w A n c l) (hr : InR w B m d l) :
    Calls Tryd.prog 24 #[.slice A n c, .slice B m d] w fun e w' => e = .returned (.bool true) ∧ Below w.heap.size w w' := same_is A n c l B m d l w hl hr (yes_of rfl)

/-! ### The example -/
def exR : P4 := (⟨#[112]⟩, 2, 3, 1)
theorem ex_nam : Nam ⟨#[112]⟩ := by
  refine ⟨by decide, by decide, by decide, fun i hi => ?_, by unfold rsv eqS; simp only [ByteArray.toList_mk]; decide⟩
  obtain rfl : i = 0 := by
    have : (⟨#[112]⟩ : ByteArray).size = 1 := rfl
    omega
  decide
theorem ex_rsr : RsR exR := ⟨ex_nam, by decide, by decide, by decide⟩
theorem ex_no : No4 [] ⟨#[112]⟩ := fun k hk => by simp at hk
theorem ex_ins : Ins [] exR 0 [exR] :=
  .inr (.inr (.inr (.inr (.inr ⟨Vcat.nil, ex_rsr, ex_no, by decide, rfl, 0, ⟨by decide, fun i hi => by omega, fun i _ hi => by simp at hi⟩, rfl⟩))))
theorem ex_vcat : Vcat [exR] := Vcat.mk (by decide) (fun r hr => by simp at hr; subst hr; exact ex_rsr) (Asc.of (by simp))
theorem ex_fmt : Fmt [exR] ⟨#[112, 111, 111, 108, 32, 112, 32, 51, 32, 97, 116, 32, 49, 10]⟩ := .inl ⟨ex_vcat, by
  have h3 : dec (3 : Int).toNat = [51] := by rw [show (3 : Int).toNat = 3 from rfl, dec_one (by omega)]; rfl
  have h1 : dec (1 : Int).toNat = [49] := by rw [show (1 : Int).toNat = 1 from rfl, dec_one (by omega)]; rfl
  simp only [txtL, List.map_cons, List.map_nil, lineL, lnL, exR, h3, h1]
  rfl⟩
theorem ex_all : ¬ Nam ⟨#[97, 108, 108]⟩ := fun h => by have := h.2.2.2.2; unfold rsv eqS at this; simp only [ByteArray.toList_mk] at this; revert this; decide
set_option maxHeartbeats 1000000 in
theorem awake_any (w : World) : Calls Tryd.prog 13 #[] w fun e w' => e = .returned (.bool true) ∧ Below w.heap.size w w' := by
  have hi : Hid (Ins [] (⟨#[112]⟩, 2, 3, 1) 0 [exR]) := ex_ins
  have hv : Hid (Vcat [exR]) := ex_vcat
  have hf : Hid (Fmt [exR] ⟨#[112, 111, 111, 108, 32, 112, 32, 51, 32, 97, 116, 32, 49, 10]⟩) := ex_fmt
  have ha : Hid (¬ Nam ⟨#[97, 108, 108]⟩) := ex_all
  have h1 : Hid ([exR].length = 1) := rfl
  go_enter Tryd.func13, Tryd.ntmps13
  go_wp2_with (first
    | (go_at_call 22; refine (insert_is _ _ _ _ _ _ _ _ _ (InR.none _) hi).mono ?_; rintro e W1 ⟨A, m, c, rfl, hr, hb1⟩; obtain rfl : m = 1 := hr.len.symm; have HR := Lib.hid hr; have HB1 := Lib.hid hb1; clear hr hb1)
    | (go_at_call 20; refine (vcat_yes _ _ _ _ _ HR.out.rd h1 hv).mono ?_; rintro e W2 ⟨rfl, hg2⟩; have HB2 := Lib.hid hg2.below; clear hg2)
    | (go_at_call 33; refine (format_is _ _ _ _ _ (HR.out.below HB2.out) hf).mono ?_; rintro e W3 ⟨rfl, hb3⟩; have HB3 := Lib.hid hb3; clear hb3)
    | (go_at_call 16; refine (nam_no _ _ ha).mono ?_; rintro e W4 ⟨rfl, rfl⟩))
  go_ret
  exact ⟨rfl, nx (nx HB1.out HB2.out) HB3.out⟩
end Go.Proofs.YtmfdafffafbmpaaDoor
