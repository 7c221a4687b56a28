/- The laws' step: a removal or an insertion. -/
import Derived.Test.YtfcekfdoafpmoaaJaw
import Derived.Test.YtfcekfdoafpmoaaJl
import Derived.Test.YtfcekfdoafpmoaaJopen
namespace Go.Proofs.Ytfcekfdoafpmoaa
open Go.RowKit
set_option linter.unusedVariables false
set_option linter.unusedSimpArgs false

theorem wf_small {k : Int} (h : 0 ≤ k) (h2 : k < 1000000) : (Lit.int .i64 k).wf = true := by
  have h3 : (-9223372036854775808 : Int) ≤ k := by omega
  have h4 : k ≤ (9223372036854775807 : Int) := by omega
  exact Bool.and_eq_true_iff.2 ⟨decide_eq_true h3, decide_eq_true h4⟩
/-- A slice's block does not lie below B. -/
def LoB (B : Nat) (A : Option Addr) : Prop := ∀ b o s, A = some ⟨b, o, s⟩ → B ≤ b
theorem LoB.none (B : Nat) : LoB B none := fun b o s h => by cases h
theorem LoB.mono {B C : Nat} {A : Option Addr} (h : LoB B A) (hc : C ≤ B) : LoB C A := fun b o s e => Nat.le_trans hc (h b o s e)
theorem own_lo {w : World} {base : Nat} {T : TypeId} {sz : Nat} {A : Option Addr} {n c m : Nat} {xs : List Value} (h : w.ownsRow base T sz (.slice A n c) m xs) : LoB base A := fun b o s e => by
  subst e
  rcases h.2 with ⟨h', _⟩ | ⟨g, cap, cur, h', hb, _⟩
  · cases h'
  · injection h' with h1
    injection h1 with h1
    injection h1 with h1 _ _
    rw [h1]
    exact hb
theorem WRd.set {w : World} {A : Option Addr} {l : List Wt} (h : WRd w A l) {B : Nat} (hlo : LoB B A) {g : Nat} (hg : g < B) (o : Nat) (v : Value) : WRd (w.setCell ⟨g, o, none⟩ v) A l := fun hx => by
  obtain ⟨b, p, hA, hlt, hc⟩ := h hx
  have hbb := hlo b p none hA
  have hb : (w.setCell ⟨g, o, none⟩ v).heap[b]? = w.heap[b]? := block_set w o v (by omega)
  refine ⟨b, p, hA, by simpa using hlt, fun i hi => ?_⟩
  obtain ⟨h0, h1, h2, h3, h4, h5, h6⟩ := hc i hi
  exact ⟨(cell_of_block hb _).trans h0, (cell_of_block hb _).trans h1, (cell_of_block hb _).trans h2, (cell_of_block hb _).trans h3, (cell_of_block hb _).trans h4, (cell_of_block hb _).trans h5, (cell_of_block hb _).trans h6⟩
/-- The claim of step n. -/
def clW (n : Int) : Wt := (pcN (n / 5), (5, 0), n % 8, 0)
theorem clW_valid (n : Int) : vW (clW n) = true := by
  have h1 := pcN_valid (n / 5)
  have h5 : 0 ≤ n % 8 := Int.emod_nonneg _ (by omega)
  have h6 : n % 8 < 8 := Int.emod_lt_of_pos _ (by omega)
  unfold vW clW
  simp only [Bool.and_eq_true, decide_eq_true_eq]
  exact ⟨⟨h1, by decide⟩, h5, by omega, by omega, by omega⟩
theorem inC_cl {l : List Wt} (h : VL l) (n : Int) : inC l (clW n) = 0 ∨ inC l (clW n) = 11 ∨ inC l (clW n) = 4 := by
  unfold inC
  rw [if_neg (by simpa using h), if_neg (by rintro (h1 | h1); (rw [clW_valid] at h1; cases h1); exact h1 rfl)]
  split
  · exact .inr (.inl rfl)
  · split
    · exact .inr (.inr rfl)
    · exact .inl rfl
/-- The line behind step n, and whether a claim was inserted. -/
def stpW (l : List Wt) (n : Int) : List Wt × Bool := if n % 5 = 0 then (delW l (pcN (n / 5)), false) else if inC l (clW n) = 0 then (insW l (clW n), true) else (l, false)
theorem VL.stp {l : List Wt} (h : VL l) (n : Int) : VL (stpW l n).1 := by
  unfold stpW
  split
  · exact h.del _
  · split
    · rename_i hc
      obtain ⟨h1, h2, h3, h4, h5⟩ := inC_0 hc
      exact h1.ins h2 (findW_neg.1 (by omega)) h5
    · exact h
theorem putW_le8 {l : List Wt} (h : VL l) (n : Int) (hc : inC l (clW n) = 0) : (insW l (clW n)).length ≤ 8 := by
  obtain ⟨h1, h2, h3, h4, h5⟩ := inC_0 hc
  exact (h1.ins h2 (findW_neg.1 (by omega)) h5).1
set_option maxHeartbeats 4000000 in
set_option maxRecDepth 20000 in
theorem step_is (A : Option Addr) (m c : Nat) (l : List Wt) (n : Int) (w : World) (hI : InW w A m c l) (hV : Hid (VL l)) (hn0 : 0 ≤ n) (hn4 : n < 400) {X : List Wt} {put : Bool} (hX : Hid (stpW l n = (X, put))) {B : Nat} (hlo : LoB B A) (hBs : B ≤ w.heap.size) :
    Calls Try.prog 27 #[.slice A m c, .int .i64 n] w fun e w' => (∃ A' q c', e = .returned (.tuple #[.slice A' q c', .bool put, .bool true]) ∧ InW w' A' q c' X ∧ LoB B A') ∧ Below w.heap.size w w' := by
  have HR := Lib.hid hI.rd
  have hm : Hid (l.length = m) := hI.len
  have hmc : m ≤ c := hI.fit
  have hm8 : Hid (m ≤ 1000) := Lib.hid (by have := hV.out.1; have := hm.out; omega)
  have HI := Lib.hid hI
  have HLO := Lib.hid hlo
  have HBS := Lib.hid hBs
  clear hlo hBs
  have e1 : Int.tmod n 5 = n % 5 := Int.tmod_eq_emod_of_nonneg hn0
  have e2 : Int.tdiv n 5 = n / 5 := Int.tdiv_eq_ediv_of_nonneg hn0
  have hd0 : 0 ≤ n / 5 ∧ n / 5 < 80 := by omega
  have e3 : IntKind.i64.wrap (n / 5) = n / 5 := by rw [IntKind.wrap_i64]; omega
  have hwf5 : Hid ((Lit.int .i64 (n / 5)).wf = true) := Lib.hid (wf_small (by omega) (by omega))
  have hwf : (Lit.int .i64 n).wf = true := wf_small (by omega) (by omega)
  obtain ⟨x, y, z, hp⟩ : ∃ x y z, Hid (pcN (n / 5) = (x, y, z)) := ⟨_, _, _, Lib.hid rfl⟩
  obtain ⟨g, hg⟩ : ∃ g, Hid (n % 8 = g) := ⟨_, Lib.hid rfl⟩
  have hcl : Hid (clW n = ((x, y, z), (5, 0), g, 0)) := Lib.hid (by unfold clW; rw [hp.out, hg.out])
  clear hI
  by_cases h5 : n % 5 = 0
  · have hXe : Hid (delW l (x, y, z) = X ∧ put = false) := Lib.hid (by
      have h := hX.out
      unfold stpW at h
      rw [if_pos h5, hp.out] at h
      exact ⟨congrArg Prod.fst h, (congrArg Prod.snd h).symm⟩)
    obtain ⟨q, hq⟩ : ∃ q, Hid (X.length = q) := ⟨_, Lib.hid rfl⟩
    have hDX : Hid (delW l (x, y, z) = X) := Lib.hid hXe.out.1
    have hpt := hXe.out.2
    subst hpt
    clear hX
    go_enter Try.func27, Try.ntmps27
    go_wp2_with (first
      | (go_at_call 28; (with_reducible refine (proc_fn (n / 5) _ hwf5 hp).mono ?_); rintro e W1 ⟨rfl, hb1⟩; have HB1 := Lib.hid hb1; clear hb1)
      | (go_at_call 18; (with_reducible refine (rem_is A m c l x y z _ (HR.out.below HB1.out) hm hm8 hDX hq).mono ?_); rintro e W2 ⟨⟨A2, c2, rfl, ho2⟩, hb2⟩; have HO2 := Lib.hid ho2; have HB2 := Lib.hid (nx HB1.out hb2); clear hb2 ho2))
    refine bodyPost_ret (v := .tuple #[.slice A2 q c2, .bool false, .bool true]) (by simp [results, Try.results27, go_sem]) rfl ?_
    refine ⟨⟨A2, q, c2, rfl, ⟨hq.out, own_rdW HO2.out hq, ?_⟩, (own_lo HO2.out).mono (Nat.le_trans HBS.out HB1.out.size)⟩, HB2.out⟩
    obtain ⟨A5, c5, hv, h1, -, -⟩ := HO2.out.form
    rw [hq.out] at hv h1
    injection hv with _ _ h3
    omega
  · have h5' : ((n % 5) == 0) = false := by simpa using h5
    by_cases hc0 : inC l (clW n) = 0
    · have hXe : Hid (insW l (clW n) = X ∧ put = true) := Lib.hid (by
        have h := hX.out
        unfold stpW at h
        rw [if_neg h5, if_pos hc0] at h
        exact ⟨congrArg Prod.fst h, (congrArg Prod.snd h).symm⟩)
      have hpt := hXe.out.2
      subst hpt
      have hc : Hid (inC l ((x, y, z), (5, 0), g, 0) = 0) := Lib.hid (by rw [← hcl.out]; exact hc0)
      obtain ⟨k, hk⟩ : ∃ k, Hid (posW l ((x, y, z), (5, 0), g, 0) = k) := ⟨_, Lib.hid rfl⟩
      have hXX : Hid (putW l ((x, y, z), (5, 0), g, 0) k = X) := Lib.hid (by
        have h := hXe.out.1
        rw [hcl.out, insW, hk.out] at h
        exact h)
      have hXl : Hid (X.length = m + 1) := Lib.hid (by rw [← hXX.out, putW_len (by rw [← hk.out]; exact posW_le _ _), hm.out])
      clear hX hc0 h5
      go_enter Try.func27, Try.ntmps27
      go_wp2_with (first
        | (go_at_call 26; (with_reducible refine (mod_is n 8 _ hwf (by omega) (by omega) hg).mono ?_); rintro e W1 ⟨rfl, rfl⟩)
        | (go_at_call 30; (with_reducible refine (claim_is (n / 5) g _ hwf5 hp).mono ?_); rintro e W1 ⟨rfl, hb1⟩; have HB1 := Lib.hid hb1; clear hb1)
        | (go_at_call 15; (with_reducible refine (ins_ok A m c l x y z 5 0 g _ (HR.out.below HB1.out) hm hm8 hmc hc hk).mono ?_); rintro e W2 ⟨⟨A2, c2, rfl, ho2⟩, hb2⟩; have HO2 := Lib.hid ho2; have HB2 := Lib.hid (nx HB1.out hb2); clear hb2 ho2))
      refine bodyPost_ret (v := .tuple #[.slice A2 (m + 1) c2, .bool true, .bool true]) (by simp [results, Try.results27, go_sem]) rfl ?_
      have ho := HO2.out
      rw [hXX.out] at ho
      refine ⟨⟨A2, m + 1, c2, rfl, ⟨hXl.out, own_rdW ho hXl, ?_⟩, (own_lo ho).mono (Nat.le_trans HBS.out HB1.out.size)⟩, HB2.out⟩
      obtain ⟨A5, c5, hv, h1, -, -⟩ := ho.form
      rw [hXl.out] at hv h1
      injection hv with _ _ h3
      omega
    · have hXe : Hid (l = X ∧ put = false) := Lib.hid (by
        have h := hX.out
        unfold stpW at h
        rw [if_neg h5, if_neg hc0] at h
        exact ⟨congrArg Prod.fst h, (congrArg Prod.snd h).symm⟩)
      have hpt := hXe.out.2
      have hlx := hXe.out.1
      subst hpt
      subst hlx
      obtain ⟨code, hc⟩ : ∃ code, Hid (inC l ((x, y, z), (5, 0), g, 0) = code) := ⟨_, Lib.hid rfl⟩
      have hcc : code = 11 ∨ code = 4 := by
        have h := inC_cl hV.out n
        rw [hcl.out, hc.out] at h
        rw [hcl.out, hc.out] at hc0
        rcases h with h | h
        · exact absurd h hc0
        · exact h
      have h0 : Hid (code ≠ 0) := Lib.hid (by omega)
      clear hX hc0 h5
      rcases hcc with rfl | rfl
      all_goals (
        go_enter Try.func27, Try.ntmps27
        go_wp2_with (first
          | (go_at_call 26; (with_reducible refine (mod_is n 8 _ hwf (by omega) (by omega) hg).mono ?_); rintro e W1 ⟨rfl, rfl⟩)
          | (go_at_call 30; (with_reducible refine (claim_is (n / 5) g _ hwf5 hp).mono ?_); rintro e W1 ⟨rfl, hb1⟩; have HB1 := Lib.hid hb1; clear hb1)
          | (go_at_call 15; (with_reducible refine (ins_err A m c l x y z 5 0 g 0 _ (HR.out.below HB1.out) hm hm8 hc h0).mono ?_); rintro e W2 ⟨rfl, hb2⟩; have HB2 := Lib.hid (nx HB1.out hb2); clear hb2))
        refine bodyPost_ret (v := .tuple #[.slice A m c, .bool false, .bool true]) (by simp [results, Try.results27, go_sem]) rfl ?_
        exact ⟨⟨A, m, c, rfl, ⟨hm.out, HR.out.below HB2.out, hmc⟩, HLO.out⟩, HB2.out⟩)
end Go.Proofs.Ytfcekfdoafpmoaa
