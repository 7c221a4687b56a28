/- Contracts: exprText, Format, FormatExpr. -/
import Derived.Test.YtlokcmbkkfjlkaaGreatDoorRtxt
namespace Go.Proofs.YtlokcmbkkfjlkaaGreatDoor
open Go.RowKit
set_option linter.unusedVariables false
set_option linter.unusedSimpArgs false

/-- The texts of kids. -/
def tx8 (l : List Ex) : List ByteArray := l.map fun e => mkB e.txt
theorem tx8_len (l : List Ex) : (tx8 l).length = l.length := by simp [tx8]
theorem tx8_join (l : List Ex) : Lib.join ((tx8 l).map (·.data.toList)) [44, 32] = txF l := by
  rw [txF_join]
  congr 1
  simp [tx8, mkB_data, Function.comp_def]
theorem SRd.one_at (w : World) (T : TypeId) (x : ByteArray) {g : Nat} (hg : w.heap.size = g) : SRd (w.alloc (.cells #[.string x] T)) (some ⟨g, 0, none⟩) [x] := SRd.lit_at w T [x] hg
theorem vex_kids {k : Int} {a : A3} {l : List Ex} (hok : okL (Ex.nd k a l).pre) (hc : (Ex.nd k a l).cnt ≤ 24) {e : Ex} (he : e ∈ l) : okL e.pre ∧ e.cnt ≤ 24 := by
  rw [Ex.pre] at hok
  rw [Ex.cnt] at hc
  exact ⟨okL_kid (fun g hg => hok g (List.mem_cons_of_mem _ hg)) he, by have := cntL_le he; omega⟩
def TxtOk (e : Ex) : Prop := ∀ (B : Nat) (k : Int) (s : ByteArray) (m u : Int) (A : Option Addr) (n c : Nat) (w : World) (r : ByteArray), Hid (VB B w) → B ≤ w.heap.size → Hid (Tab w) → Hid (TIn (Lo w.heap.size) w ⟨k, s, m, u, A, n, c⟩ e) → Hid (okL e.pre) → e.cnt ≤ 24 → Hid (mkB e.txt = r) →
  Calls Tryz.prog 40 #[xe k s m u A n c] w fun x w' => x = .returned (.string r) ∧ Below w.heap.size w w'
set_option maxHeartbeats 8000000 in
set_option maxRecDepth 100000 in
theorem txt_all : ∀ e : Ex, TxtOk e := by
  refine Ex.ind fun ek ea l ih => ?_
  intro B k s m u A n c w r HV hBw HTab HT hok hc24 hr
  obtain ⟨es, em, eu⟩ := ea
  have hks := HT.out.1.1
  have e1 : k = ek := (Prod.mk.inj hks).1
  have e2 : (s, m, u) = (es, em, eu) := (Prod.mk.inj (Prod.mk.inj hks).2).1
  have e3 : n = l.length := (Prod.mk.inj (Prod.mk.inj hks).2).2
  obtain ⟨rfl, rfl, rfl⟩ : s = es ∧ m = em ∧ u = eu := by simpa using e2
  subst e1
  have HVR : Hid (VR w) := ⟨HV.out.here, HTab.out⟩
  have hcut := hok.out (.nd k (s, m, u) l) (by rw [Ex.pre]; simp)
  clear e2 hks
  by_cases hk0 : k = 0
  · have hat : atm (.nd k (s, m, u) l) = true := by
      rcases hcut with h | h
      · exfalso
        have := (grp_len h).2.1
        omega
      · exact h
    obtain ⟨_, _, hn1, hu1⟩ := atm_nd.1 hat
    have hn := Lib.hid hn1
    have hu := Lib.hid hu1
    have hr1 : Hid (mkB (atx (s, m, u)) = r) := by show _ = _; rw [← hr.out, Ex.txt, if_pos hk0]
    have b0 : (k == 0) = true := by rw [beq_iff_eq]; exact hk0
    clear hcut hat hn1 hu1 e3 hk0 hr
    go_enter Tryz.func40, Tryz.ntmps40
    go_wp2_with (go_at_call 63; refine (atomText_is s m u _ (HVR.out.below (newB _ _)) hn hu hr1).mono ?_; rintro x W1 ⟨rfl, hb1⟩)
    go_ret
    exact ⟨rfl, dn1 hb1⟩
  · have hgr : grp (.nd k (s, m, u) l) = true := by
      rcases hcut with h | h
      · exact h
      · exact absurd (atm_nd.1 h).1 hk0
    obtain ⟨hz, h1, h2⟩ := grp_len hgr
    have hln := cntL_len l
    have hcl : cntL l ≤ 23 := by rw [Ex.cnt] at hc24; omega
    have hn24 : n ≤ 24 := by omega
    have hkn : k ≤ (n : Int) := by omega
    have hn1 : 1 ≤ n := by omega
    have hn' : Hid (l.length = n) := e3.symm
    have hlen : Hid (∀ e ∈ l, e.txt.length ≤ 18 * e.cnt - 2) := fun e he => by
      obtain ⟨q1, q2⟩ := vex_kids hok.out hc24 he
      exact txt_len e q1 q2
    obtain ⟨Wd, hWd⟩ : ∃ Wd, Hid (mkB (wrd k n) = Wd) := ⟨_, rfl⟩
    obtain ⟨J, hJ⟩ : ∃ J, Hid (mkB (txF l) = J) := ⟨_, rfl⟩
    have hWs : Wd.size ≤ 6 := by rw [← hWd.out, mkB_size]; exact wrd_len h1 hkn hn24
    have hJs : J.size ≤ 432 := by rw [← hJ.out, mkB_size]; have := (txF_len hlen.out).1; omega
    have n1 : ¬ 9223372036854775807 < Wd.size + 1 := by omega
    have n2 : ¬ 9223372036854775807 < Wd.size + 1 + J.size := by omega
    have n3 : ¬ 9223372036854775807 < Wd.size + 1 + J.size + 1 := by omega
    have hend : Hid ((((Wd ++ ⟨#[40]⟩) ++ J) ++ ⟨#[41]⟩ : ByteArray) = r) := by
      show _ = _
      rw [← hr.out, ← hWd.out, ← hJ.out, Ex.txt, if_neg hk0, hn'.out]
      apply ba_ext
      rw [ba_data, ba_data, ba_data, mkB_data, mkB_data, mkB_data]
      simp
    have hjn : Hid (mkB (Lib.join ((tx8 l).map (·.data.toList)) [44, 32]) = J) := by show _ = _; rw [tx8_join]; exact hJ.out
    have hne : Hid (tx8 l ≠ []) := by
      show _ ≠ _
      intro h
      have := tx8_len l
      rw [h] at this
      simp at this
      omega
    have htl : Hid ((tx8 l).length = n) := by show _ = _; rw [tx8_len]; exact hn'.out
    have HJs : Hid (J.size ≤ 100000) := by show _ ≤ _; omega
    have b0 : (k == 0) = false := by rw [beq_eq_false_iff_ne]; exact hk0
    have HKR : Hid (KRd (Lo w.heap.size) w A l) := HT.out.2
    have HWK : Hid (1 ≤ k ∧ k ≤ (n : Int) ∧ n ≤ 24) := ⟨h1, hkn, hn24⟩
    clear hcut hgr hz h1 h2 hln e3 hk0 hr hkn hWs hJs
    go_enter Tryz.func40, Tryz.ntmps40
    go_wp2
    go_loopw [3, 15] (fun a i wr => ∃ (j : Nat) (A2 : Option Addr) (n2 c2 : Nat), j ≤ n ∧ i = .int .i64 j ∧ a = .slice A2 n2 c2 ∧ Hid (OwnS wr (w.heap.size + 1) (.slice A2 n2 c2) (tx8 (l.take j))) ∧ Hid (Below w.heap.size w wr) ∧ Hid (Blk wr w.heap.size [.int .i64 k, .string s, .int .i64 m, .int .i64 u, .slice A n c])) (fun _ i _ => n - (intOf i).toNat)
    case atStart => exact ⟨0, none, 0, 0, by omega, rfl, rfl, OwnS.nil _ _, newB _ _, Blk.new w [.int .i64 k, .string s, .int .i64 m, .int .i64 u, .slice A n c] _ rfl⟩
    case round =>
      obtain ⟨j, A2, n2, c2, hj, rfl, rfl, hO, hB, hK⟩ := hrel
      by_cases hlt : (j : Int) < (n : Int)
      · have hjl : j < l.length := by have := hn'.out; omega
        obtain ⟨g, o, ⟨k', s', m', u', A', n', c'⟩, rfl, hgb, hgs, ⟨z0, z1, z2, z3, z4⟩, hT'⟩ := (HKR.out.lo hB.out).at_ hjl
        have e5 : IntKind.i64.wrap ((j : Int) + 1) = (j : Int) + 1 := by rw [IntKind.wrap_i64]; omega
        have hmem := getD_memX hjl
        have IH := Lib.hid (ih _ hmem)
        have HKID := Lib.hid (vex_kids hok.out hc24 hmem)
        have HTL : Hid (tx8 (l.take (j + 1)) = tx8 (l.take j) ++ [mkB (l.getD j default).txt]) := by show _ = _; rw [take_snocX hjl]; simp [tx8]
        obtain ⟨f, hf⟩ : ∃ f, Hid (l.getD j default = f) := ⟨_, rfl⟩
        rw [hf.out] at IH hT' HKID HTL
        obtain ⟨X, hX⟩ : ∃ X, Hid (mkB f.txt = X) := ⟨_, rfl⟩
        rw [hX.out] at HTL
        have HT' : Hid (TIn (Lo wr.heap.size) wr ⟨k', s', m', u', A', n', c'⟩ f) := hT'.mono (fun b h => Nat.lt_of_lt_of_le h hB.out.size)
        have HOK : Hid (okL f.pre) := HKID.out.1
        have h1l : Hid (([X] : List ByteArray).length = 1) := rfl
        have hl2 : Hid ((tx8 (l.take j)).length + 1 ≤ 1000000) := by show _ ≤ _; rw [tx8_len, List.length_take]; omega
        have HVW : Hid (∀ Y : Obj, VB B (wr.alloc Y)) := fun Y => HV.out.below (((hB.out.mono hBw)).trans ((newB wr Y).mono (Nat.le_trans hBw hB.out.size)))
        have HTW : Hid (∀ Y : Obj, Tab (wr.alloc Y)) := fun Y => (HTab.out.below hB.out).below (newB wr Y)
        have HBW := Lib.hid (Nat.le_trans hBw hB.out.size)
        clear hT'
        go_wp2_with (first
          | (go_at_call 40; refine (IH.out B k' s' m' u' A' n' c' _ X (Lib.hid (HVW.out _)) (Nat.le_trans HBW.out (newB wr _).size) (Lib.hid (HTW.out _)) (Lib.hid (HT'.out.grow _)) HOK HKID.out.2 hX).mono ?_; rintro x W1 ⟨rfl, hb1⟩; have HB1 := Lib.hid (nx (newB wr _) hb1); clear hb1)
          | (at_builtin; (refine app_strs rfl (.tmp 19) (.tmp 22) rfl (w.heap.size + 1) (.slice A2 n2 c2) (tx8 (l.take j)) _ [X] 1 1 h1l rfl rfl (own_kept hO.out (fun q hq => (nxA HB1.out _).block q (own_lt hO.out hq).2)) (SRd.one_at _ _ X rfl) hl2 (Nat.le_trans (Nat.succ_le_of_lt hK.out.lt) (nxA HB1.out _).size) ?_); intro V2 w2 ho2 hb2; rw [← HTL.out] at ho2; obtain ⟨A3, c3, hV3, -, -⟩ := ho2.form; obtain ⟨k3, hk3⟩ : ∃ k3, Hid ((tx8 (l.take (j + 1))).length = k3) := ⟨_, rfl⟩; rw [hk3.out] at hV3; subst hV3; have HO2 := Lib.hid ho2; have HB2 := Lib.hid (hB.out.trans (((nxA HB1.out _).mono hB.out.size).trans (hb2.mono (Nat.le_succ _)))); have HK2 := Lib.hid ((hK.out.up (nxA HB1.out _) hK.out.lt).up hb2 (Nat.lt_succ_self _)); clear ho2 hb2))
        go_roundw
        case rel => exact ⟨j + 1, A3, k3, c3, by omega, by go_num, rfl, HO2, HB2, HK2⟩
        case measure => simp [intOf]; omega
      · have htk : Hid (tx8 (l.take j) = tx8 l) := by show _ = _; rw [List.take_of_length_le (by have := hn'.out; omega)]
        rw [htk.out] at hO
        obtain ⟨A3, c3, hV3, hfit, hrd⟩ := hO.out.form
        obtain ⟨rfl, rfl, rfl⟩ : A2 = A3 ∧ n2 = (tx8 l).length ∧ c2 = c3 := by simpa using hV3
        rw [htl.out] at hO hfit ⊢
        have HRD := Lib.hid hrd
        have q0 := hK.out.cell 0 rfl
        have q1 := hK.out.cell 1 rfl
        have q2 := hK.out.cell 2 rfl
        have q3 := hK.out.cell 3 rfl
        have q4 := hK.out.cell 4 rfl
        clear hV3 hrd
        go_wp2_with (first
          | (go_at_call 64; refine (groupWord_is k s m u A n c _ HWK.out.1 HWK.out.2.1 HWK.out.2.2 hWd).mono ?_; rintro x W1 ⟨rfl, hb1⟩; have HB1 := Lib.hid hb1; clear hb1)
          | (go_at_call 65; refine (join_r _ n _ (tx8 l) _ (HRD.out.below HB1.out) htl hne hfit (by omega) hjn HJs.out).mono ?_; rintro x W2 ⟨rfl, hb2⟩; have HB2 := Lib.hid (nx HB1.out hb2); clear hb2))
        go_ret
        exact ⟨by rw [← hend.out]; rfl, nx hB.out HB2.out⟩
end Go.Proofs.YtlokcmbkkfjlkaaGreatDoor
