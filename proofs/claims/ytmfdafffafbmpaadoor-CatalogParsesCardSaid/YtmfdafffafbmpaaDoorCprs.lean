/- Contract: Parse of the program. -/
import Derived.Test.YtmfdafffafbmpaaDoorCcol
import Derived.Test.YtmfdafffafbmpaaDoorCall
namespace Go.Proofs.YtmfdafffafbmpaaDoor
open Go.RowKit Go.Shelf
set_option linter.unusedVariables false
set_option linter.unusedSimpArgs false
attribute [local go_sem] Oper.semAt_some

theorem lines_is (s : ByteArray) (w : World) : Calls Tryd.prog 51 #[.string s] w fun e w' => e = .returned (.func (.func 65) #[] #[.pointer (some ⟨w.heap.size, 0, none⟩)]) ∧ w' = w.alloc (.cells #[.string s] 9) := by
  go_enter Tryd.func51, Tryd.ntmps51
  go_wp2
  go_ret
  exact ⟨rfl, rfl⟩
theorem parse_long (s : ByteArray) (hs : 1024 < (s.size : Int)) (w : World) : Calls Tryd.prog 35 #[.string s] w (LE [] 3 w) := by
  have hz := InR.none
  go_enter Tryd.func35, Tryd.ntmps35
  go_wp2
  exact bodyPost_ret (v := .tuple #[.slice none 0 0, .int .i64 3]) (by simp [results, Tryd.results35, go_sem]) rfl ⟨none, 0, 0, rfl, hz _, Below.refl _ _⟩
theorem rrd_fresh (W : World) (s : ByteArray) (k u h : Int) (T : TypeId) : RRd (W.alloc (.cells #[.string s, .int .i64 k, .int .i64 u, .int .i64 h] T)) (some ⟨W.heap.size, 0, none⟩) [(s, k, u, h)] := fun _ =>
  ⟨_, 0, rfl, by simp, fun i hi => by
    obtain rfl : i = 0 := by simpa using hi
    exact ⟨by simp, by simp, by simp, by simp⟩⟩
/-- The resources of the lines that have come. -/
abbrev plM (pre : List ByteArray) : List P4 := pre.map fun x => plF x.data.toList
set_option maxHeartbeats 4000000 in
set_option maxRecDepth 100000 in
theorem parse_walk (s : ByteArray) (hs : s.size ≤ 1024) (w : World) (hV : VP w) {r : ByteArray} (hr : Hid (Fmt (prg s) r)) {x : List P4} {e : Int} (hc : Hid ((r = s ∧ x = prg s ∧ e = 0) ∨ (r ≠ s ∧ x = [] ∧ e = 6))) :
    CallsIn Fence.wide 5 Tryd.prog 35 #[.string s] w (LE x e w) := by
  have HV := Lib.hid hV
  have hmix : Tryd.prog.follows .mixedOrders = true := by kernel_rfl
  have hs2 : ¬ 1024 < (s.size : Int) := by omega
  refine callsIn_of_wp_marks Tryd.func35 rfl trivial ?_ rfl
  simp only [Tryd.ntmps35, List.size_toArray, List.length_cons, List.length_nil, Nat.reduceAdd, Nat.reduceSub, Array.replicate_succ, Array.replicate_zero, List.push_toArray, List.append_toArray, List.nil_append, List.cons_append]
  gi_wp2_with (first | (refine ⟨trivial, ?_⟩; gi_at_call 51; refine (callsIn_wide.2 (lines_is _ _)).mono ?_; rintro e w' ⟨rfl, rfl⟩))
  have bO := Boxed.new w 24 (.slice none 0 0)
  have bN := Boxed.new (w.alloc (.cells #[.slice none 0 0] 24)) 9 (.string s)
  rw [World.size_alloc] at bN
  have HB0 : Hid (Below w.heap.size w ((w.alloc (.cells #[.slice none 0 0] 24)).alloc (.cells #[.string s] 9))) := new2 _ _ _
  have hcol0 : Hid (Col w.heap.size (w.heap.size + 1) w.heap.size [] ((w.alloc (.cells #[.slice none 0 0] 24)).alloc (.cells #[.string s] 9))) := ⟨⟨_, bO.alloc _, OwnR.nil _ _⟩, _, bN⟩
  have hne : w.heap.size ≠ w.heap.size + 1 := by omega
  have hI : OwnFrom ((w.alloc (.cells #[.slice none 0 0] 24)).alloc (.cells #[.string s] 9)).heap.size (fun (pre : List ByteArray) W => Col w.heap.size (w.heap.size + 1) w.heap.size (plM pre) W ∧ Below w.heap.size w W) :=
    ((Go.Own.from (I := fun (pre : List ByteArray) W => Col w.heap.size (w.heap.size + 1) w.heap.size (plM pre) W) (fun pre X Y row h hg hrow => Col.own _ _ _ _ X Y row h hg hrow) _).and (ownFrom_below (n₀ := w.heap.size) (B := ((w.alloc (.cells #[.slice none 0 0] 24)).alloc (.cells #[.string s] 9)).heap.size) (w₀ := w) (Nat.le_refl _) (by rw [World.size_alloc, World.size_alloc]; omega)))
  refine rangeFunc_own (by omega) (gf := 65) (lb := #[.pointer (some ⟨w.heap.size + 1, 0, none⟩)]) rfl (enters_of Tryd.func65 (by kernel_rfl) rfl)
    (encs := fun x : ByteArray => #[.string x]) (fun _ => rfl) (X := Sets (w.heap.size + 1)) (Kp := KeepC (w.heap.size + 1))
    (fun A B k o h => h.same k o) (fun A B C => KeepC.trans) (fun W l o o' _ hl ho => KeepC.put o' hl ho)
    (xs := (lns s.data.toList).map mkB) (Ok := fun pre x => x.size ≤ s.size ∧ pre.length < (lns s.data.toList).length) ?seq
    (fun pre W => Col w.heap.size (w.heap.size + 1) w.heap.size (plM pre) W ∧ Below w.heap.size w W)
    hI
    (fun pre A B h hx => ⟨h.1.sets hne hx, hx.below (by omega) h.2⟩) ⟨hcol0.out, HB0.out⟩ 
    (fun x => { tmps := #[.string s, undef, .slice none 0 0, .int .i64 0, .pointer (some ⟨w.heap.size, 0, none⟩), .string x, .string s, .int .i64 s.size, .bool false, .string s, .func (.func 65) #[] #[.pointer (some ⟨w.heap.size + 1, 0, none⟩)], .string x, undef, undef, undef, undef, undef, undef, undef, undef, undef, undef], defers := [] }) ?assign ?body ?done
  case seq =>
    intro l J W hb hst hy h0
    have hlt : w.heap.size + 1 < ((w.alloc (.cells #[.slice none 0 0] 24)).alloc (.cells #[.string s] 9)).heap.size := bN.lt
    exact lines_walk 4 (by omega) l (w.heap.size + 1) s (by omega) J hst hy W ((hb.cell (p := ⟨w.heap.size + 1, 0, none⟩) hlt).trans bN.cell) ((hb.frozen (p := ⟨w.heap.size + 1, 0, none⟩) hlt).trans bN.frozen) h0
  case assign =>
    intro l x W K hK
    gi_wp2
    exact hK
  case body =>
    rintro l pre z W ⟨⟨⟨V, hv, hown⟩, u, hu⟩, hB⟩ ⟨hzs, hzl⟩
    have hcell := hv.cell
    have HV1 := Lib.hid (HV.out.below (bdD hB))
    obtain ⟨qs, qk, qu, qh, hq⟩ : ∃ a b c d, Hid (plF z.data.toList = (a, b, c, d)) := ⟨_, _, _, _, rfl⟩
    have hx2 : z.size ≤ 100000 := by omega
    have hlen : Hid ((plM pre).length + 1 ≤ 1000000) := by
      have := (lns_sizes s.data.toList).1
      have h2 : s.data.toList.length = s.size := by simp
      show _ ≤ _
      rw [List.length_map]
      omega
    gi_wp2
    refine wpIn_region_any hmix ?_
    change wpAnyIn _ _ _ _ _ _ _ _ _ (World.drew _)
    refine wpAnyIn_ready (rs := [0, 1]) (by kernel_rfl) (by simp) ?_
    refine AllReadyIn.cons rfl (fun K hK => ?_) ?_
    · skip
      go_simp
      refine hK _ _ ?_
      clear hK K
      refine wpAnyIn_ready (rs := [1]) (by kernel_rfl) (by simp) ?_
      refine AllReadyIn.cons rfl (fun K hK => ?_) ?_
      · skip
        go_simp
        refine hK _ _ ?_
        clear hK K
        refine wpAnyIn_ready (rs := [2]) (by kernel_rfl) (by simp) ?_
        refine AllReadyIn.cons rfl (fun K hK => ?_) ?_
        · skip
          go_simp
          refine ⟨trivial, ?_⟩
          refine (CallsIn.inRound l (callsIn_wide.2 (parse_is _ hx2 _ HV1.out hq))).mono ?_
          rintro e W1 ⟨rfl, hb1⟩
          have HB1 := Lib.hid hb1
          have hc1 := (boxed_of (boxed_drew hv) hb1 hv.lt).cell
          clear hb1
          go_simp
          refine hK _ _ ?_
          clear hK K
          refine wpAnyIn_ready (rs := [3]) (by kernel_rfl) (by simp) ?_
          refine AllReadyIn.cons rfl (fun K hK => ?_) ?_
          · skip
            go_simp
            refine hK _ _ ?_
            clear hK K
            refine wpAnyIn_ready (rs := [4]) (by kernel_rfl) (by simp) ?_
            refine AllReadyIn.cons rfl (fun K hK => ?_) ?_
            · skip
              refine step_app_resIn rfl (.tmp 12) (.tmp 15) rfl w.heap.size _ (plM pre) (some ⟨W1.heap.size, 0, none⟩) [(qs, qk, qu, qh)] 1 1 rfl rfl rfl ((OwnR.below (w := W.drew) hown.drew HB1.out).below (newB _ _)) (rrd_fresh _ _ _ _ _ _) hlen (by rw [World.size_alloc]; have h7 : W.heap.size ≤ W1.heap.size := HB1.out.size; have := hB.size; omega) ?_
              intro V2 W2 ho2 _ hg2
              obtain ⟨k1, k2, k3, k4, k5⟩ := Col.more hne (Nat.le_refl _) hv hown hu hB.size HB1.out ho2 hg2
              obtain ⟨A2, c2, hV2, _⟩ := ho2.form
              rw [show (plM pre ++ [(qs, qk, qu, qh)]).length = pre.length + 1 by simp] at hV2
              subst hV2
              have hc2 := k1.cell
              have hf2 := k1.frozen
              refine hK _ _ ?_
              clear hK K
              refine wpAnyIn_ready (rs := [5]) (by kernel_rfl) (by simp) ?_
              refine AllReadyIn.cons rfl (fun K hK => ?_) ?_
              · skip
                go_simp
                refine hK _ _ ?_
                clear hK K
                refine wpAnyIn_done (by kernel_rfl) ?_ _
                gi_wp2
                refine ⟨?_, hB.trans k5⟩
                rw [hq.out]
                exact k4
              exact AllReadyIn.nil
            exact AllReadyIn.nil
          exact AllReadyIn.nil
        exact AllReadyIn.nil
      exact AllReadyIn.nil
    refine AllReadyIn.cons rfl (fun K hK => ?_) ?_
    · skip
      go_simp
      refine hK _ _ ?_
      clear hK K
      refine wpAnyIn_ready (rs := [0, 2]) (by kernel_rfl) (by simp) ?_
      refine AllReadyIn.cons rfl (fun K hK => ?_) ?_
      · skip
        go_simp
        refine hK _ _ ?_
        clear hK K
        refine wpAnyIn_ready (rs := [2]) (by kernel_rfl) (by simp) ?_
        refine AllReadyIn.cons rfl (fun K hK => ?_) ?_
        · skip
          go_simp
          refine ⟨trivial, ?_⟩
          refine (CallsIn.inRound l (callsIn_wide.2 (parse_is _ hx2 _ HV1.out hq))).mono ?_
          rintro e W1 ⟨rfl, hb1⟩
          have HB1 := Lib.hid hb1
          have hc1 := (boxed_of (boxed_drew hv) hb1 hv.lt).cell
          clear hb1
          go_simp
          refine hK _ _ ?_
          clear hK K
          refine wpAnyIn_ready (rs := [3]) (by kernel_rfl) (by simp) ?_
          refine AllReadyIn.cons rfl (fun K hK => ?_) ?_
          · skip
            go_simp
            refine hK _ _ ?_
            clear hK K
            refine wpAnyIn_ready (rs := [4]) (by kernel_rfl) (by simp) ?_
            refine AllReadyIn.cons rfl (fun K hK => ?_) ?_
            · skip
              refine step_app_resIn rfl (.tmp 12) (.tmp 15) rfl w.heap.size _ (plM pre) (some ⟨W1.heap.size, 0, none⟩) [(qs, qk, qu, qh)] 1 1 rfl rfl rfl ((OwnR.below (w := W.drew) hown.drew HB1.out).below (newB _ _)) (rrd_fresh _ _ _ _ _ _) hlen (by rw [World.size_alloc]; have h7 : W.heap.size ≤ W1.heap.size := HB1.out.size; have := hB.size; omega) ?_
              intro V2 W2 ho2 _ hg2
              obtain ⟨k1, k2, k3, k4, k5⟩ := Col.more hne (Nat.le_refl _) hv hown hu hB.size HB1.out ho2 hg2
              obtain ⟨A2, c2, hV2, _⟩ := ho2.form
              rw [show (plM pre ++ [(qs, qk, qu, qh)]).length = pre.length + 1 by simp] at hV2
              subst hV2
              have hc2 := k1.cell
              have hf2 := k1.frozen
              refine hK _ _ ?_
              clear hK K
              refine wpAnyIn_ready (rs := [5]) (by kernel_rfl) (by simp) ?_
              refine AllReadyIn.cons rfl (fun K hK => ?_) ?_
              · skip
                go_simp
                refine hK _ _ ?_
                clear hK K
                refine wpAnyIn_done (by kernel_rfl) ?_ _
                gi_wp2
                refine ⟨?_, hB.trans k5⟩
                rw [hq.out]
                exact k4
              exact AllReadyIn.nil
            exact AllReadyIn.nil
          exact AllReadyIn.nil
        exact AllReadyIn.nil
      refine AllReadyIn.cons rfl (fun K hK => ?_) ?_
      · skip
        go_simp
        refine ⟨trivial, ?_⟩
        refine (CallsIn.inRound l (callsIn_wide.2 (parse_is _ hx2 _ HV1.out hq))).mono ?_
        rintro e W1 ⟨rfl, hb1⟩
        have HB1 := Lib.hid hb1
        have hc1 := (boxed_of (boxed_drew hv) hb1 hv.lt).cell
        clear hb1
        go_simp
        refine hK _ _ ?_
        clear hK K
        refine wpAnyIn_ready (rs := [0, 3]) (by kernel_rfl) (by simp) ?_
        refine AllReadyIn.cons rfl (fun K hK => ?_) ?_
        · skip
          go_simp
          refine hK _ _ ?_
          clear hK K
          refine wpAnyIn_ready (rs := [3]) (by kernel_rfl) (by simp) ?_
          refine AllReadyIn.cons rfl (fun K hK => ?_) ?_
          · skip
            go_simp
            refine hK _ _ ?_
            clear hK K
            refine wpAnyIn_ready (rs := [4]) (by kernel_rfl) (by simp) ?_
            refine AllReadyIn.cons rfl (fun K hK => ?_) ?_
            · skip
              refine step_app_resIn rfl (.tmp 12) (.tmp 15) rfl w.heap.size _ (plM pre) (some ⟨W1.heap.size, 0, none⟩) [(qs, qk, qu, qh)] 1 1 rfl rfl rfl ((OwnR.below (w := W.drew) hown.drew HB1.out).below (newB _ _)) (rrd_fresh _ _ _ _ _ _) hlen (by rw [World.size_alloc]; have h7 : W.heap.size ≤ W1.heap.size := HB1.out.size; have := hB.size; omega) ?_
              intro V2 W2 ho2 _ hg2
              obtain ⟨k1, k2, k3, k4, k5⟩ := Col.more hne (Nat.le_refl _) hv hown hu hB.size HB1.out ho2 hg2
              obtain ⟨A2, c2, hV2, _⟩ := ho2.form
              rw [show (plM pre ++ [(qs, qk, qu, qh)]).length = pre.length + 1 by simp] at hV2
              subst hV2
              have hc2 := k1.cell
              have hf2 := k1.frozen
              refine hK _ _ ?_
              clear hK K
              refine wpAnyIn_ready (rs := [5]) (by kernel_rfl) (by simp) ?_
              refine AllReadyIn.cons rfl (fun K hK => ?_) ?_
              · skip
                go_simp
                refine hK _ _ ?_
                clear hK K
                refine wpAnyIn_done (by kernel_rfl) ?_ _
                gi_wp2
                refine ⟨?_, hB.trans k5⟩
                rw [hq.out]
                exact k4
              exact AllReadyIn.nil
            exact AllReadyIn.nil
          exact AllReadyIn.nil
        refine AllReadyIn.cons rfl (fun K hK => ?_) ?_
        · skip
          go_simp
          refine hK _ _ ?_
          clear hK K
          refine wpAnyIn_ready (rs := [0]) (by kernel_rfl) (by simp) ?_
          refine AllReadyIn.cons rfl (fun K hK => ?_) ?_
          · skip
            have hc3 := ((boxed_of (boxed_drew hv) HB1.out hv.lt).alloc (.cells #[.string qs, .int .i64 qk, .int .i64 qu, .int .i64 qh] 26)).cell
            go_simp
            refine hK _ _ ?_
            clear hK K
            refine wpAnyIn_ready (rs := [4]) (by kernel_rfl) (by simp) ?_
            refine AllReadyIn.cons rfl (fun K hK => ?_) ?_
            · skip
              refine step_app_resIn rfl (.tmp 12) (.tmp 15) rfl w.heap.size _ (plM pre) (some ⟨W1.heap.size, 0, none⟩) [(qs, qk, qu, qh)] 1 1 rfl rfl rfl ((OwnR.below (w := W.drew) hown.drew HB1.out).below (newB _ _)) (rrd_fresh _ _ _ _ _ _) hlen (by rw [World.size_alloc]; have h7 : W.heap.size ≤ W1.heap.size := HB1.out.size; have := hB.size; omega) ?_
              intro V2 W2 ho2 _ hg2
              obtain ⟨k1, k2, k3, k4, k5⟩ := Col.more hne (Nat.le_refl _) hv hown hu hB.size HB1.out ho2 hg2
              obtain ⟨A2, c2, hV2, _⟩ := ho2.form
              rw [show (plM pre ++ [(qs, qk, qu, qh)]).length = pre.length + 1 by simp] at hV2
              subst hV2
              have hc2 := k1.cell
              have hf2 := k1.frozen
              refine hK _ _ ?_
              clear hK K
              refine wpAnyIn_ready (rs := [5]) (by kernel_rfl) (by simp) ?_
              refine AllReadyIn.cons rfl (fun K hK => ?_) ?_
              · skip
                go_simp
                refine hK _ _ ?_
                clear hK K
                refine wpAnyIn_done (by kernel_rfl) ?_ _
                gi_wp2
                refine ⟨?_, hB.trans k5⟩
                rw [hq.out]
                exact k4
              exact AllReadyIn.nil
            exact AllReadyIn.nil
          exact AllReadyIn.nil
        exact AllReadyIn.nil
      exact AllReadyIn.nil
    exact AllReadyIn.nil
  case done =>
    rintro D W hD ⟨⟨⟨V, hv, hown⟩, u, hu⟩, hB⟩ hK
    have hown : OwnR W w.heap.size V (prg s) := hown
    have hcell := hv.cell
    obtain ⟨n, hn⟩ : ∃ n, Hid ((prg s).length = n) := ⟨_, rfl⟩
    have hn2 : n ≤ 1025 := by have := prg_len s; have := hn.out; omega
    obtain ⟨A, c, hVe, hAc, hrd, _⟩ := hown.form
    rw [hn.out] at hVe hAc
    subst hVe
    have hin : InR W A n c (prg s) := ⟨hn.out, hrd, hAc, by omega⟩
    have HIN := Lib.hid hin
    have HO : Hid (OwnR W w.heap.size (.slice A n c) (prg s)) := hown
    have HB := Lib.hid hB
    have hz := InR.none
    clear hown hrd hin hB hcol0 HB0
    rcases hc.out with ⟨h1, rfl, rfl⟩ | ⟨h1, rfl, rfl⟩
    · have heq : (r.toList == s.toList) = true := by rw [h1]; simp
      clear hc h1
      gi_wp2_with (first | (refine ⟨trivial, ?_⟩; gi_at_call 33; refine (callsIn_wide.2 (format_is _ _ _ _ _ HIN.out hr)).mono ?_; rintro e W5 ⟨rfl, hb5⟩; have HB5 := Lib.hid hb5; have HK5 : Hid (W5.heap[D]? = some (.deferred (some []))) := (hb5.block D (Array.getElem?_eq_some_iff.1 hK).1).trans hK; have hcell5 := (boxed_of hv hb5 hv.lt).cell; clear hb5))
      refine ⟨by simp, .inl ⟨_, _, rfl, run_takeDeferred HK5.out, ?_⟩⟩
      have ho5 : OwnR (W5.putObj D (.deferred none)) w.heap.size (.slice A n c) (prg s) := ownsRow_putObj (OwnR.below HO.out HB5.out) _ HK5.out rfl
      obtain ⟨A2, c2, hV2, hc2, hr2, _⟩ := ho5.form
      obtain ⟨rfl, _, rfl⟩ : A = A2 ∧ n = (prg s).length ∧ c = c2 := by injection hV2 with h1 h2 h3; exact ⟨h1, h2, h3⟩
      exact ⟨_, results_tmp2 rfl _ _ _, A, n, c, rfl, ⟨hn.out, hr2, hAc, by omega⟩, (nx HB.out HB5.out).trans (belowK_b (w := w) (Nat.le_refl _) W5 D _ _ (by simp at hD; omega) HK5.out rfl rfl)⟩
    · have heq : (r.toList == s.toList) = false := by
        cases hq : (r.toList == s.toList) with
        | false => rfl
        | true => exact absurd (eqS_iff.1 hq) h1
      clear hc h1
      gi_wp2_with (first | (refine ⟨trivial, ?_⟩; gi_at_call 33; refine (callsIn_wide.2 (format_is _ _ _ _ _ HIN.out hr)).mono ?_; rintro e W5 ⟨rfl, hb5⟩; have HB5 := Lib.hid hb5; have HK5 : Hid (W5.heap[D]? = some (.deferred (some []))) := (hb5.block D (Array.getElem?_eq_some_iff.1 hK).1).trans hK; have hcell5 := (boxed_of hv hb5 hv.lt).cell; clear hb5))
      refine ⟨by simp, .inl ⟨_, _, rfl, run_takeDeferred HK5.out, ?_⟩⟩
      exact ⟨_, results_tmp2 rfl _ _ _, none, 0, 0, rfl, hz _, (nx HB.out HB5.out).trans (belowK_b (w := w) (Nat.le_refl _) W5 D _ _ (by simp at hD; omega) HK5.out rfl rfl)⟩
theorem parse_prog (s : ByteArray) (w : World) (hV : VP w) {x : List P4} {e : Int} (hp : Hid (PRes s x e)) : Calls Tryd.prog 35 #[.string s] w (LE x e w) := by
  by_cases h : 1024 < s.size
  · rcases hp.out with ⟨h1, rfl, rfl⟩ | ⟨h1, _⟩ | ⟨h1, _⟩
    · exact parse_long s (by omega) w
    · omega
    · omega
  · obtain ⟨r, hr⟩ := fmt_ex (prg s)
    exact callsIn_wide.1 (parse_walk s (by omega) w hV hr (prg_cases (by omega) hp.out hr.out))
end Go.Proofs.YtmfdafffafbmpaaDoor
