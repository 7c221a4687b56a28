/- ParseProc walked. -/
import Derived.Test.YtchffamnamhcdaaDoorIparse
namespace Go.Proofs.YtchffamnamhcdaaDoor
open Go.RowKit

theorem split_is (s : ByteArray) (hs : s.size ≤ 140737488351232) (w : World) {n : Nat} (hn : Hid ((cutN (min 4 (s.size + 1) - 1) s.data.toList).length = n)) :
    Calls Tryd.prog 44 #[.string s, .string ⟨#[46]⟩, .int .i64 4] w fun e w' =>
      e = .returned (.slice (some ⟨w.heap.size, 0, none⟩) n (min 4 (s.size + 1))) ∧ w' = w.alloc (.cells (rowS (cutN (min 4 (s.size + 1) - 1) s.data.toList) (min 4 (s.size + 1))) 9) := by
  have h' := hn.out
  subst h'
  exact splitN_dot s hs w _ rfl

set_option maxHeartbeats 400000 in
theorem parse_len (s : ByteArray) (hs : s.size ≤ 140737488351232) (w : World) {n : Nat} (hn : Hid ((cutN (min 4 (s.size + 1) - 1) s.data.toList).length = n)) (h3 : ¬ n = 3) :
    Calls Tryd.prog 24 #[.string s] w (Parses s.data.toList w) := by
  have hno : Hid (∀ x y z, ¬ PText s.data.toList x y z) := fun x y z h => h3 (by rw [← hn.out, ptext_cut h]; rfl)
  obtain ⟨N, hN⟩ : ∃ N, min 4 (s.size + 1) = N := ⟨_, rfl⟩
  have hsp := fun W => split_is s hs W hn
  rw [hN] at hsp
  obtain ⟨cs, hcs⟩ : ∃ cs, rowS (cutN (N - 1) s.data.toList) N = cs := ⟨_, rfl⟩
  rw [hcs] at hsp
  have HS := Lib.hid hsp
  clear hsp hN hcs hn
  have h3' : ¬ (n : Int) = 3 := by omega
  clear h3
  go_enter Tryd.func24, Tryd.ntmps24
  go_wp2_with (go_at_call 44; refine (HS.out _).mono ?_; rintro e w' ⟨rfl, rfl⟩)
  exact bodyPost_ret (v := ParseV 0 0 0 false) (by simp [ParseV, results, Tryd.results24, go_sem]) rfl (parses_no hno.out (((Below.refl _ _).alloc (Nat.le_refl _) _).alloc (by simp) _))

theorem res_no {s : ByteArray} {x y z : List UInt8} (hc : cutN (min 4 (s.size + 1) - 1) s.data.toList = [x, y, z])
    (h : ∀ a b c, vpB a b c = true → x = dec a.toNat → y = dec b.toNat → z = dec c.toNat → s.data.toList = fmtP a b c → False) : ∀ a b c, ¬ PText s.data.toList a b c := fun a b c hp => by
  have e := ptext_cut hp
  rw [hc] at e
  injection e with e1 e2
  injection e2 with e2 e3
  injection e3 with e3 _
  exact h a b c hp.1 e1 e2 e3 hp.2
theorem vp_atoi {a b c : Int} (h : vpB a b c = true) : Lib.atoiAll (dec a.toNat) = .ok a ∧ Lib.atoiAll (dec b.toNat) = .ok b ∧ Lib.atoiAll (dec c.toNat) = .ok c := by
  have := vpB_true h
  refine ⟨?_, ?_, ?_⟩ <;> rw [atoi_dec (by omega), Int.toNat_of_nonneg (by omega)]
theorem pw_start (w : World) (N : Nat) (x y z : List UInt8) :
    PW w (((w.alloc (.cells #[.int .i64 0, .int .i64 0, .int .i64 0] 23)).alloc (.cells (rowS [x, y, z] N) 9)).alloc (.cells #[.int .i64 0, .int .i64 0, .int .i64 0] 56)) N x y z 0 0 0 := by
  refine ⟨(((Below.refl _ _).alloc (Nat.le_refl _) _).alloc (by simp) _).alloc (by simp; omega) _, by simp, ?_, ?_, ?_⟩
  · rw [heap_alloc_old _ _ (by simp; omega), heap_alloc_old _ _ (by simp), heap_alloc_new]
  · rw [heap_alloc_old _ _ (by simp)]
    have := heap_alloc_new (w.alloc (.cells #[.int .i64 0, .int .i64 0, .int .i64 0] 23)) (.cells (rowS [x, y, z] N) 9)
    simpa using this
  · have := heap_alloc_new ((w.alloc (.cells #[.int .i64 0, .int .i64 0, .int .i64 0] 23)).alloc (.cells (rowS [x, y, z] N) 9)) (.cells #[.int .i64 0, .int .i64 0, .int .i64 0] 56)
    simpa using this
theorem format_is (a b c : Int) (w : World) (hT : Tab w) {A : ByteArray} (h : Hid ((vpB a b c = true ∧ mkB (fmtP a b c) = A) ∨ (vpB a b c = false ∧ A = ⟨#[]⟩))) :
    Calls Tryd.prog 23 #[.agg #[.int .i64 a, .int .i64 b, .int .i64 c]] w fun e w' => e = .returned (.string A) ∧ Below w.heap.size w w' := by
  rcases h.out with ⟨h1, rfl⟩ | ⟨h1, rfl⟩
  · exact (format_yes a b c w h1 (fun _ => hT)).mono fun _ _ h => ⟨h.1, h.2.below⟩
  · exact (format_no a b c w h1).mono fun _ _ h => ⟨h.1, h.2.below⟩
theorem from_is (a b c : Int) (w : World) : Calls Tryd.prog 46 #[.agg #[.int .i64 a, .int .i64 b, .int .i64 c]] w fun e w' => e = .returned (.agg #[.int .i64 a, .int .i64 b, .int .i64 c]) ∧ Below w.heap.size w w' :=
  (fromNumbers_any a b c w).mono fun _ _ h => ⟨h.1, h.2.below⟩

set_option maxHeartbeats 1000000 in
theorem parse_three (s : ByteArray) (hs : s.size ≤ 140737488351232) (w : World) (hV : Vars w) {x y z : List UInt8} (hc : cutN (min 4 (s.size + 1) - 1) s.data.toList = [x, y, z]) :
    Calls Tryd.prog 24 #[.string s] w (Parses s.data.toList w) := by
  have HN : Hid (∀ {P : Prop}, (∀ a b c, vpB a b c = true → x = dec a.toNat → y = dec b.toNat → z = dec c.toNat → s.data.toList = fmtP a b c → False) → ((∀ a b c, ¬ PText s.data.toList a b c) → P) → P) := fun h k => k (res_no hc h)
  have hsz := cutN_sizes (min 4 (s.size + 1) - 1) s.data.toList
  rw [hc] at hsz
  have ss : s.size = s.data.toList.length := by simp
  have sx : (mkB x).size ≤ 140737488351232 := by rw [mkB_size]; have := hsz x (by simp); omega
  have sy : (mkB y).size ≤ 140737488351232 := by rw [mkB_size]; have := hsz y (by simp); omega
  have sz : (mkB z).size ≤ 140737488351232 := by rw [mkB_size]; have := hsz z (by simp); omega
  clear hsz ss
  obtain ⟨N, hN⟩ : ∃ N, min 4 (s.size + 1) = N := ⟨_, rfl⟩
  have hsp := fun W => split_is s hs W (n := 3) (by show _ = _; rw [hc]; rfl)
  rw [hc, hN] at hsp
  have HS := Lib.hid hsp
  have HV := Lib.hid hV
  have hN3 : (3 : Int) ≤ (N : Int) := by
    have := (cutN_len (N - 1) s.data.toList).2
    rw [← hN, hc] at this
    simp at this
    omega
  have hse : Hid (s ≠ ⟨#[]⟩) := fun e => by
    subst e
    rw [cutN_none (show cutDot (ByteArray.mk #[]).data.toList = none from rfl)] at hc
    injection hc with _ hc
    cases hc
  clear hsp hc hN hV
  go_enter Tryd.func24, Tryd.ntmps24
  go_wp2_with (go_at_call 44; refine (HS.out _).mono ?_; rintro e w' ⟨rfl, rfl⟩)
  go_loopw [19] (fun i wr => ∃ (k : Nat) (u v t : Int), k ≤ 3 ∧ i = .int .i64 k ∧ Hid (PW w wr N x y z u v t) ∧
      Hid ((1 ≤ k → Lib.atoiAll x = .ok u) ∧ (2 ≤ k → Lib.atoiAll y = .ok v) ∧ (3 ≤ k → Lib.atoiAll z = .ok t))) (fun i _ => 3 - (intOf i).toNat)
  case atStart => exact ⟨0, 0, 0, 0, by omega, rfl, pw_start w N x y z, ⟨by omega, by omega, by omega⟩⟩
  case round =>
    obtain ⟨k, u, v, t, hk, rfl, hpw, hat⟩ := hrel
    have hc : k = 0 ∨ k = 1 ∨ k = 2 ∨ k = 3 := by omega
    clear hk
    obtain ⟨⟨f0, f1, f2⟩, ⟨p0, p1, p2⟩, ⟨q0, q1, q2⟩, z0, z1, m0, m1, m2⟩ := hpw.out.facts
    rcases hc with rfl | rfl | rfl | rfl
    · by_cases hv : ∃ n, Lib.atoiAll x = .ok n
      · obtain ⟨n, hn⟩ := hv
        have HA : Hid (Lib.atoiAll (mkB x).data.toList = .ok n) := by show _ = _; rw [mkB_data]; exact hn
        have HB := Lib.hid hn
        clear hn
        go_wp2_with (go_at_call 45; refine (atoi_ok (mkB x) sx _ HA).mono ?_; rintro e W1 ⟨rfl, hb1⟩; have hpw1 := Lib.hid (hpw.out.below hb1); clear f0 f1 f2 p0 p1 p2 q0 q1 q2 z0 z1 m0 m1 m2; obtain ⟨_, _, ⟨q0, q1, q2⟩, _, z1, _, _, m2⟩ := hpw1.out.facts)
        go_roundw
        case rel => exact ⟨1, n, v, t, by omega, by go_num, hpw1.out.set n |>.1, ⟨fun _ => HB.out, by omega, by omega⟩⟩
        case measure => simp [intOf]
      · have HA : Hid (∀ n, ¬ Lib.atoiAll (mkB x).data.toList = .ok n) := fun n h => hv ⟨n, by rw [mkB_data] at h; exact h⟩
        have hno : Hid (∀ a b c, ¬ PText s.data.toList a b c) := HN.out (fun a b c h e1 e2 e3 _ => hv ⟨_, by rw [e1]; exact (vp_atoi h).1⟩) id
        have hvr := Lib.hid (HV.out.below hpw.out.1)
        clear hv
        go_wp2_with (go_at_call 45; refine (atoi_bad (mkB x) sx _ hvr.out HA).mono ?_; rintro e W1 ⟨m, kk, rfl, hb1⟩; have hpw1 := Lib.hid (hpw.out.below hb1); clear f0 f1 f2 p0 p1 p2 q0 q1 q2 z0 z1 m0 m1 m2; obtain ⟨⟨f0, f1, f2⟩, _, _, z0, _, m0, _, _⟩ := hpw1.out.facts)
        exact bodyPost_ret (v := ParseV 0 0 0 false) (by simp [ParseV, results, Tryd.results24, go_sem, f0, f1, f2]) rfl (parses_no hno.out (((hpw1.out.1.setCell (Nat.le_refl _) _).setCell (Nat.le_refl _) _).setCell (Nat.le_refl _) _))
    · by_cases hv : ∃ n, Lib.atoiAll y = .ok n
      · obtain ⟨n, hn⟩ := hv
        have HA : Hid (Lib.atoiAll (mkB y).data.toList = .ok n) := by show _ = _; rw [mkB_data]; exact hn
        have HB := Lib.hid hn
        clear hn
        go_wp2_with (go_at_call 45; refine (atoi_ok (mkB y) sy _ HA).mono ?_; rintro e W1 ⟨rfl, hb1⟩; have hpw1 := Lib.hid (hpw.out.below hb1); clear f0 f1 f2 p0 p1 p2 q0 q1 q2 z0 z1 m0 m1 m2; obtain ⟨_, _, ⟨q0, q1, q2⟩, _, z1, _, _, m2⟩ := hpw1.out.facts)
        go_roundw
        case rel => exact ⟨2, u, n, t, by omega, by go_num, hpw1.out.set n |>.2.1, ⟨fun _ => hat.out.1 (by omega), fun _ => HB.out, by omega⟩⟩
        case measure => simp [intOf]
      · have HA : Hid (∀ n, ¬ Lib.atoiAll (mkB y).data.toList = .ok n) := fun n h => hv ⟨n, by rw [mkB_data] at h; exact h⟩
        have hno : Hid (∀ a b c, ¬ PText s.data.toList a b c) := HN.out (fun a b c h e1 e2 e3 _ => hv ⟨_, by rw [e2]; exact (vp_atoi h).2.1⟩) id
        have hvr := Lib.hid (HV.out.below hpw.out.1)
        clear hv
        go_wp2_with (go_at_call 45; refine (atoi_bad (mkB y) sy _ hvr.out HA).mono ?_; rintro e W1 ⟨m, kk, rfl, hb1⟩; have hpw1 := Lib.hid (hpw.out.below hb1); clear f0 f1 f2 p0 p1 p2 q0 q1 q2 z0 z1 m0 m1 m2; obtain ⟨⟨f0, f1, f2⟩, _, _, z0, _, m0, _, _⟩ := hpw1.out.facts)
        exact bodyPost_ret (v := ParseV 0 0 0 false) (by simp [ParseV, results, Tryd.results24, go_sem, f0, f1, f2]) rfl (parses_no hno.out (((hpw1.out.1.setCell (Nat.le_refl _) _).setCell (Nat.le_refl _) _).setCell (Nat.le_refl _) _))
    · by_cases hv : ∃ n, Lib.atoiAll z = .ok n
      · obtain ⟨n, hn⟩ := hv
        have HA : Hid (Lib.atoiAll (mkB z).data.toList = .ok n) := by show _ = _; rw [mkB_data]; exact hn
        have HB := Lib.hid hn
        clear hn
        go_wp2_with (go_at_call 45; refine (atoi_ok (mkB z) sz _ HA).mono ?_; rintro e W1 ⟨rfl, hb1⟩; have hpw1 := Lib.hid (hpw.out.below hb1); clear f0 f1 f2 p0 p1 p2 q0 q1 q2 z0 z1 m0 m1 m2; obtain ⟨_, _, ⟨q0, q1, q2⟩, _, z1, _, _, m2⟩ := hpw1.out.facts)
        go_roundw
        case rel => exact ⟨3, u, v, n, by omega, by go_num, hpw1.out.set n |>.2.2, ⟨fun _ => hat.out.1 (by omega), fun _ => hat.out.2.1 (by omega), fun _ => HB.out⟩⟩
        case measure => simp [intOf]
      · have HA : Hid (∀ n, ¬ Lib.atoiAll (mkB z).data.toList = .ok n) := fun n h => hv ⟨n, by rw [mkB_data] at h; exact h⟩
        have hno : Hid (∀ a b c, ¬ PText s.data.toList a b c) := HN.out (fun a b c h e1 e2 e3 _ => hv ⟨_, by rw [e3]; exact (vp_atoi h).2.2⟩) id
        have hvr := Lib.hid (HV.out.below hpw.out.1)
        clear hv
        go_wp2_with (go_at_call 45; refine (atoi_bad (mkB z) sz _ hvr.out HA).mono ?_; rintro e W1 ⟨m, kk, rfl, hb1⟩; have hpw1 := Lib.hid (hpw.out.below hb1); clear f0 f1 f2 p0 p1 p2 q0 q1 q2 z0 z1 m0 m1 m2; obtain ⟨⟨f0, f1, f2⟩, _, _, z0, _, m0, _, _⟩ := hpw1.out.facts)
        exact bodyPost_ret (v := ParseV 0 0 0 false) (by simp [ParseV, results, Tryd.results24, go_sem, f0, f1, f2]) rfl (parses_no hno.out (((hpw1.out.1.setCell (Nat.le_refl _) _).setCell (Nat.le_refl _) _).setCell (Nat.le_refl _) _))
    · obtain ⟨A, hA⟩ : ∃ A, Hid ((vpB u v t = true ∧ mkB (fmtP u v t) = A) ∨ (vpB u v t = false ∧ A = ⟨#[]⟩)) := by
        cases h : vpB u v t
        · exact ⟨_, .inr ⟨rfl, rfl⟩⟩
        · exact ⟨_, .inl ⟨rfl, rfl⟩⟩
      have HE : Hid (∀ a b c, x = dec a.toNat → y = dec b.toNat → z = dec c.toNat → vpB a b c = true → a = u ∧ b = v ∧ c = t) := fun a b c e1 e2 e3 h => by
        obtain ⟨k1, k2, k3⟩ := vp_atoi h
        have l1 := hat.out.1 (by omega)
        have l2 := hat.out.2.1 (by omega)
        have l3 := hat.out.2.2 (by omega)
        rw [e1, k1] at l1
        rw [e2, k2] at l2
        rw [e3, k3] at l3
        injection l1 with l1
        injection l2 with l2
        injection l3 with l3
        exact ⟨l1, l2, l3⟩
      by_cases he : A = s
      · have hp : Hid (PText s.data.toList u v t) := by
          rcases hA.out with ⟨h1, h2⟩ | ⟨_, h2⟩
          · exact ⟨h1, by rw [← he, ← h2, mkB_data]⟩
          · exact absurd (he.symm.trans h2) hse.out
        subst he
        go_wp2_with (first
          | (go_at_call 46; refine (from_is _ _ _ _).mono ?_; rintro e W1 ⟨rfl, hb1⟩; have hpw1 := Lib.hid (hpw.out.below hb1))
          | (go_at_call 23; refine (format_is _ _ _ _ (HV.out.below (hpw1.out.below (newB _ _)).1).1 hA).mono ?_; rintro e W2 ⟨rfl, hb2⟩; have hpw2 := Lib.hid ((hpw1.out.below (newB _ _)).below hb2); obtain ⟨r0, r1, r2⟩ := box3 hb2; clear f0 f1 f2 p0 p1 p2 q0 q1 q2 z0 z1 m0 m1 m2; obtain ⟨⟨f0, f1, f2⟩, _, _, z0, _, m0, _, _⟩ := hpw2.out.facts))
        exact bodyPost_ret (v := ParseV u v t true) (by simp [ParseV, results, Tryd.results24, go_sem, f0, f1, f2]) rfl ⟨u, v, t, true, rfl, .inl ⟨rfl, hp.out⟩, ((hpw2.out.1.setCell (Nat.le_refl _) _).setCell (Nat.le_refl _) _).setCell (Nat.le_refl _) _⟩
      · have hno : Hid (∀ a b c, ¬ PText s.data.toList a b c) := HN.out (fun a b c h e1 e2 e3 e4 => by
          obtain ⟨rfl, rfl, rfl⟩ := HE.out a b c e1 e2 e3 h
          rcases hA.out with ⟨_, h2⟩ | ⟨h1, _⟩
          · exact he (by rw [← h2, ← e4, mkB_self])
          · rw [h] at h1; cases h1) id
        have hne : (A.toList == s.toList) = false := by
          rw [beq_eq_false_iff_ne]
          intro e
          rw [ByteArray.toList_eq, ByteArray.toList_eq] at e
          exact he (ByteArray.ext (Array.toList_inj.1 e))
        clear he
        go_wp2_with (first
          | (go_at_call 46; refine (from_is _ _ _ _).mono ?_; rintro e W1 ⟨rfl, hb1⟩; have hpw1 := Lib.hid (hpw.out.below hb1))
          | (go_at_call 23; refine (format_is _ _ _ _ (HV.out.below (hpw1.out.below (newB _ _)).1).1 hA).mono ?_; rintro e W2 ⟨rfl, hb2⟩; have hpw2 := Lib.hid ((hpw1.out.below (newB _ _)).below hb2); clear f0 f1 f2 p0 p1 p2 q0 q1 q2 z0 z1 m0 m1 m2; obtain ⟨⟨f0, f1, f2⟩, _, _, z0, _, m0, _, _⟩ := hpw2.out.facts))
        all_goals exact bodyPost_ret (v := ParseV 0 0 0 false) (by simp [ParseV, results, Tryd.results24, go_sem, f0, f1, f2]) rfl (parses_no hno.out (((hpw2.out.1.setCell (Nat.le_refl _) _).setCell (Nat.le_refl _) _).setCell (Nat.le_refl _) _))

/-- ParseProc, at every string. -/
theorem parse_any (s : ByteArray) (hs : s.size ≤ 140737488351232) (w : World) (hV : Vars w) : Calls Tryd.prog 24 #[.string s] w (Parses s.data.toList w) := by
  match h : cutN (min 4 (s.size + 1) - 1) s.data.toList with
  | [x, y, z] => exact parse_three s hs w hV h
  | [] => exact parse_len s hs w (n := 0) (by show _ = _; rw [h]; rfl) (by omega)
  | [_] => exact parse_len s hs w (n := 1) (by show _ = _; rw [h]; rfl) (by omega)
  | [_, _] => exact parse_len s hs w (n := 2) (by show _ = _; rw [h]; rfl) (by omega)
  | _ :: _ :: _ :: _ :: r => exact parse_len s hs w (n := r.length + 4) (by show _ = _; rw [h]; rfl) (by omega)
theorem parse_yes (s : ByteArray) (hs : s.size ≤ 140737488351232) (w : World) (hV : Vars w) {a b c : Int} (h : Hid (PText s.data.toList a b c)) :
    Calls Tryd.prog 24 #[.string s] w fun e w' => e = .returned (ParseV a b c true) ∧ Below w.heap.size w w' :=
  (parse_any s hs w hV).mono fun _ _ ⟨a', b', c', r, he, hr, hb⟩ => by
    rcases hr with ⟨rfl, hp⟩ | ⟨_, _, _, _, hn⟩
    · obtain ⟨rfl, rfl, rfl⟩ := hp.inj h.out
      exact ⟨he, hb⟩
    · exact absurd h.out (hn a b c)
theorem parse_no (s : ByteArray) (hs : s.size ≤ 140737488351232) (w : World) (hV : Vars w) (h : Hid (∀ a b c, ¬ PText s.data.toList a b c)) :
    Calls Tryd.prog 24 #[.string s] w fun e w' => e = .returned (ParseV 0 0 0 false) ∧ Below w.heap.size w w' :=
  (parse_any s hs w hV).mono fun _ _ ⟨a', b', c', r, he, hr, hb⟩ => by
    rcases hr with ⟨_, hp⟩ | ⟨rfl, rfl, rfl, rfl, _⟩
    · exact absurd hp (h.out _ _ _)
    · exact ⟨he, hb⟩
end Go.Proofs.YtchffamnamhcdaaDoor
