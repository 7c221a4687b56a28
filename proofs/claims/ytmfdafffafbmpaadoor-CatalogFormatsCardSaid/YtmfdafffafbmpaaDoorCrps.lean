/- Contract: Parse of the reference. -/
import Derived.Test.YtmfdafffafbmpaaDoorCrpp
import Derived.Test.YtmfdafffafbmpaaDoorCprs
import Derived.Test.YtmfdafffafbmpaaDoorCall
namespace Go.Proofs.YtmfdafffafbmpaaDoor
open Go.RowKit
open Go.Sort (grow)
set_option linter.unusedVariables false
set_option linter.unusedSimpArgs false

theorem rrd_siz (W : World) (s : ByteArray) (k u h : Int) (T : TypeId) {g : Nat} (hg : W.heap.size = g) : RRd (W.alloc (.cells #[.string s, .int .i64 k, .int .i64 u, .int .i64 h] T)) (some ⟨g, 0, none⟩) [(s, k, u, h)] := by
  subst hg
  exact rrd_fresh W s k u h T
/-- The world in which the words are four again. -/
abbrev PX (W : World) (k : Nat) (x y : Int) (n0 n1 n2 n3 : ByteArray) (T : TypeId) : World := ((W.setCell ⟨k, 1, none⟩ (.int .i64 x)).setCell ⟨k, 2, none⟩ (.int .i64 y)).drew.alloc (.cells #[.string n0, .string n1, .string n2, .string n3] T)
theorem px {W V : World} {k : Nat} {s : ByteArray} {a b h : Int} (x y : Int) (n0 n1 n2 n3 : ByteArray) (T : TypeId) (hS : S4 W k s a b h) (hf : ∀ o, o < 4 → W.frozen? ⟨k, o, none⟩ = false) (hk : k < W.heap.size)
    (hb : Below (PX W k x y n0 n1 n2 n3 T).heap.size (PX W k x y n0 n1 n2 n3 T) V) :
    S4 V k s x y h ∧ (V.frozen? ⟨k, 0, none⟩ = false ∧ V.frozen? ⟨k, 1, none⟩ = false ∧ V.frozen? ⟨k, 2, none⟩ = false ∧ V.frozen? ⟨k, 3, none⟩ = false) ∧
      V.cell? ⟨W.heap.size, 1, none⟩ = some (.string n1) ∧ V.cell? ⟨W.heap.size, 2, none⟩ = some (.string n2) ∧ V.cell? ⟨W.heap.size, 3, none⟩ = some (.string n3) := by
  obtain ⟨h0, h1, h2, h3⟩ := hS
  have hlt : k < (PX W k x y n0 n1 n2 n3 T).heap.size := by simp [PX]; omega
  have hlw : W.heap.size < (PX W k x y n0 n1 n2 n3 T).heap.size := by simp [PX]
  have hin := newB ((W.setCell ⟨k, 1, none⟩ (.int .i64 x)).setCell ⟨k, 2, none⟩ (.int .i64 y)).drew (.cells #[.string n0, .string n1, .string n2, .string n3] T)
  have hk2 : k < ((W.setCell ⟨k, 1, none⟩ (.int .i64 x)).setCell ⟨k, 2, none⟩ (.int .i64 y)).drew.heap.size := by simpa using hk
  refine ⟨⟨(hb.cell (p := ⟨k, 0, none⟩) hlt).trans ((hin.cell (p := ⟨k, 0, none⟩) hk2).trans ?_), (hb.cell (p := ⟨k, 1, none⟩) hlt).trans ((hin.cell (p := ⟨k, 1, none⟩) hk2).trans ?_), (hb.cell (p := ⟨k, 2, none⟩) hlt).trans ((hin.cell (p := ⟨k, 2, none⟩) hk2).trans ?_), (hb.cell (p := ⟨k, 3, none⟩) hlt).trans ((hin.cell (p := ⟨k, 3, none⟩) hk2).trans ?_)⟩,
    ⟨(hb.frozen (p := ⟨k, 0, none⟩) hlt).trans ((hin.frozen (p := ⟨k, 0, none⟩) hk2).trans ?_), (hb.frozen (p := ⟨k, 1, none⟩) hlt).trans ((hin.frozen (p := ⟨k, 1, none⟩) hk2).trans ?_), (hb.frozen (p := ⟨k, 2, none⟩) hlt).trans ((hin.frozen (p := ⟨k, 2, none⟩) hk2).trans ?_), (hb.frozen (p := ⟨k, 3, none⟩) hlt).trans ((hin.frozen (p := ⟨k, 3, none⟩) hk2).trans ?_)⟩,
    (hb.cell (p := ⟨W.heap.size, 1, none⟩) hlw).trans ?_, (hb.cell (p := ⟨W.heap.size, 2, none⟩) hlw).trans ?_, (hb.cell (p := ⟨W.heap.size, 3, none⟩) hlw).trans ?_⟩
  all_goals (first | (simp [PX, go_sem, h0, h1, h2, h3]; done) | (simp [World.frozen?_setCell]; exact hf _ (by omega)) | skip)
theorem refParse_long (s : ByteArray) (hs : 1024 < (s.size : Int)) (w : World) : Calls Tryd.prog 36 #[.string s] w (LE [] 3 w) := by
  have hz := InR.none
  go_enter Tryd.func36, Tryd.ntmps36
  go_wp2
  exact bodyPost_ret (v := .tuple #[.slice none 0 0, .int .i64 3]) (by simp [results, Tryd.results36, go_sem]) rfl ⟨none, 0, 0, rfl, hz _, Below.refl _ _⟩
set_option maxHeartbeats 8000000 in
set_option maxRecDepth 100000 in
theorem refParse_walk (s : ByteArray) (hs : s.size ≤ 1024) (w : World) {x : List P4} {e : Int} (hp : Hid (PRes s x e)) : Calls Tryd.prog 36 #[.string s] w (LE x e w) := by
  have hs2 : ¬ 1024 < (s.size : Int) := by omega
  have HS := Lib.hid hs
  have hz : Hid (∀ W, InR W none 0 0 []) := fun W => InR.none W
  obtain ⟨ps, hps⟩ : ∃ ps, Hid ((spl 10 s.data.toList).1 = ps) := ⟨_, rfl⟩
  obtain ⟨m, hm⟩ : ∃ m, Hid (ps.length = m) := ⟨_, rfl⟩
  have hml : m ≤ 1024 := by have := (spl_len 10 s.data.toList).1; rw [hps.out, hm.out] at this; simp at this; omega
  go_enter Tryd.func36, Tryd.ntmps36
  go_wp2_with (first | (go_at_call 53; refine (cut_is _ hs _ hps hm).mono ?_; rintro e W1 ⟨g, cp, rfl, hc1, hg1, hg2, hb1⟩; have HC1 := Lib.hid hc1; have HB1 := Lib.hid hb1; have HG1 := Lib.hid hg1; clear hc1 hb1 hg1 hg2))
  clear hs
  go_loopw [4, 6] (fun V i wr => ∃ (j : Nat) (X : List P4), j ≤ m ∧ i = .int .i64 j ∧ Hid ((ps.take j).map rdL = X.map some) ∧ Hid (OwnR wr W1.heap.size V X) ∧ Hid (Below W1.heap.size W1 wr)) (fun _ i _ => m - (intOf i).toNat)
  case atStart => exact ⟨0, [], by omega, rfl, rfl, OwnR.nil _ _, Below.refl _ _⟩
  case round =>
    obtain ⟨j, X, hj, rfl, hX, hO, hB⟩ := hrel
    have hXl : X.length = j := by have := congrArg List.length hX.out; rw [List.length_map, List.length_map, List.length_take, hm.out] at this; omega
    have HXl := Lib.hid hXl
    clear hXl
    have e5 : IntKind.i64.wrap ((j : Int) + 1) = (j : Int) + 1 := by rw [IntKind.wrap_i64]; omega
    by_cases hlt : (j : Int) < (m : Int)
    · obtain ⟨p, hpj⟩ : ∃ p, ps[j]? = some p := ⟨_, List.getElem?_eq_getElem (by have := hm.out; omega)⟩
      obtain ⟨P, hP⟩ : ∃ P, Hid (mkB p = P) := ⟨_, rfl⟩
      have hPd : P.data.toList = p := by rw [← hP.out, mkB_data]
      have hPs : P.size ≤ 1024 := by
        have h1 := piece_len 10 s.data.toList (p := p) (by rw [hps.out]; exact List.mem_of_getElem? hpj)
        rw [← hP.out, mkB_size]
        have h2 : s.data.toList.length = s.size := by simp
        have := HS.out
        omega
      have HPs := Lib.hid hPs
      have d1 : wr.cell? ⟨g, j, none⟩ = some (.string P) := by rw [← hP.out]; exact (hB.out.cell (p := ⟨g, j, none⟩) HG1.out).trans (HC1.out j p hpj)
      obtain ⟨ws, hws⟩ : ∃ ws, Hid (wof P.data.toList = ws) := ⟨_, rfl⟩
      have hrd : Hid (rdL p = rdW ws) := by show _ = _; rw [← hws.out, hPd]; rfl
      have hfail : Hid (rdW ws = none → x = [] ∧ e = 6) := fun hn => rp_fail HS.out hp.out (j := j) (p := p) (by rw [hps.out]; exact hpj) (hrd.out.trans hn)
      have hgood : Hid (∀ q, rdW ws = some q → (ps.take (j + 1)).map rdL = (X ++ [q]).map some) := fun q hq => by
        rw [List.take_add_one, hpj, List.map_append, hX.out, List.map_append]
        simp [hrd.out, hq]
      have HPJ := Lib.hid hpj
      clear hPs hPd hpj
      rcases wcase ws with ⟨hno, hw⟩ | ⟨b, c, q, u, h, rfl, hc, hq, hr⟩ | ⟨b, d, h, rfl, hd, hr⟩
      · obtain ⟨rfl, rfl⟩ := hfail.out hno
        clear hno hfail hgood
        rcases hw with ⟨h4, h5⟩ | ⟨a, b, c, d, rfl, ha⟩ | ⟨a, b, c, d, q, rfl, ha⟩ | ⟨b, c, d, q, rfl, hc⟩ | ⟨b, c, d, q, u, rfl, hc, hq⟩ | ⟨b, c, d, q, u, h, rfl, hc, hq, hd⟩ | ⟨b, c, d, rfl, hd⟩ | ⟨b, c, d, h, rfl, hd, hc⟩
        · obtain ⟨n, hn⟩ : ∃ n, Hid (ws.length = n) := ⟨_, rfl⟩
          rw [hn.out] at h4 h5
          go_wp2_with (first | (go_at_call 53; refine (words_is _ HPs.out _ hws hn).mono ?_; rintro e W2 ⟨g2, c2, rfl, hc2, hg3, hg4, hb2⟩; have HB2 := Lib.hid hb2; have HG2 := Lib.hid hg3; have hgn : ¬ g2 = W2.heap.size := (by omega); have hle : wr.heap.size ≤ W2.heap.size := hb2.size; have HC := Lib.hid (fun i x (hi : _[i]? = some x) W (hW : Below W2.heap.size W2 W) => (hW.cell (p := ⟨g2, i, none⟩) hg3).trans (hc2 i x hi));  clear hb2 hg4 hc2))
          exact bodyPost_ret (v := .tuple #[.slice none 0 0, .int .i64 6]) (by simp [results, Tryd.results36, go_sem]) rfl ⟨none, 0, 0, rfl, hz.out _, nx HB1.out (nx hB.out (nxA HB2.out _))⟩
        · obtain ⟨A, hA⟩ : ∃ A, Hid (mkB a = A) := ⟨_, rfl⟩
          have he : (A.toList == [108, 111, 99, 107]) = false := by rw [← hA.out]; exact word_no ha
          have hn4 : Hid ([a, b, c, d].length = 4) := rfl
          go_wp2_with (first | (go_at_call 53; refine (words_is _ HPs.out _ hws hn4).mono ?_; rintro e W2 ⟨g2, c2, rfl, hc2, hg3, hg4, hb2⟩; have HB2 := Lib.hid hb2; have HG2 := Lib.hid hg3; have hgn : ¬ g2 = W2.heap.size := (by omega); have hle : wr.heap.size ≤ W2.heap.size := hb2.size; have HC := Lib.hid (fun i x (hi : _[i]? = some x) W (hW : Below W2.heap.size W2 W) => (hW.cell (p := ⟨g2, i, none⟩) hg3).trans (hc2 i x hi)); have f0 : W2.cell? ⟨g2, 0, none⟩ = some (.string A) := (by rw [← hA.out]; exact hc2 0 _ rfl);  clear hb2 hg4 hc2))
          exact bodyPost_ret (v := .tuple #[.slice none 0 0, .int .i64 6]) (by simp [results, Tryd.results36, go_sem]) rfl ⟨none, 0, 0, rfl, hz.out _, nx HB1.out (nx hB.out (nxA HB2.out _))⟩
        · obtain ⟨A, hA⟩ : ∃ A, Hid (mkB a = A) := ⟨_, rfl⟩
          have he : (A.toList == [112, 111, 111, 108]) = false := by rw [← hA.out]; exact word_no ha
          have hn5 : Hid ([a, b, c, d, q].length = 5) := rfl
          go_wp2_with (first | (go_at_call 53; refine (words_is _ HPs.out _ hws hn5).mono ?_; rintro e W2 ⟨g2, c2, rfl, hc2, hg3, hg4, hb2⟩; have HB2 := Lib.hid hb2; have HG2 := Lib.hid hg3; have hgn : ¬ g2 = W2.heap.size := (by omega); have hle : wr.heap.size ≤ W2.heap.size := hb2.size; have HC := Lib.hid (fun i x (hi : _[i]? = some x) W (hW : Below W2.heap.size W2 W) => (hW.cell (p := ⟨g2, i, none⟩) hg3).trans (hc2 i x hi)); have f0 : W2.cell? ⟨g2, 0, none⟩ = some (.string A) := (by rw [← hA.out]; exact hc2 0 _ rfl);  clear hb2 hg4 hc2))
          exact bodyPost_ret (v := .tuple #[.slice none 0 0, .int .i64 6]) (by simp [results, Tryd.results36, go_sem]) rfl ⟨none, 0, 0, rfl, hz.out _, nx HB1.out (nx hB.out (nxA HB2.out _))⟩
        · obtain ⟨C, hC⟩ : ∃ C, Hid (mkB c = C) := ⟨_, rfl⟩
          have hno : Hid (numO C.data.toList = none) := by show _ = _; rw [← hC.out, mkB_data]; exact hc
          clear hc
          have hn5 : Hid ([sPool, b, c, d, q].length = 5) := rfl
          go_wp2_with (first
            | (go_at_call 53; refine (words_is _ HPs.out _ hws hn5).mono ?_; rintro e W2 ⟨g2, c2, rfl, hc2, hg3, hg4, hb2⟩; have HB2 := Lib.hid hb2; have HG2 := Lib.hid hg3; have hgn : ¬ g2 = W2.heap.size := (by omega); have hle : wr.heap.size ≤ W2.heap.size := hb2.size; have HC := Lib.hid (fun i x (hi : _[i]? = some x) W (hW : Below W2.heap.size W2 W) => (hW.cell (p := ⟨g2, i, none⟩) hg3).trans (hc2 i x hi)); have f0 : W2.cell? ⟨g2, 0, none⟩ = some (.string ⟨#[112, 111, 111, 108]⟩) := hc2 0 _ rfl; have f2 : W2.cell? ⟨g2, 2, none⟩ = some (.string C) := (by rw [← hC.out]; exact hc2 2 _ rfl);  clear hb2 hg4 hc2)
            | (go_at_call 54; refine (num_no _ _ hno).mono ?_; rintro e W3 ⟨rfl, hb3⟩; have HB3 := Lib.hid (nx (nxA HB2.out _) hb3); clear hb3))
          exact bodyPost_ret (v := .tuple #[.slice none 0 0, .int .i64 6]) (by simp [results, Tryd.results36, go_sem]) rfl ⟨none, 0, 0, rfl, hz.out _, nx HB1.out (nx hB.out HB3.out)⟩
        · obtain ⟨N, hN⟩ : ∃ N, Hid (mkB b = N) := ⟨_, rfl⟩
          obtain ⟨C, hC⟩ : ∃ C, Hid (mkB c = C) := ⟨_, rfl⟩
          obtain ⟨D, hD⟩ : ∃ D, Hid (mkB d = D) := ⟨_, rfl⟩
          obtain ⟨Q, hQ⟩ : ∃ Q, Hid (mkB q = Q) := ⟨_, rfl⟩
          have hyesC : Hid (numO C.data.toList = some u) := by show _ = _; rw [← hC.out, mkB_data]; exact hc
          clear hc
          have hno : Hid (numO Q.data.toList = none) := by show _ = _; rw [← hQ.out, mkB_data]; exact hq
          clear hq
          have hn5 : Hid ([sPool, b, c, d, q].length = 5) := rfl
          go_wp2_with (first
            | (go_at_call 53; refine (words_is _ HPs.out _ hws hn5).mono ?_; rintro e W2 ⟨g2, c2, rfl, hc2, hg3, hg4, hb2⟩; have HB2 := Lib.hid hb2; have HG2 := Lib.hid hg3; have hgn : ¬ g2 = W2.heap.size := (by omega); have hle : wr.heap.size ≤ W2.heap.size := hb2.size; have HC := Lib.hid (fun i x (hi : _[i]? = some x) W (hW : Below W2.heap.size W2 W) => (hW.cell (p := ⟨g2, i, none⟩) hg3).trans (hc2 i x hi)); have f0 : W2.cell? ⟨g2, 0, none⟩ = some (.string ⟨#[112, 111, 111, 108]⟩) := hc2 0 _ rfl; have f2 : W2.cell? ⟨g2, 2, none⟩ = some (.string C) := (by rw [← hC.out]; exact hc2 2 _ rfl);  clear hb2 hg4 hc2)
            | (go_at_call 54; refine (num_yes _ _ hyesC).mono ?_; rintro e W3 ⟨rfl, hb3⟩; have HB3 := Lib.hid (nx (nxA HB2.out _) hb3); have HF := Lib.hid (fun o (ho : o < 4) => (hb3.frozen (p := ⟨W2.heap.size, o, none⟩) (by simp)).trans (by simp : _ = false)); have hkl : W2.heap.size < W3.heap.size := Nat.lt_of_lt_of_le (by simp) hb3.size; obtain ⟨z0, z1, z2, z3⟩ := S4.of hb3 (by simp) (S4.new W2 ⟨#[]⟩ 1 1 0); have y0 : W3.frozen? ⟨W2.heap.size, 0, none⟩ = false := (hb3.frozen (p := ⟨W2.heap.size, 0, none⟩) (by simp)).trans (by simp); have y1 : W3.frozen? ⟨W2.heap.size, 1, none⟩ = false := (hb3.frozen (p := ⟨W2.heap.size, 1, none⟩) (by simp)).trans (by simp); have y2 : W3.frozen? ⟨W2.heap.size, 2, none⟩ = false := (hb3.frozen (p := ⟨W2.heap.size, 2, none⟩) (by simp)).trans (by simp); have y3 : W3.frozen? ⟨W2.heap.size, 3, none⟩ = false := (hb3.frozen (p := ⟨W2.heap.size, 3, none⟩) (by simp)).trans (by simp); have b0 : W3.cell? ⟨g2, 0, none⟩ = some (.string ⟨#[112, 111, 111, 108]⟩) := HC.out 0 _ rfl W3 (nx (newB W2 _) hb3); have b1 : W3.cell? ⟨g2, 1, none⟩ = some (.string N) := (by rw [← hN.out]; exact HC.out 1 _ rfl W3 (nx (newB W2 _) hb3)); have b3 : W3.cell? ⟨g2, 3, none⟩ = some (.string D) := (by rw [← hD.out]; exact HC.out 3 _ rfl W3 (nx (newB W2 _) hb3)); have b4 : W3.cell? ⟨g2, 4, none⟩ = some (.string Q) := (by rw [← hQ.out]; exact HC.out 4 _ rfl W3 (nx (newB W2 _) hb3));  clear hb3))
          go_region
          all_goals (
            go_wp2_with (first | (go_at_call 54; refine (num_no _ _ hno).mono ?_; rintro e W4 ⟨rfl, hb4⟩; have HB4 := Lib.hid (nx (nxA (bdD ((HB3.out.setCell (p := ⟨W2.heap.size, 1, none⟩) hle _).setCell (p := ⟨W2.heap.size, 2, none⟩) hle _)) _) hb4); clear hb4))
            exact bodyPost_ret (v := .tuple #[.slice none 0 0, .int .i64 6]) (by simp [results, Tryd.results36, go_sem]) rfl ⟨none, 0, 0, rfl, hz.out _, nx HB1.out (nx hB.out HB4.out)⟩)
        · obtain ⟨N, hN⟩ : ∃ N, Hid (mkB b = N) := ⟨_, rfl⟩
          obtain ⟨C, hC⟩ : ∃ C, Hid (mkB c = C) := ⟨_, rfl⟩
          obtain ⟨D, hD⟩ : ∃ D, Hid (mkB d = D) := ⟨_, rfl⟩
          obtain ⟨Q, hQ⟩ : ∃ Q, Hid (mkB q = Q) := ⟨_, rfl⟩
          have he : (D.toList == [97, 116]) = false := by rw [← hD.out]; exact word_no hd
          clear hd
          have hyesC : Hid (numO C.data.toList = some u) := by show _ = _; rw [← hC.out, mkB_data]; exact hc
          clear hc
          have hyesQ : Hid (numO Q.data.toList = some h) := by show _ = _; rw [← hQ.out, mkB_data]; exact hq
          clear hq
          have hn5 : Hid ([sPool, b, c, d, q].length = 5) := rfl
          go_wp2_with (first
            | (go_at_call 53; refine (words_is _ HPs.out _ hws hn5).mono ?_; rintro e W2 ⟨g2, c2, rfl, hc2, hg3, hg4, hb2⟩; have HB2 := Lib.hid hb2; have HG2 := Lib.hid hg3; have hgn : ¬ g2 = W2.heap.size := (by omega); have hle : wr.heap.size ≤ W2.heap.size := hb2.size; have HC := Lib.hid (fun i x (hi : _[i]? = some x) W (hW : Below W2.heap.size W2 W) => (hW.cell (p := ⟨g2, i, none⟩) hg3).trans (hc2 i x hi)); have f0 : W2.cell? ⟨g2, 0, none⟩ = some (.string ⟨#[112, 111, 111, 108]⟩) := hc2 0 _ rfl; have f2 : W2.cell? ⟨g2, 2, none⟩ = some (.string C) := (by rw [← hC.out]; exact hc2 2 _ rfl);  clear hb2 hg4 hc2)
            | (go_at_call 54; refine (num_yes _ _ hyesC).mono ?_; rintro e W3 ⟨rfl, hb3⟩; have HB3 := Lib.hid (nx (nxA HB2.out _) hb3); have HF := Lib.hid (fun o (ho : o < 4) => (hb3.frozen (p := ⟨W2.heap.size, o, none⟩) (by simp)).trans (by simp : _ = false)); have hkl : W2.heap.size < W3.heap.size := Nat.lt_of_lt_of_le (by simp) hb3.size; obtain ⟨z0, z1, z2, z3⟩ := S4.of hb3 (by simp) (S4.new W2 ⟨#[]⟩ 1 1 0); have y0 : W3.frozen? ⟨W2.heap.size, 0, none⟩ = false := (hb3.frozen (p := ⟨W2.heap.size, 0, none⟩) (by simp)).trans (by simp); have y1 : W3.frozen? ⟨W2.heap.size, 1, none⟩ = false := (hb3.frozen (p := ⟨W2.heap.size, 1, none⟩) (by simp)).trans (by simp); have y2 : W3.frozen? ⟨W2.heap.size, 2, none⟩ = false := (hb3.frozen (p := ⟨W2.heap.size, 2, none⟩) (by simp)).trans (by simp); have y3 : W3.frozen? ⟨W2.heap.size, 3, none⟩ = false := (hb3.frozen (p := ⟨W2.heap.size, 3, none⟩) (by simp)).trans (by simp); have b0 : W3.cell? ⟨g2, 0, none⟩ = some (.string ⟨#[112, 111, 111, 108]⟩) := HC.out 0 _ rfl W3 (nx (newB W2 _) hb3); have b1 : W3.cell? ⟨g2, 1, none⟩ = some (.string N) := (by rw [← hN.out]; exact HC.out 1 _ rfl W3 (nx (newB W2 _) hb3)); have b3 : W3.cell? ⟨g2, 3, none⟩ = some (.string D) := (by rw [← hD.out]; exact HC.out 3 _ rfl W3 (nx (newB W2 _) hb3)); have b4 : W3.cell? ⟨g2, 4, none⟩ = some (.string Q) := (by rw [← hQ.out]; exact HC.out 4 _ rfl W3 (nx (newB W2 _) hb3));  clear hb3))
          go_region
          all_goals (
            go_wp2_with (first | (go_at_call 54; refine (num_yes _ _ hyesQ).mono ?_; rintro e W4 ⟨rfl, hb4⟩; have HB4 := Lib.hid (nx (nxA (bdD ((HB3.out.setCell (p := ⟨W2.heap.size, 1, none⟩) hle _).setCell (p := ⟨W2.heap.size, 2, none⟩) hle _)) _) hb4); obtain ⟨⟨x0, x1, x2, x3⟩, ⟨v0, v1, v2, v3⟩, e1, e2, e3⟩ := px _ _ _ _ _ _ _ ⟨z0, z1, z2, z3⟩ HF.out hkl hb4; clear hb4))
            exact bodyPost_ret (v := .tuple #[.slice none 0 0, .int .i64 6]) (by simp [results, Tryd.results36, go_sem]) rfl ⟨none, 0, 0, rfl, hz.out _, nx HB1.out (nx hB.out HB4.out)⟩)
        · obtain ⟨D, hD⟩ : ∃ D, Hid (mkB d = D) := ⟨_, rfl⟩
          have hno : Hid (numO D.data.toList = none) := by show _ = _; rw [← hD.out, mkB_data]; exact hd
          clear hd
          have hn4 : Hid ([sLock, b, c, d].length = 4) := rfl
          go_wp2_with (first
            | (go_at_call 53; refine (words_is _ HPs.out _ hws hn4).mono ?_; rintro e W2 ⟨g2, c2, rfl, hc2, hg3, hg4, hb2⟩; have HB2 := Lib.hid hb2; have HG2 := Lib.hid hg3; have hgn : ¬ g2 = W2.heap.size := (by omega); have hle : wr.heap.size ≤ W2.heap.size := hb2.size; have HC := Lib.hid (fun i x (hi : _[i]? = some x) W (hW : Below W2.heap.size W2 W) => (hW.cell (p := ⟨g2, i, none⟩) hg3).trans (hc2 i x hi)); have f0 : W2.cell? ⟨g2, 0, none⟩ = some (.string ⟨#[108, 111, 99, 107]⟩) := hc2 0 _ rfl; have f3 : W2.cell? ⟨g2, 3, none⟩ = some (.string D) := (by rw [← hD.out]; exact hc2 3 _ rfl);  clear hb2 hg4 hc2)
            | (go_at_call 54; refine (num_no _ _ hno).mono ?_; rintro e W3 ⟨rfl, hb3⟩; have HB3 := Lib.hid (nx (nxA HB2.out _) hb3); clear hb3))
          exact bodyPost_ret (v := .tuple #[.slice none 0 0, .int .i64 6]) (by simp [results, Tryd.results36, go_sem]) rfl ⟨none, 0, 0, rfl, hz.out _, nx HB1.out (nx hB.out HB3.out)⟩
        · obtain ⟨C, hC⟩ : ∃ C, Hid (mkB c = C) := ⟨_, rfl⟩
          obtain ⟨D, hD⟩ : ∃ D, Hid (mkB d = D) := ⟨_, rfl⟩
          have he : (C.toList == [97, 116]) = false := by rw [← hC.out]; exact word_no hc
          clear hc
          have hyesD : Hid (numO D.data.toList = some h) := by show _ = _; rw [← hD.out, mkB_data]; exact hd
          clear hd
          have hn4 : Hid ([sLock, b, c, d].length = 4) := rfl
          go_wp2_with (first
            | (go_at_call 53; refine (words_is _ HPs.out _ hws hn4).mono ?_; rintro e W2 ⟨g2, c2, rfl, hc2, hg3, hg4, hb2⟩; have HB2 := Lib.hid hb2; have HG2 := Lib.hid hg3; have hgn : ¬ g2 = W2.heap.size := (by omega); have hle : wr.heap.size ≤ W2.heap.size := hb2.size; have HC := Lib.hid (fun i x (hi : _[i]? = some x) W (hW : Below W2.heap.size W2 W) => (hW.cell (p := ⟨g2, i, none⟩) hg3).trans (hc2 i x hi)); have f0 : W2.cell? ⟨g2, 0, none⟩ = some (.string ⟨#[108, 111, 99, 107]⟩) := hc2 0 _ rfl; have f3 : W2.cell? ⟨g2, 3, none⟩ = some (.string D) := (by rw [← hD.out]; exact hc2 3 _ rfl);  clear hb2 hg4 hc2)
            | (go_at_call 54; refine (num_yes _ _ hyesD).mono ?_; rintro e W3 ⟨rfl, hb3⟩; have HB3 := Lib.hid (nx (nxA HB2.out _) hb3); have b2 : W3.cell? ⟨g2, 2, none⟩ = some (.string C) := (by rw [← hC.out]; exact HC.out 2 _ rfl W3 (nx (newB W2 _) hb3));  clear hb3))
          exact bodyPost_ret (v := .tuple #[.slice none 0 0, .int .i64 6]) (by simp [results, Tryd.results36, go_sem]) rfl ⟨none, 0, 0, rfl, hz.out _, nx HB1.out (nx hB.out HB3.out)⟩
      · obtain ⟨N, hN⟩ : ∃ N, Hid (mkB b = N) := ⟨_, rfl⟩
        obtain ⟨C, hC⟩ : ∃ C, Hid (mkB c = C) := ⟨_, rfl⟩
        obtain ⟨Q, hQ⟩ : ∃ Q, Hid (mkB q = Q) := ⟨_, rfl⟩
        have hyesC : Hid (numO C.data.toList = some u) := by show _ = _; rw [← hC.out, mkB_data]; exact hc
        clear hc
        have hyesQ : Hid (numO Q.data.toList = some h) := by show _ = _; rw [← hQ.out, mkB_data]; exact hq
        clear hq
        have hn5 : Hid ([sPool, b, c, sAt, q].length = 5) := rfl
        have hlen : Hid (X.length + 1 ≤ 3518437208880) := by show _ ≤ _; have := HXl.out; omega
        have hgd : Hid ((ps.take (j + 1)).map rdL = (X ++ [(N, 2, (u : Int), (h : Int))]).map some) := by show _ = _; rw [← hN.out]; exact hgood.out _ hr
        clear hr
        go_wp2_with (first
          | (go_at_call 53; refine (words_is _ HPs.out _ hws hn5).mono ?_; rintro e W2 ⟨g2, c2, rfl, hc2, hg3, hg4, hb2⟩; have HB2 := Lib.hid hb2; have HG2 := Lib.hid hg3; have hgn : ¬ g2 = W2.heap.size := (by omega); have hle : wr.heap.size ≤ W2.heap.size := hb2.size; have HC := Lib.hid (fun i x (hi : _[i]? = some x) W (hW : Below W2.heap.size W2 W) => (hW.cell (p := ⟨g2, i, none⟩) hg3).trans (hc2 i x hi)); have f0 : W2.cell? ⟨g2, 0, none⟩ = some (.string ⟨#[112, 111, 111, 108]⟩) := hc2 0 _ rfl; have f2 : W2.cell? ⟨g2, 2, none⟩ = some (.string C) := (by rw [← hC.out]; exact hc2 2 _ rfl);  clear hb2 hg4 hc2)
          | (go_at_call 54; refine (num_yes _ _ hyesC).mono ?_; rintro e W3 ⟨rfl, hb3⟩; have HB3 := Lib.hid (nx (nxA HB2.out _) hb3); have HF := Lib.hid (fun o (ho : o < 4) => (hb3.frozen (p := ⟨W2.heap.size, o, none⟩) (by simp)).trans (by simp : _ = false)); have hkl : W2.heap.size < W3.heap.size := Nat.lt_of_lt_of_le (by simp) hb3.size; obtain ⟨z0, z1, z2, z3⟩ := S4.of hb3 (by simp) (S4.new W2 ⟨#[]⟩ 1 1 0); have y0 : W3.frozen? ⟨W2.heap.size, 0, none⟩ = false := (hb3.frozen (p := ⟨W2.heap.size, 0, none⟩) (by simp)).trans (by simp); have y1 : W3.frozen? ⟨W2.heap.size, 1, none⟩ = false := (hb3.frozen (p := ⟨W2.heap.size, 1, none⟩) (by simp)).trans (by simp); have y2 : W3.frozen? ⟨W2.heap.size, 2, none⟩ = false := (hb3.frozen (p := ⟨W2.heap.size, 2, none⟩) (by simp)).trans (by simp); have y3 : W3.frozen? ⟨W2.heap.size, 3, none⟩ = false := (hb3.frozen (p := ⟨W2.heap.size, 3, none⟩) (by simp)).trans (by simp); have b0 : W3.cell? ⟨g2, 0, none⟩ = some (.string ⟨#[112, 111, 111, 108]⟩) := HC.out 0 _ rfl W3 (nx (newB W2 _) hb3); have b1 : W3.cell? ⟨g2, 1, none⟩ = some (.string N) := (by rw [← hN.out]; exact HC.out 1 _ rfl W3 (nx (newB W2 _) hb3)); have b3 : W3.cell? ⟨g2, 3, none⟩ = some (.string ⟨#[97, 116]⟩) := HC.out 3 _ rfl W3 (nx (newB W2 _) hb3); have b4 : W3.cell? ⟨g2, 4, none⟩ = some (.string Q) := (by rw [← hQ.out]; exact HC.out 4 _ rfl W3 (nx (newB W2 _) hb3));  clear hb3))
        go_region
        all_goals (
          go_wp2_with (first
            | (go_at_call 54; refine (num_yes _ _ hyesQ).mono ?_; rintro e W4 ⟨rfl, hb4⟩; have HB4 := Lib.hid (nx (nxA (bdD ((HB3.out.setCell (p := ⟨W2.heap.size, 1, none⟩) hle _).setCell (p := ⟨W2.heap.size, 2, none⟩) hle _)) _) hb4); obtain ⟨⟨x0, x1, x2, x3⟩, ⟨v0, v1, v2, v3⟩, e1, e2, e3⟩ := px _ _ _ _ _ _ _ ⟨z0, z1, z2, z3⟩ HF.out hkl hb4; clear hb4)
            | (at_builtin; (refine app_res rfl (.tmp 95) (.tmp 97) rfl W1.heap.size _ X (some ⟨_, 0, none⟩) [(N, 2, (u : Int), (h : Int))] 1 1 rfl rfl rfl (OwnR.below hO.out (nxA ((HB4.out.setCell (p := ⟨W2.heap.size, 0, none⟩) hle _).setCell (p := ⟨W2.heap.size, 3, none⟩) hle _) _)) (rrd_siz _ _ _ _ _ _ (by simp)) hlen (Nat.le_trans hB.out.size (Below.size (nxA ((HB4.out.setCell (p := ⟨W2.heap.size, 0, none⟩) hle _).setCell (p := ⟨W2.heap.size, 3, none⟩) hle _) _))) ?_); intro V2 W5 ho5 hb5; have HO5 := Lib.hid ho5; have HB5 := Lib.hid ((nx hB.out (nxA ((HB4.out.setCell (p := ⟨W2.heap.size, 0, none⟩) hle _).setCell (p := ⟨W2.heap.size, 3, none⟩) hle _) _)).trans hb5); clear ho5 hb5))
          go_roundw
          case rel => exact ⟨j + 1, X ++ [_], by omega, by go_num, hgd, HO5, HB5⟩
          case measure => simp [intOf]; omega)
      · obtain ⟨N, hN⟩ : ∃ N, Hid (mkB b = N) := ⟨_, rfl⟩
        obtain ⟨D, hD⟩ : ∃ D, Hid (mkB d = D) := ⟨_, rfl⟩
        have hyesD : Hid (numO D.data.toList = some h) := by show _ = _; rw [← hD.out, mkB_data]; exact hd
        clear hd
        have hn4 : Hid ([sLock, b, sAt, d].length = 4) := rfl
        have hlen : Hid (X.length + 1 ≤ 3518437208880) := by show _ ≤ _; have := HXl.out; omega
        have hgd : Hid ((ps.take (j + 1)).map rdL = (X ++ [(N, 1, 1, (h : Int))]).map some) := by show _ = _; rw [← hN.out]; exact hgood.out _ hr
        clear hr
        go_wp2_with (first
          | (go_at_call 53; refine (words_is _ HPs.out _ hws hn4).mono ?_; rintro e W2 ⟨g2, c2, rfl, hc2, hg3, hg4, hb2⟩; have HB2 := Lib.hid hb2; have HG2 := Lib.hid hg3; have hgn : ¬ g2 = W2.heap.size := (by omega); have hle : wr.heap.size ≤ W2.heap.size := hb2.size; have HC := Lib.hid (fun i x (hi : _[i]? = some x) W (hW : Below W2.heap.size W2 W) => (hW.cell (p := ⟨g2, i, none⟩) hg3).trans (hc2 i x hi)); have f0 : W2.cell? ⟨g2, 0, none⟩ = some (.string ⟨#[108, 111, 99, 107]⟩) := hc2 0 _ rfl; have f3 : W2.cell? ⟨g2, 3, none⟩ = some (.string D) := (by rw [← hD.out]; exact hc2 3 _ rfl);  clear hb2 hg4 hc2)
          | (go_at_call 54; refine (num_yes _ _ hyesD).mono ?_; rintro e W3 ⟨rfl, hb3⟩; have HB3 := Lib.hid (nx (nxA HB2.out _) hb3); obtain ⟨z0, z1, z2, z3⟩ := S4.of hb3 (by simp) (S4.new W2 ⟨#[]⟩ 1 1 0); have y0 : W3.frozen? ⟨W2.heap.size, 0, none⟩ = false := (hb3.frozen (p := ⟨W2.heap.size, 0, none⟩) (by simp)).trans (by simp); have y1 : W3.frozen? ⟨W2.heap.size, 1, none⟩ = false := (hb3.frozen (p := ⟨W2.heap.size, 1, none⟩) (by simp)).trans (by simp); have y2 : W3.frozen? ⟨W2.heap.size, 2, none⟩ = false := (hb3.frozen (p := ⟨W2.heap.size, 2, none⟩) (by simp)).trans (by simp); have y3 : W3.frozen? ⟨W2.heap.size, 3, none⟩ = false := (hb3.frozen (p := ⟨W2.heap.size, 3, none⟩) (by simp)).trans (by simp); have b1 : W3.cell? ⟨g2, 1, none⟩ = some (.string N) := (by rw [← hN.out]; exact HC.out 1 _ rfl W3 (nx (newB W2 _) hb3)); have b2 : W3.cell? ⟨g2, 2, none⟩ = some (.string ⟨#[97, 116]⟩) := HC.out 2 _ rfl W3 (nx (newB W2 _) hb3);  clear hb3)
          | (at_builtin; (refine app_res rfl (.tmp 95) (.tmp 97) rfl W1.heap.size _ X (some ⟨_, 0, none⟩) [(N, 1, 1, (h : Int))] 1 1 rfl rfl rfl (OwnR.below hO.out (nxA ((HB3.out.setCell (p := ⟨W2.heap.size, 0, none⟩) hle _).setCell (p := ⟨W2.heap.size, 3, none⟩) hle _) _)) (rrd_siz _ _ _ _ _ _ (by simp)) hlen (Nat.le_trans hB.out.size (Below.size (nxA ((HB3.out.setCell (p := ⟨W2.heap.size, 0, none⟩) hle _).setCell (p := ⟨W2.heap.size, 3, none⟩) hle _) _))) ?_); intro V2 W5 ho5 hb5; have HO5 := Lib.hid ho5; have HB5 := Lib.hid ((nx hB.out (nxA ((HB3.out.setCell (p := ⟨W2.heap.size, 0, none⟩) hle _).setCell (p := ⟨W2.heap.size, 3, none⟩) hle _) _)).trans hb5); clear ho5 hb5))
        go_roundw
        case rel => exact ⟨j + 1, X ++ [_], by omega, by go_num, hgd, HO5, HB5⟩
        case measure => simp [intOf]; omega
    · have hXe : (spl 10 s.data.toList).1.map rdL = X.map some := by
        have := hX.out
        rw [List.take_of_length_le (by have := hm.out; omega)] at this
        rw [hps.out]
        exact this
      obtain ⟨A, c, hVe, hAc, hrx, _⟩ := hO.out.form
      obtain ⟨n, hn⟩ : ∃ n, n = X.length := ⟨_, rfl⟩
      rw [← hn] at hVe hAc
      subst hVe
      have hXn : Hid (X.length = n) := hn.symm
      have HI : Hid (InR wr A n c X) := ⟨hn.symm, hrx, hAc, by have := HXl.out; omega⟩
      have hcs := rp_end HS.out hp.out hXe
      clear hn hrx hAc hXe
      rcases hcs with ⟨hv, h1, rfl, rfl⟩ | ⟨hv, rfl, rfl⟩ | ⟨hv, h1, rfl, rfl⟩
      · have hr : Hid (Fmt x s) := .inl ⟨hv, h1⟩
        have hv := Lib.hid hv
        clear h1
        go_wp2_with (first
          | (go_at_call 21; refine (refVcat_yes _ _ _ _ _ HI.out.rd hXn hv).mono ?_; rintro e W6 ⟨rfl, hg6⟩; have HB6 := Lib.hid hg6.below; clear hg6)
          | (go_at_call 34; refine (refFormat_is _ _ _ _ _ (HI.out.below HB6.out) hr).mono ?_; rintro e W7 ⟨rfl, hb7⟩; have HB7 := Lib.hid (nx HB6.out hb7); clear hb7))
        exact bodyPost_ret (v := .tuple #[.slice A n c, .int .i64 0]) (by simp [results, Tryd.results36, go_sem]) rfl ⟨A, n, c, rfl, HI.out.below HB7.out, nx HB1.out (nx hB.out HB7.out)⟩
      · have hv := Lib.hid hv
        go_wp2_with (first
          | (go_at_call 21; refine (refVcat_no _ _ _ _ _ HI.out.rd hXn hv).mono ?_; rintro e W6 ⟨rfl, hg6⟩; have HB6 := Lib.hid hg6.below; clear hg6))
        exact bodyPost_ret (v := .tuple #[.slice none 0 0, .int .i64 6]) (by simp [results, Tryd.results36, go_sem]) rfl ⟨none, 0, 0, rfl, hz.out _, nx HB1.out (nx hB.out HB6.out)⟩
      · obtain ⟨T, hT⟩ : ∃ T, Hid (mkB (txtL X) = T) := ⟨_, rfl⟩
        have hr : Hid (Fmt X T) := .inl ⟨hv, hT.out.symm⟩
        have hv := Lib.hid hv
        have heq : (T.toList == s.toList) = false := by
          cases hq : (T.toList == s.toList) with
          | false => rfl
          | true => exact absurd ((eqS_iff.1 hq).symm.trans hT.out.symm) h1
        clear h1
        go_wp2_with (first
          | (go_at_call 21; refine (refVcat_yes _ _ _ _ _ HI.out.rd hXn hv).mono ?_; rintro e W6 ⟨rfl, hg6⟩; have HB6 := Lib.hid hg6.below; clear hg6)
          | (go_at_call 34; refine (refFormat_is _ _ _ _ _ (HI.out.below HB6.out) hr).mono ?_; rintro e W7 ⟨rfl, hb7⟩; have HB7 := Lib.hid (nx HB6.out hb7); clear hb7))
        exact bodyPost_ret (v := .tuple #[.slice none 0 0, .int .i64 6]) (by simp [results, Tryd.results36, go_sem]) rfl ⟨none, 0, 0, rfl, hz.out _, nx HB1.out (nx hB.out HB7.out)⟩
theorem refParse_is (s : ByteArray) (w : World) {x : List P4} {e : Int} (hp : Hid (PRes s x e)) : Calls Tryd.prog 36 #[.string s] w (LE x e w) := by
  by_cases h : 1024 < s.size
  · rcases hp.out with ⟨h1, rfl, rfl⟩ | ⟨h1, _⟩ | ⟨h1, _⟩
    · exact refParse_long s (by omega) w
    · omega
    · omega
  · exact refParse_walk s (by omega) w hp
end Go.Proofs.YtmfdafffafbmpaaDoor
