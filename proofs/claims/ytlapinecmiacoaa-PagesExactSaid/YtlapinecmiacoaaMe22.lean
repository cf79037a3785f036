/-
  Law 22: PagesExact, walked. Condition: the deeds are there.
-/
import Derived.Test.YtlapinecmiacoaaMe19
import Derived.Test.YtlapinecmiacoaaMe21
import Derived.Deep.RegionHeld3
import Derived.Deep.CutBlock
import Derived.Deep.DeepCutAuto
import Derived.Deep.LoopGhost
set_option maxRecDepth 100000
namespace Go.Proofs.Ytlapinecmiacoaa.PgEx
open Go.ChangeShapes Go.WideShapes Go.ChangeAt Go.RowKit Nm Cf Vc Sp Pg

set_option maxRecDepth 100000 in
set_option maxHeartbeats 16000000 in
set_option profiler true in
set_option profiler.threshold 2000 in
theorem walk (w : World) (n : Int) (A : Option Addr) (len cap : Nat) (X : Nat → Ac) (hA : ActsIn w A len X) :
    Calls Try.prog 3 #[.int .i64 n, .slice A len cap] w fun e w' => e = .returned (.bool true) ∧ Below w.heap.size w w' := by
  have HA := Lib.hid hA
  clear hA
  by_cases hbad : n < 1 ∨ 64 < n
  · have HNN := Lib.hid (fun W => pages_new_not W n hbad)
    by_cases h1 : n < 1
    · have t0 : decide (n < 1) = true := decide_eq_true h1
      go_enter Try.func3, Try.ntmps3
      go_wp2_with (fail)
      refine (law_awake _).mono ?_
      rintro e w1 ⟨rfl, b1⟩
      have HB1 := Lib.hid b1
      clear b1
      go_wp2_with (go_at_call 7; refine (HNN.out _).mono ?_; rintro e w2 ⟨rfl, rfl⟩)
      exact bodyPost_ret (results_tmp rfl _ _ _) rfl ⟨rfl, HB1.out⟩
    · have t0 : decide (n < 1) = false := decide_eq_false h1
      have t1 : decide (64 < n) = true := decide_eq_true (by omega)
      go_enter Try.func3, Try.ntmps3
      go_wp2_with (fail)
      refine (law_awake _).mono ?_
      rintro e w1 ⟨rfl, b1⟩
      have HB1 := Lib.hid b1
      clear b1
      go_wp2_with (go_at_call 7; refine (HNN.out _).mono ?_; rintro e w2 ⟨rfl, rfl⟩)
      exact bodyPost_ret (results_tmp rfl _ _ _) rfl ⟨rfl, HB1.out⟩
  obtain ⟨k, rfl⟩ : ∃ k : Nat, n = (k : Int) := ⟨n.toNat, by omega⟩
  have HK := Lib.hid (show 1 ≤ k ∧ k ≤ 64 by omega)
  have t0 : decide ((k : Int) < 1) = false := decide_eq_false (by omega)
  have t1 : decide (64 < (k : Int)) = false := decide_eq_false (by omega)
  have t2 : decide (64 < k) = false := decide_eq_false (by omega)
  have HNEW := Lib.hid (fun W => pages_new W k HK.out.1 HK.out.2)
  have HNER := Lib.hid (fun W => ref22_new W k HK.out.1 HK.out.2)
  clear hbad
  go_enter Try.func3, Try.ntmps3
  go_wp2_with (fail)
  refine (law_awake _).mono ?_
  rintro e w1 ⟨rfl, b1⟩
  have HB1 := Lib.hid b1
  clear b1
  go_wp2_with (fail)
  refine (HNEW.out _).mono ?_
  rintro e w2 ⟨D, F0, rfl, pl0, new0, b2⟩
  have HP0 := Lib.hid (show Has w F0 w2 D k (fun _ => fr) from ⟨pl0, fun k hk => Nat.le_trans HB1.out.size (new0 k hk), HB1.out.trans (b2.mono HB1.out.size)⟩)
  clear pl0 new0 b2
  go_wp2_with (fail)
  refine (HNER.out _).mono ?_
  rintro e w3 ⟨E, Fu0, rfl, rl0, newu0, b3⟩
  have HX0 := Lib.hid (show Exs w w3 D E k 0 from ⟨⟨F0, Fu0, fun _ => fr, ⟨HP0.out.step b3, rl0, fun t ht hf => by have := HP0.out.pl.lt t ht; have := newu0 t hf; omega, fun t ht => Nat.le_trans HP0.out.below.size (newu0 t ht)⟩, bnd_new.le (by omega)⟩⟩)
  clear rl0 newu0 b3 HP0 HB1 HNEW HNER t0 t1 t2
  have HEN := Lib.hid (fun W z => law_entry' W z)
  go_wp2_with (fail)
  go_loopw [7] (fun i wr => ∃ j : Nat, i = .int .i64 (j : Int) ∧ j ≤ 60 ∧ Exs w wr D E k j) (fun i _ => match i with | .int _ z => 60 - z.toNat | _ => 0)
  case atStart => exact ⟨0, rfl, Nat.zero_le _, HX0.out⟩
  case round =>
    clear HX0
    obtain ⟨j, rfl, hj, hx⟩ := hrel
    have HE := Lib.hid hx
    have x2 : 0 ≤ (j : Int) := by omega
    clear hx
    by_cases hlt : j < len ∧ j < 60
    · have x0 : (j : Int) < (len : Int) := by omega
      have x1 : decide ((j : Int) < (len : Int)) = true := decide_eq_true x0
      have x3 : decide ((j : Int) < 60) = true := decide_eq_true (by omega)
      have x4 : decide (j < 60) = true := decide_eq_true hlt.2
      have x5 := IntWalk.wrap64_in ((j : Int) + 1) (by omega)
      have HJ := Lib.hid hlt.2
      obtain ⟨F, Fu, P, hex, hbn⟩ := HE.out.has
      have HBW := Lib.hid hex.has.below
      have hAr := HA.out.keepFrom HBW.out
      obtain ⟨pa, oa, rfl, hcell⟩ := hAr.row (by omega)
      obtain ⟨k0, k1, k2, k3⟩ := hcell j hlt.1
      have HKN := Lib.hid (HA.out.kin j hlt.1)
      generalize X j = x at *
      by_cases hl : 10 < x.l.length
      · have z0 : decide ((10 : Int) < (x.l.length : Int)) = true := decide_eq_true (by omega)
        have z1 : decide (10 < x.l.length) = true := decide_eq_true hl
        have HBZ := Lib.hid (HBW.out.trans ((one_below wr (acO x)).mono HBW.out.size))
        clear hl hAr hcell hex hbn HE hlt
        go_wp2_with (fail)
        exact bodyPost_ret (results_tmp rfl _ _ _) rfl ⟨rfl, HBZ.out⟩
      have z0 : decide ((10 : Int) < (x.l.length : Int)) = false := decide_eq_false (by omega)
      have z1 : decide (10 < x.l.length) = false := decide_eq_false hl
      have HLL := Lib.hid (show x.l.length ≤ 10 by omega)
      have HNW := Lib.hid (show ¬ F wr.heap.size ∧ ¬ Fu wr.heap.size from ⟨fun hf => absurd (hex.has.pl.lt _ hf) (Nat.lt_irrefl _), fun hf => absurd (hex.rl.lt _ hf) (Nat.lt_irrefl _)⟩)
      have HXA0 := Lib.hid (hex.step (one_below wr (acO x)))
      have HXB0 := Lib.hid (heap_alloc_new wr (acO x))
      have HBN := Lib.hid hbn
      have HWS := Lib.hid (show wr.heap.size < (wr.alloc (acO x)).heap.size by simp)
      have HXW := Lib.hid HBW.out.size
      clear hAr hcell hex hbn HE hlt hl
      go_upto_region 13 with (fail)
      obtain ⟨wa, hwa⟩ : ∃ wa, wr.alloc (acO x) = wa := ⟨_, rfl⟩
      rw [show wr.alloc (.cells #[.int .i64 x.k, .int .i64 x.id, .int .i64 x.n, .slice x.A x.l.length x.c] 30) = wa from hwa]
      rw [hwa] at HXA0 HXB0 HWS
      clear hwa k0 k1 k2 k3 z0 z1
      generalize hxb : wr.heap.size = xb at *
      have j0 := ac0 HXB0.out
      have j1 := ac1 HXB0.out
      have j2 := ac2 HXB0.out
      have j3 := ac3 HXB0.out
      have HXX := Lib.hid (show Exx w wa D E k xb x F Fu P P from ⟨HXA0.out, HXB0.out, HNW.out⟩)
      have HBM := Lib.hid (show Bnd P 1000000 from HBN.out.le (by omega))
      have HINV := Lib.hid HXA0.out.has.pl.inv
      clear HXA0 HXB0 HNW
      go_upto_block 2 with (fail)
      go_cut [9, 10, 11, 12, 13] (fun _ _ _ _ _ wx => ∃ F Fu P, Exx w wx D E k xb x F Fu P P ∧ Bnd P (1 + 10 * (j + 1)))
      case first =>
        have HSB := Lib.hid (show ∀ W, Below wa.heap.size wa W → W.cell? ⟨xb, 3, none⟩ = some (.slice x.A x.l.length x.c) from fun W hW => ac3 (HXX.out.step hW).blk)
        have BD := Lib.hid (below_drewN (Below.refl wa.heap.size wa) 1)
        by_cases h3 : x.k = 3
        · as_aux_lemma =>
            have t3 : (x.k == 3) = true := beq_iff_eq.2 h3
            have HSH := Lib.hid (fun W (hW : Below wa.heap.size wa W) => exx_share (HXX.out.step hW) HLL.out HKN.out HBM.out)
            have HUS := Lib.hid (show ∀ W F', Exx w W D E k xb x F' Fu (shareS k P x.l) P → Calls Try.prog 10 #[.pointer (some ⟨E, 0, none⟩), .slice x.A x.l.length x.c, .int .i64 1] W (RSays w D E k xb x F' (shareS k P x.l) (useR true k P x.l) (.int .i64 (shareE k P x.l))) from fun W F' hW => exx_use true hW HLL.out HKN.out HBM.out)
            have HFN := Lib.hid (show ∀ W F' Fu', Exx w W D E k xb x F' Fu' (shareS k P x.l) (useR true k P x.l) → ∃ F Fu P, Exx w W D E k xb x F Fu P P ∧ Bnd P (1 + 10 * (j + 1)) from fun W F' Fu' hW => ⟨F', Fu', _, hW.same (use_share HINV.out x.l).2, (bnd_share HBN.out x.l).le (by have := HLL.out; omega)⟩)
            have t4 : (shareE k P x.l != shareE k P x.l) = false := by simp
            clear h3
            go_upto_region 19 with (fail)
            clear j0 j1 j2 j3
            have k0 := HSB.out _ BD.out
            go_region_held3 (fun W : World => W.cell? ⟨xb, 3, none⟩ = some (.slice x.A x.l.length x.c)) (first | exact k0 | assumption) (first
              | (go_at_call 9; refine (HSH.out _ BD.out).mono ?_; rintro e w5 ⟨rfl, F5, h5⟩; have H5 := Lib.hid h5; have k5 := ac3 h5.blk; clear h5)
              | (go_at_call 10; refine (HUS.out _ _ H5.out).mono ?_; rintro e w6 ⟨rfl, F6, h6⟩; have H6 := Lib.hid h6; have k6 := ac3 h6.blk; clear h6))
            go_wp2_with (fail)
            go_meet
            exact HFN.out _ _ _ H6.out
        have t3 : (x.k == 3) = false := beq_eq_false_iff_ne.2 h3
        by_cases h4 : x.k = 4
        · as_aux_lemma =>
            have t4 : (x.k == 4) = true := beq_iff_eq.2 h4
            have HSH := Lib.hid (fun W (hW : Below wa.heap.size wa W) => exx_drop (HXX.out.step hW) HLL.out HKN.out HBM.out)
            have HUS := Lib.hid (show ∀ W F', Exx w W D E k xb x F' Fu (dropS k P x.l) P → Calls Try.prog 10 #[.pointer (some ⟨E, 0, none⟩), .slice x.A x.l.length x.c, .int .i64 (-1)] W (RSays w D E k xb x F' (dropS k P x.l) (useR false k P x.l) (.int .i64 (dropE k P x.l))) from fun W F' hW => exx_use false hW HLL.out HKN.out HBM.out)
            have HFN := Lib.hid (show ∀ W F' Fu', Exx w W D E k xb x F' Fu' (dropS k P x.l) (useR false k P x.l) → ∃ F Fu P, Exx w W D E k xb x F Fu P P ∧ Bnd P (1 + 10 * (j + 1)) from fun W F' Fu' hW => ⟨F', Fu', _, hW, (bnd_drop HBN.out x.l).le (by omega)⟩)
            have t5 : (dropE k P x.l != dropE k P x.l) = false := by simp
            clear h3 h4
            go_upto_region 22 with (fail)
            clear j0 j1 j2 j3
            have k0 := HSB.out _ BD.out
            go_region_held3 (fun W : World => W.cell? ⟨xb, 3, none⟩ = some (.slice x.A x.l.length x.c)) (first | exact k0 | assumption) (first
              | (go_at_call 11; refine (HSH.out _ BD.out).mono ?_; rintro e w5 ⟨rfl, F5, h5⟩; have H5 := Lib.hid h5; have k5 := ac3 h5.blk; clear h5)
              | (go_at_call 10; refine (HUS.out _ _ H5.out).mono ?_; rintro e w6 ⟨rfl, F6, h6⟩; have H6 := Lib.hid h6; have k6 := ac3 h6.blk; clear h6))
            go_wp2_with (fail)
            go_meet
            exact HFN.out _ _ _ H6.out
        have t4 : (x.k == 4) = false := beq_eq_false_iff_ne.2 h4
        by_cases h5 : x.k = 5 ∨ x.k = 6 ∨ x.k = 7
        · have t10 : (x.k == 5) = true ∨ ((x.k == 5) = false ∧ (x.k == 6) = true) ∨ ((x.k == 5) = false ∧ (x.k == 6) = false ∧ (x.k == 7) = true) := by
            rcases h5 with h | h | h <;> rw [h] <;> decide
          clear h3 h4 h5
          rcases t10 with t10 | ⟨t10, t12⟩ | ⟨t10, t12, t13⟩
          · as_aux_lemma =>
              go_upto_region 27 with (fail)
              go_upto_region 28 with (go_at_call 12; refine (HEN.out _ _).mono ?_; rintro e w4 ⟨rfl, e4, b4⟩; have B4 := Lib.hid b4; have E4 := Lib.hid e4; have j1' := ac1 (HXX.out.step b4).blk; clear e4 b4)
              obtain ⟨wv, hwv⟩ : ∃ wv, w4.alloc (.cells #[.slice (some ⟨wa.heap.size + 1 + 1, 0, none⟩) 1 1, .slice (some ⟨wa.heap.size + 1 + 3, 0, none⟩) 1 1] 36) = wv := ⟨_, rfl⟩
              rw [hwv]
              have hnv := heap_alloc_new w4 (.cells #[.slice (some ⟨wa.heap.size + 1 + 1, 0, none⟩) 1 1, .slice (some ⟨wa.heap.size + 1 + 3, 0, none⟩) 1 1] 36)
              have hbv := one_below w4 (.cells #[.slice (some ⟨wa.heap.size + 1 + 1, 0, none⟩) 1 1, .slice (some ⟨wa.heap.size + 1 + 3, 0, none⟩) 1 1] 36)
              rw [hwv] at hnv hbv
              have HNV := Lib.hid hnv
              have HBV := Lib.hid (B4.out.trans (hbv.mono B4.out.size))
              have HEV := Lib.hid (E4.out.below hbv)
              have HEB := Lib.hid (show wa.heap.size ≤ w4.heap.size from B4.out.size)
              clear hwv hnv hbv B4 E4 j0 j1 j2 j3 j1'
              generalize w4.heap.size = eb at *
              have HOF := Lib.hid (show ∀ t, wa.heap.size ≤ t → ¬ F t ∧ ¬ Fu t from fun t ht => ⟨fun hf => by have := HXX.out.ex.has.pl.lt t hf; omega, fun hf => by have := HXX.out.ex.rl.lt t hf; omega⟩)
              have HXN := Lib.hid (show xb < wa.heap.size + 1 from by have := HXX.out.lt; omega)
              have HWN := Lib.hid (show w.heap.size ≤ wa.heap.size + 1 from by have := HXX.out.ex.has.below.size; omega)
              have HLE := Lib.hid (show wa.heap.size ≤ wa.heap.size + 1 from Nat.le_succ _)
              generalize hN : wa.heap.size + 1 = N at *
              clear hN
              have BDV := Lib.hid (below_drewN (Below.refl wv.heap.size wv) 1)
              have HXV := Lib.hid (HXX.out.step (HBV.out.trans (BDV.out.mono HBV.out.size)))
              have HPP := Lib.hid (exx_put HXV.out x.id (HEV.out.below BDV.out) (fun t ht => (HOF.out t (Nat.le_trans HLE.out ht)).1) ((BDV.out.block _ (Array.getElem?_eq_some_iff.1 HNV.out).1).trans HNV.out) (HOF.out eb HEB.out).1)
              have HPR := Lib.hid (fun W F' (hW : Exx w W D E k xb x F' Fu (putS k P x.id (entX x.n)) P) (he : EntIs W N x.n) (hF : ∀ t, N ≤ t → t < N + 4 → ¬ F' t) (hv : W.heap[eb]? = some (.cells #[.slice (some ⟨N + 1, 0, none⟩) 1 1, .slice (some ⟨N + 3, 0, none⟩) 1 1] 36 (0, 0))) => exx_putR hW x.id he hF (fun t ht => (HOF.out t (Nat.le_trans HLE.out ht)).2) HWN.out HXN.out hv (HOF.out eb HEB.out).2)
              have HFN := Lib.hid (show ∀ W F' Fu', Exx w W D E k xb x F' Fu' (putS k P x.id (entX x.n)) (putS k P x.id (entX x.n)) → ∃ F Fu P, Exx w W D E k xb x F Fu P P ∧ Bnd P (1 + 10 * (j + 1)) from fun W F' Fu' hW => ⟨F', Fu', _, hW, (bnd_put HBN.out x.id (entX x.n)).le (by omega)⟩)
              have HCV := Lib.hid (show ∀ W : World, W.heap[xb]? = some (acO x) → W.heap[eb]? = some (.cells #[.slice (some ⟨N + 1, 0, none⟩) 1 1, .slice (some ⟨N + 3, 0, none⟩) 1 1] 36 (0, 0)) → (W.cell? ⟨xb, 1, none⟩ = some (.int .i64 x.id) ∧ W.cell? ⟨eb, 0, none⟩ = some (.slice (some ⟨N + 1, 0, none⟩) 1 1) ∧ W.cell? ⟨eb, 1, none⟩ = some (.slice (some ⟨N + 3, 0, none⟩) 1 1)) from fun W h1 h2 => ⟨ac1 h1, by rw [cell_of_row _ _ _ _ _ _ h2]; rfl, by rw [cell_of_row _ _ _ _ _ _ h2]; rfl⟩)
              have t11 : (putE k P x.id != putE k P x.id) = false := by simp
              have k0 := HCV.out _ HXV.out.blk ((BDV.out.block _ (Array.getElem?_eq_some_iff.1 HNV.out).1).trans HNV.out)
              go_region_held3 (fun W : World => W.cell? ⟨xb, 1, none⟩ = some (.int .i64 x.id) ∧ W.cell? ⟨eb, 0, none⟩ = some (.slice (some ⟨N + 1, 0, none⟩) 1 1) ∧ W.cell? ⟨eb, 1, none⟩ = some (.slice (some ⟨N + 3, 0, none⟩) 1 1)) (first | exact k0 | assumption) (first
                | (go_at_call 13; refine HPP.out.mono ?_; rintro e w5 ⟨rfl, F5, h5, e5, n5, v5⟩; have H5 := Lib.hid h5; have E5 := Lib.hid e5; have N5 := Lib.hid n5; have V5 := Lib.hid v5; have k5 := HCV.out _ h5.blk v5; clear h5 e5 n5 v5)
                | (go_at_call 14; refine (HPR.out _ _ H5.out E5.out N5.out V5.out).mono ?_; rintro e w6 ⟨rfl, ⟨F6, h6⟩, v6⟩; have H6 := Lib.hid h6; have k6 := HCV.out _ h6.blk v6; clear h6 v6))
              go_wp2_with (fail)
              go_meet
              exact HFN.out _ _ _ H6.out
          · as_aux_lemma =>
              go_upto_region 27 with (fail)
              go_upto_region 28 with (go_at_call 12; refine (HEN.out _ _).mono ?_; rintro e w4 ⟨rfl, e4, b4⟩; have B4 := Lib.hid b4; have E4 := Lib.hid e4; have j1' := ac1 (HXX.out.step b4).blk; clear e4 b4)
              obtain ⟨wv, hwv⟩ : ∃ wv, w4.alloc (.cells #[.slice (some ⟨wa.heap.size + 1 + 1, 0, none⟩) 1 1, .slice (some ⟨wa.heap.size + 1 + 3, 0, none⟩) 1 1] 36) = wv := ⟨_, rfl⟩
              rw [hwv]
              have hnv := heap_alloc_new w4 (.cells #[.slice (some ⟨wa.heap.size + 1 + 1, 0, none⟩) 1 1, .slice (some ⟨wa.heap.size + 1 + 3, 0, none⟩) 1 1] 36)
              have hbv := one_below w4 (.cells #[.slice (some ⟨wa.heap.size + 1 + 1, 0, none⟩) 1 1, .slice (some ⟨wa.heap.size + 1 + 3, 0, none⟩) 1 1] 36)
              rw [hwv] at hnv hbv
              have HNV := Lib.hid hnv
              have HBV := Lib.hid (B4.out.trans (hbv.mono B4.out.size))
              have HEV := Lib.hid (E4.out.below hbv)
              have HEB := Lib.hid (show wa.heap.size ≤ w4.heap.size from B4.out.size)
              clear hwv hnv hbv B4 E4 j0 j1 j2 j3 j1'
              generalize w4.heap.size = eb at *
              have HOF := Lib.hid (show ∀ t, wa.heap.size ≤ t → ¬ F t ∧ ¬ Fu t from fun t ht => ⟨fun hf => by have := HXX.out.ex.has.pl.lt t hf; omega, fun hf => by have := HXX.out.ex.rl.lt t hf; omega⟩)
              have HXN := Lib.hid (show xb < wa.heap.size + 1 from by have := HXX.out.lt; omega)
              have HWN := Lib.hid (show w.heap.size ≤ wa.heap.size + 1 from by have := HXX.out.ex.has.below.size; omega)
              have HLE := Lib.hid (show wa.heap.size ≤ wa.heap.size + 1 from Nat.le_succ _)
              generalize hN : wa.heap.size + 1 = N at *
              clear hN
              have BDV := Lib.hid (below_drewN (Below.refl wv.heap.size wv) 1)
              have HXV := Lib.hid (HXX.out.step (HBV.out.trans (BDV.out.mono HBV.out.size)))
              have HPP := Lib.hid (exx_put HXV.out x.id (HEV.out.below BDV.out) (fun t ht => (HOF.out t (Nat.le_trans HLE.out ht)).1) ((BDV.out.block _ (Array.getElem?_eq_some_iff.1 HNV.out).1).trans HNV.out) (HOF.out eb HEB.out).1)
              have HPR := Lib.hid (fun W F' (hW : Exx w W D E k xb x F' Fu (putS k P x.id (entX x.n)) P) (he : EntIs W N x.n) (hF : ∀ t, N ≤ t → t < N + 4 → ¬ F' t) (hv : W.heap[eb]? = some (.cells #[.slice (some ⟨N + 1, 0, none⟩) 1 1, .slice (some ⟨N + 3, 0, none⟩) 1 1] 36 (0, 0))) => exx_putR hW x.id he hF (fun t ht => (HOF.out t (Nat.le_trans HLE.out ht)).2) HWN.out HXN.out hv (HOF.out eb HEB.out).2)
              have HFN := Lib.hid (show ∀ W F' Fu', Exx w W D E k xb x F' Fu' (putS k P x.id (entX x.n)) (putS k P x.id (entX x.n)) → ∃ F Fu P, Exx w W D E k xb x F Fu P P ∧ Bnd P (1 + 10 * (j + 1)) from fun W F' Fu' hW => ⟨F', Fu', _, hW, (bnd_put HBN.out x.id (entX x.n)).le (by omega)⟩)
              have HCV := Lib.hid (show ∀ W : World, W.heap[xb]? = some (acO x) → W.heap[eb]? = some (.cells #[.slice (some ⟨N + 1, 0, none⟩) 1 1, .slice (some ⟨N + 3, 0, none⟩) 1 1] 36 (0, 0)) → (W.cell? ⟨xb, 1, none⟩ = some (.int .i64 x.id) ∧ W.cell? ⟨eb, 0, none⟩ = some (.slice (some ⟨N + 1, 0, none⟩) 1 1) ∧ W.cell? ⟨eb, 1, none⟩ = some (.slice (some ⟨N + 3, 0, none⟩) 1 1)) from fun W h1 h2 => ⟨ac1 h1, by rw [cell_of_row _ _ _ _ _ _ h2]; rfl, by rw [cell_of_row _ _ _ _ _ _ h2]; rfl⟩)
              have t11 : (putE k P x.id != putE k P x.id) = false := by simp
              have k0 := HCV.out _ HXV.out.blk ((BDV.out.block _ (Array.getElem?_eq_some_iff.1 HNV.out).1).trans HNV.out)
              go_region_held3 (fun W : World => W.cell? ⟨xb, 1, none⟩ = some (.int .i64 x.id) ∧ W.cell? ⟨eb, 0, none⟩ = some (.slice (some ⟨N + 1, 0, none⟩) 1 1) ∧ W.cell? ⟨eb, 1, none⟩ = some (.slice (some ⟨N + 3, 0, none⟩) 1 1)) (first | exact k0 | assumption) (first
                | (go_at_call 13; refine HPP.out.mono ?_; rintro e w5 ⟨rfl, F5, h5, e5, n5, v5⟩; have H5 := Lib.hid h5; have E5 := Lib.hid e5; have N5 := Lib.hid n5; have V5 := Lib.hid v5; have k5 := HCV.out _ h5.blk v5; clear h5 e5 n5 v5)
                | (go_at_call 14; refine (HPR.out _ _ H5.out E5.out N5.out V5.out).mono ?_; rintro e w6 ⟨rfl, ⟨F6, h6⟩, v6⟩; have H6 := Lib.hid h6; have k6 := HCV.out _ h6.blk v6; clear h6 v6))
              go_wp2_with (fail)
              go_meet
              exact HFN.out _ _ _ H6.out
          · as_aux_lemma =>
              go_upto_region 27 with (fail)
              go_upto_region 28 with (go_at_call 12; refine (HEN.out _ _).mono ?_; rintro e w4 ⟨rfl, e4, b4⟩; have B4 := Lib.hid b4; have E4 := Lib.hid e4; have j1' := ac1 (HXX.out.step b4).blk; clear e4 b4)
              obtain ⟨wv, hwv⟩ : ∃ wv, w4.alloc (.cells #[.slice (some ⟨wa.heap.size + 1 + 1, 0, none⟩) 1 1, .slice (some ⟨wa.heap.size + 1 + 3, 0, none⟩) 1 1] 36) = wv := ⟨_, rfl⟩
              rw [hwv]
              have hnv := heap_alloc_new w4 (.cells #[.slice (some ⟨wa.heap.size + 1 + 1, 0, none⟩) 1 1, .slice (some ⟨wa.heap.size + 1 + 3, 0, none⟩) 1 1] 36)
              have hbv := one_below w4 (.cells #[.slice (some ⟨wa.heap.size + 1 + 1, 0, none⟩) 1 1, .slice (some ⟨wa.heap.size + 1 + 3, 0, none⟩) 1 1] 36)
              rw [hwv] at hnv hbv
              have HNV := Lib.hid hnv
              have HBV := Lib.hid (B4.out.trans (hbv.mono B4.out.size))
              have HEV := Lib.hid (E4.out.below hbv)
              have HEB := Lib.hid (show wa.heap.size ≤ w4.heap.size from B4.out.size)
              clear hwv hnv hbv B4 E4 j0 j1 j2 j3 j1'
              generalize w4.heap.size = eb at *
              have HOF := Lib.hid (show ∀ t, wa.heap.size ≤ t → ¬ F t ∧ ¬ Fu t from fun t ht => ⟨fun hf => by have := HXX.out.ex.has.pl.lt t hf; omega, fun hf => by have := HXX.out.ex.rl.lt t hf; omega⟩)
              have HXN := Lib.hid (show xb < wa.heap.size + 1 from by have := HXX.out.lt; omega)
              have HWN := Lib.hid (show w.heap.size ≤ wa.heap.size + 1 from by have := HXX.out.ex.has.below.size; omega)
              have HLE := Lib.hid (show wa.heap.size ≤ wa.heap.size + 1 from Nat.le_succ _)
              generalize hN : wa.heap.size + 1 = N at *
              clear hN
              have BDV := Lib.hid (below_drewN (Below.refl wv.heap.size wv) 1)
              have HXV := Lib.hid (HXX.out.step (HBV.out.trans (BDV.out.mono HBV.out.size)))
              have HPP := Lib.hid (exx_put HXV.out x.id (HEV.out.below BDV.out) (fun t ht => (HOF.out t (Nat.le_trans HLE.out ht)).1) ((BDV.out.block _ (Array.getElem?_eq_some_iff.1 HNV.out).1).trans HNV.out) (HOF.out eb HEB.out).1)
              have HPR := Lib.hid (fun W F' (hW : Exx w W D E k xb x F' Fu (putS k P x.id (entX x.n)) P) (he : EntIs W N x.n) (hF : ∀ t, N ≤ t → t < N + 4 → ¬ F' t) (hv : W.heap[eb]? = some (.cells #[.slice (some ⟨N + 1, 0, none⟩) 1 1, .slice (some ⟨N + 3, 0, none⟩) 1 1] 36 (0, 0))) => exx_putR hW x.id he hF (fun t ht => (HOF.out t (Nat.le_trans HLE.out ht)).2) HWN.out HXN.out hv (HOF.out eb HEB.out).2)
              have HFN := Lib.hid (show ∀ W F' Fu', Exx w W D E k xb x F' Fu' (putS k P x.id (entX x.n)) (putS k P x.id (entX x.n)) → ∃ F Fu P, Exx w W D E k xb x F Fu P P ∧ Bnd P (1 + 10 * (j + 1)) from fun W F' Fu' hW => ⟨F', Fu', _, hW, (bnd_put HBN.out x.id (entX x.n)).le (by omega)⟩)
              have HCV := Lib.hid (show ∀ W : World, W.heap[xb]? = some (acO x) → W.heap[eb]? = some (.cells #[.slice (some ⟨N + 1, 0, none⟩) 1 1, .slice (some ⟨N + 3, 0, none⟩) 1 1] 36 (0, 0)) → (W.cell? ⟨xb, 1, none⟩ = some (.int .i64 x.id) ∧ W.cell? ⟨eb, 0, none⟩ = some (.slice (some ⟨N + 1, 0, none⟩) 1 1) ∧ W.cell? ⟨eb, 1, none⟩ = some (.slice (some ⟨N + 3, 0, none⟩) 1 1)) from fun W h1 h2 => ⟨ac1 h1, by rw [cell_of_row _ _ _ _ _ _ h2]; rfl, by rw [cell_of_row _ _ _ _ _ _ h2]; rfl⟩)
              have t11 : (putE k P x.id != putE k P x.id) = false := by simp
              have k0 := HCV.out _ HXV.out.blk ((BDV.out.block _ (Array.getElem?_eq_some_iff.1 HNV.out).1).trans HNV.out)
              go_region_held3 (fun W : World => W.cell? ⟨xb, 1, none⟩ = some (.int .i64 x.id) ∧ W.cell? ⟨eb, 0, none⟩ = some (.slice (some ⟨N + 1, 0, none⟩) 1 1) ∧ W.cell? ⟨eb, 1, none⟩ = some (.slice (some ⟨N + 3, 0, none⟩) 1 1)) (first | exact k0 | assumption) (first
                | (go_at_call 13; refine HPP.out.mono ?_; rintro e w5 ⟨rfl, F5, h5, e5, n5, v5⟩; have H5 := Lib.hid h5; have E5 := Lib.hid e5; have N5 := Lib.hid n5; have V5 := Lib.hid v5; have k5 := HCV.out _ h5.blk v5; clear h5 e5 n5 v5)
                | (go_at_call 14; refine (HPR.out _ _ H5.out E5.out N5.out V5.out).mono ?_; rintro e w6 ⟨rfl, ⟨F6, h6⟩, v6⟩; have H6 := Lib.hid h6; have k6 := HCV.out _ h6.blk v6; clear h6 v6))
              go_wp2_with (fail)
              go_meet
              exact HFN.out _ _ _ H6.out
        have t5 : (x.k == 5) = false := beq_eq_false_iff_ne.2 fun h => h5 (.inl h)
        have t6 : (x.k == 6) = false := beq_eq_false_iff_ne.2 fun h => h5 (.inr (.inl h))
        have t7 : (x.k == 7) = false := beq_eq_false_iff_ne.2 fun h => h5 (.inr (.inr h))
        as_aux_lemma =>
          have HTK := Lib.hid (exx_take HXX.out x.n)
          have HTR := Lib.hid (fun W F' (hW : Exx w W D E k xb x F' Fu (takeS k P x.n) P) => exx_takeR hW x.n)
          have HFN := Lib.hid (show ∀ W F' Fu', Exx w W D E k xb x F' Fu' (takeS k P x.n) (takeS k P x.n) → ∃ F Fu P, Exx w W D E k xb x F Fu P P ∧ Bnd P (1 + 10 * (j + 1)) from fun W F' Fu' hW => ⟨F', Fu', _, hW, (bnd_take HBN.out (by omega) x.n).le (by omega)⟩)
          have t8 : (takeI k P x.n != takeI k P x.n) = false := by simp
          have t9 : (takeE k P x.n != takeE k P x.n) = false := by simp
          clear h3 h4 h5
          go_wp2_with (fail)
          refine HTK.out.mono ?_
          rintro e w5 ⟨rfl, F5, h5⟩
          have H5 := Lib.hid h5
          have k5 := ac2 h5.blk
          clear h5 j0 j1 j2 j3
          go_wp2_with (fail)
          refine (HTR.out _ _ H5.out).mono ?_
          rintro e w6 ⟨rfl, F6, h6⟩
          have H6 := Lib.hid h6
          clear h6 k5
          go_wp2_with (fail)
          go_meet
          exact HFN.out _ _ _ H6.out
      case rest =>
        as_aux_lemma =>
          clear HXX HBM HINV j0 j1 j2 j3 HBN HEN
          obtain ⟨F2, Fu2, P2, hxx, hbn⟩ := hcut
          have HXX := Lib.hid hxx
          have HBN := Lib.hid hbn
          have j1 := ac1 hxx.blk
          have HIS := Lib.hid (ref22_is hxx.ex.rl x.id)
          clear hxx hbn
          go_upto_if 128 with (go_at_call 17; refine HIS.out.mono ?_; rintro e w3 ⟨rfl, rfl⟩)
          go_cut [14, 15] (fun v u wx => v = .int .i64 (verI k P2 x.id) ∧ u = .int .i64 ((usrI k P2 x.id : Nat) : Int) ∧ Below wc.heap.size wc wx)
          case first =>
            as_aux_lemma =>
              cases hp : isP k P2 x.id with
              | false =>
                have HV := Lib.hid (show verI k P2 x.id = 0 ∧ usrI k P2 x.id = 0 from ⟨if_neg (by rw [hp]; decide), if_neg (by rw [hp]; decide)⟩)
                clear hp
                go_wp2_with (fail)
                go_meet
                rw [HV.out.1, HV.out.2]
                exact ⟨rfl, rfl, Below.refl _ _⟩
              | true =>
                have h1 := is_iff.1 hp
                obtain ⟨i, hi⟩ : ∃ i : Nat, x.id = (i : Int) := ⟨x.id.toNat, by omega⟩
                have HV := Lib.hid (show verI k P2 x.id = (P2 i).v ∧ usrI k P2 x.id = (P2 i).u from ⟨(if_pos hp).trans (by rw [hi, Int.toNat_natCast]), (if_pos hp).trans (by rw [hi, Int.toNat_natCast])⟩)
                have hik : i < k := by omega
                have y0 : (i : Int) < (k : Int) := by omega
                have y1 : 0 ≤ (i : Int) := by omega
                obtain ⟨b, cp, G, Q, hrl⟩ := HXX.out.ex.rl
                have c0 := hrl.cD
                have c1 := hrl.row.c0 hik
                have c2 := hrl.row.c1 hik
                rw [hi] at j1
                clear hp h1 hi hik hrl
                generalize (P2 i).v = v1 at *
                generalize (P2 i).u = u1 at *
                go_wp2_with (fail)
                go_quiet (fail)
                go_wp2_with (fail)
                go_quiet (fail)
                go_wp2_with (fail)
                go_meet
                rw [HV.out.1, HV.out.2]
                exact ⟨rfl, rfl, below_drewN (below_drewN (Below.refl _ _) _) _⟩
          case rest =>
            as_aux_lemma =>
              clear j1 HIS
              rename World => wd
              obtain ⟨rfl, rfl, hbd⟩ := hcut
              have HXD := Lib.hid (HXX.out.step hbd)
              clear HXX hbd
              have j3 := ac3 HXD.out.blk
              have HGP := Lib.hid (pages_get HXD.out.ex.has.pl x.A x.l.length x.c x.l rfl (by have := HLL.out; omega) (HKN.out.below HXD.out.ex.has.below (Nat.le_refl _)))
              unfold GetSays at HGP
              go_wp2_with (fail)
              refine HGP.out.mono ?_
              rintro e w5 ⟨lA, lc, R, rfl, hge, _, _, hR, b5⟩
              have HX5 := Lib.hid (HXD.out.step b5)
              have HGE := Lib.hid hge
              have HRM := Lib.hid hR
              have HGR := Lib.hid (ref22_get HX5.out.ex.rl HX5.out.ex.has.pl.inv x.A x.l.length x.c x.l rfl (by have := HLL.out; omega) (HKN.out.below HX5.out.ex.has.below (Nat.le_refl _)))
              unfold RGetSays at HGR
              clear j3 hge hR b5 HGP HXD
              have j3 := ac3 HX5.out.blk
              go_wp2_with (fail)
              refine HGR.out.mono ?_
              rintro e w6 ⟨rg, rc, R', rfl, hrg⟩
              have HRG := Lib.hid hrg
              have HX6 := Lib.hid (HX5.out.step hrg.below)
              have HG6 := Lib.hid (HGE.out.step hrg.below)
              have hll : R'.length = R.length := by
                have h1 := congrArg List.length (hrg.same.trans HRM.out.symm)
                rwa [List.length_map, List.length_map] at h1
              have HLN := Lib.hid hll
              have t0 : ((R.length : Int) != (R'.length : Int)) = false := by rw [hll]; simp
              have t1 : (verI k P2 x.id != verI k P2 x.id) = false := by simp
              have t2 : (((usrI k P2 x.id : Nat) : Int) != ((usrI k P2 x.id : Nat) : Int)) = false := by simp
              have t3 : (((freeN P2 k : Nat) : Int) != ((freeN P2 k : Nat) : Int)) = false := by simp
              have t4 : ((k : Int) != (k : Int)) = false := by simp
              have HVE := Lib.hid (pages_version HX6.out.ex.has.pl x.id)
              have HUS := Lib.hid (fun W (hW : Exx w W D E k xb x F2 Fu2 P2 P2) => pages_users hW.ex.has.pl x.id)
              have HFR := Lib.hid (fun W (hW : Exx w W D E k xb x F2 Fu2 P2 P2) => pages_Free hW.ex.has.pl)
              have HRF := Lib.hid (fun W (hW : Exx w W D E k xb x F2 Fu2 P2 P2) => ref22_free hW.ex.rl)
              have HLE := Lib.hid (show ∀ W, Exx w W D E k xb x F2 Fu2 P2 P2 → Calls Try.prog 24 #[.pointer (some ⟨D, 0, none⟩)] W fun e w' => e = .returned (.int .i64 (k : Int)) ∧ W = w' from fun W hW => by obtain ⟨b, cap, G, Q, h⟩ := hW.ex.has.pl; exact pages_len h)
              clear hrg hll j3 HGR HX5 HGE
              have j1 := ac1 HX6.out.blk
              go_wp2_with (first
                | (go_at_call 20; refine HVE.out.mono ?_; rintro e w7 ⟨rfl, b7⟩; have B7 := Lib.hid b7; have HX7 := Lib.hid (HX6.out.step b7); have i1 := ac1 HX7.out.blk; clear b7)
                | (go_at_call 21; refine (HUS.out _ HX7.out).mono ?_; rintro e w8 ⟨rfl, b8⟩; have B8 := Lib.hid (B7.out.trans (b8.mono B7.out.size)); have HX8 := Lib.hid (HX7.out.step b8); clear b8)
                | (go_at_call 22; refine (HFR.out _ HX8.out).mono ?_; rintro e w9 ⟨rfl, b9⟩; have B9 := Lib.hid (B8.out.trans (b9.mono B8.out.size)); have HX9 := Lib.hid (HX8.out.step b9); clear b9)
                | (go_at_call 23; refine (HRF.out _ HX9.out).mono ?_; rintro e wf ⟨rfl, rfl⟩)
                | (go_at_call 24; refine (HLE.out _ HX9.out).mono ?_; rintro e wl ⟨rfl, rfl⟩))
              clear t0 t1 t2 t3 t4 j1 i1 HVE HUS HFR HRF HLE HX6 HX7 HX8 B7 B8
              have HGB := Lib.hid (HX9.out.ex.has.pl)
              go_loopw [18] (fun i wr => ∃ t : Nat, i = .int .i64 (t : Int) ∧ t ≤ R.length ∧ Below w9.heap.size w9 wr) (fun i _ => match i with | .int _ z => R.length - z.toNat | _ => 0)
              case atStart => exact ⟨0, rfl, Nat.zero_le _, Below.refl _ _⟩
              case round =>
                rename World => wq
                obtain ⟨t, rfl, ht, hbq⟩ := hrel
                have HBQ := Lib.hid hbq
                have BQ6 := Lib.hid (B9.out.trans (hbq.mono B9.out.size))
                have y2 : 0 ≤ (t : Int) := by omega
                clear hbq
                by_cases htl : t < R.length
                · as_aux_lemma =>
                    have y0 : (t : Int) < (R.length : Int) := by omega
                    have y1 : decide ((t : Int) < (R.length : Int)) = true := decide_eq_true y0
                    have y3 : (t : Int) < (R'.length : Int) := by rw [HLN.out]; exact y0
                    have HT1 := Lib.hid (show t + 1 ≤ R.length by omega)
                    obtain ⟨r, r', e, e1, e2, hmem⟩ := pair_at HRM.out HRG.out.same htl
                    have hsm := get_small HGB.out x.l e hmem
                    have hg6 := HG6.out.step BQ6.out
                    obtain ⟨pb, po, rfl, d0, d1⟩ := hg6.es.row.cell e1
                    have hown2 := Sp.own_moved HRG.out.own fun z hz => BQ6.out.block z (HRG.out.own.lt z hz).2
                    obtain ⟨qb, qo, heq, f0, f1⟩ := (own_es hown2).cell e2
                    injection heq with heq
                    injection heq with q1 q2
                    subst q1 q2
                    have hE1 := hg6.es.all _ (List.mem_of_getElem? e1)
                    have hE2 := (HRG.out.all _ (List.mem_of_getElem? e2)).below BQ6.out
                    have HSE := Lib.hid (show ∀ W, Below wq.heap.size wq W → Calls Try.prog 25 #[.agg #[.slice r.kA e.ks.length r.kc, .slice r.vA e.vs.length r.vc], .agg #[.slice r'.kA e.ks.length r'.kc, .slice r'.vA e.vs.length r'.vc]] W fun z w' => z = .returned (.bool true) ∧ Below W.heap.size W w' from fun W hW => by
                      have h1 := law_is W r e r' e ((hE1.below hW).mono fun _ _ => trivial) ((hE2.below hW).mono fun _ _ => trivial) hsm
                      rw [sameE_self] at h1
                      exact h1)
                    have HKE := Lib.hid (show ∀ W, Below wq.heap.size wq W → (W.cell? ⟨pb, po + t * 2, none⟩ = some (.slice r.kA e.ks.length r.kc) ∧ W.cell? ⟨pb, po + t * 2 + 1, none⟩ = some (.slice r.vA e.vs.length r.vc)) ∧ W.cell? ⟨rg, 0 + t * 2, none⟩ = some (.slice r'.kA e.ks.length r'.kc) ∧ W.cell? ⟨rg, 0 + t * 2 + 1, none⟩ = some (.slice r'.vA e.vs.length r'.vc) from fun W hW => ⟨⟨(hW.cell (p := ⟨pb, po + t * 2, none⟩) (block_lt_of_cell d0)).trans d0, (hW.cell (p := ⟨pb, po + t * 2 + 1, none⟩) (block_lt_of_cell d1)).trans d1⟩, (hW.cell (p := ⟨rg, 0 + t * 2, none⟩) (block_lt_of_cell f0)).trans f0, (hW.cell (p := ⟨rg, 0 + t * 2 + 1, none⟩) (block_lt_of_cell f1)).trans f1⟩)
                    simp only [Nat.zero_add] at HKE
                    have BQD := Lib.hid (below_drewN (Below.refl wq.heap.size wq) 1)
                    have x7 := IntWalk.wrap64_in ((t : Int) + 1) (by have := HT1.out; have h9 := get_few HX9.out.ex.has.pl.inv x.l; have h8 := congrArg List.length HRM.out; rw [List.length_map] at h8; have h7 := HLL.out; omega)
                    clear hE1 hE2 hown2 hg6 d0 d1 f0 f1 e1 e2 hmem hsm htl
                    go_upto_region 42 with (fail)
                    have k0 := HKE.out _ BQD.out
                    go_region_held3 (fun W : World => (W.cell? ⟨pb, po + t * 2, none⟩ = some (.slice r.kA e.ks.length r.kc) ∧ W.cell? ⟨pb, po + t * 2 + 1, none⟩ = some (.slice r.vA e.vs.length r.vc)) ∧ W.cell? ⟨rg, t * 2, none⟩ = some (.slice r'.kA e.ks.length r'.kc) ∧ W.cell? ⟨rg, t * 2 + 1, none⟩ = some (.slice r'.vA e.vs.length r'.vc)) (first | exact k0 | assumption) ((go_at_call 25; refine (HSE.out _ BQD.out).mono ?_; rintro z wb ⟨rfl, bb⟩; have BB := Lib.hid (BQD.out.trans (bb.mono BQD.out.size)); have kb := HKE.out _ BB.out; clear bb))
                    have HBZ := Lib.hid (HBQ.out.trans (BB.out.mono HBQ.out.size))
                    clear k0 kb
                    go_wp2_with (fail)
                    rw [x7]
                    exact ⟨⟨t + 1, rfl, HT1.out, HBZ.out⟩, vc_less t R.length HT1.out⟩
                · as_aux_lemma =>
                    have htl2 : t = R.length := by omega
                    have y0 : ¬ (t : Int) < (R.length : Int) := by omega
                    have y1 : decide ((t : Int) < (R.length : Int)) = false := decide_eq_false y0
                    have HXQ := Lib.hid (HX9.out.step HBQ.out)
                    have j2 := ac2 HXQ.out.blk
                    have HOF := Lib.hid (pages_of HXQ.out.ex.has.pl x.n)
                    unfold OfSays at HOF
                    clear htl htl2 HX9 HGB HG6 HRG HRM HLN B9 BQ6
                    go_wp2_with (fail)
                    refine HOF.out.mono ?_
                    rintro e w10 ⟨oA, oc, rfl, hko, b10⟩
                    have HXO := Lib.hid (HXQ.out.step b10)
                    have HKO := Lib.hid hko
                    clear hko b10 j2 HXQ HOF
                    go_wp2_with (fail)
                    go_loopw [20, 21] (fun s i wr => ∃ d : Nat, d ≤ k ∧ s = .int .i64 ((ofI P2 x.n d).length : Int) ∧ i = .int .i64 (d : Int) ∧ Below w10.heap.size w10 wr) (fun _ i _ => match i with | .int _ z => k - z.toNat | _ => 0)
                    case atStart => exact ⟨0, Nat.zero_le _, rfl, rfl, Below.refl _ _⟩
                    case round =>
                      rename World => wo
                      obtain ⟨d, hd, rfl, rfl, hbo⟩ := hrel
                      have HBO := Lib.hid hbo
                      have HXR := Lib.hid (HXO.out.step hbo)
                      have g2 : 0 ≤ (d : Int) := by omega
                      clear hbo
                      by_cases hdk : d < k
                      · have g0 : (d : Int) < (k : Int) := by omega
                        have g1 : decide ((d : Int) < (k : Int)) = true := decide_eq_true g0
                        have hk := HK.out
                        have g3 := IntWalk.wrap64_in ((d : Int) + 1) (by omega)
                        have hol := of_le P2 x.n d
                        rw [← ofI_len] at hol
                        have g4 := IntWalk.wrap64_in (((ofI P2 x.n d).length : Int) + 1) (by omega)
                        have g5 : 0 ≤ ((ofI P2 x.n d).length : Int) := Int.natCast_nonneg _
                        have HDK := Lib.hid hdk
                        obtain ⟨b, cp, G, Q, hrl⟩ := HXR.out.ex.rl
                        have c0 := hrl.cD
                        have c1 := hrl.row.c0 hdk
                        have c2 := hrl.row.c1 hdk
                        have c3 := ac2 HXR.out.blk
                        have HY := Lib.hid (fun h1 h2 => ofI_yes (P := P2) (v := x.n) hdk h1 h2)
                        have HNO := Lib.hid (fun h => ofI_no (P := P2) (v := x.n) hdk h)
                        by_cases hu : 0 < (P2 d).u
                        · as_aux_lemma =>
                            have s1 : decide ((0 : Int) < ((P2 d).u : Int)) = true := decide_eq_true (Int.natCast_pos.2 hu)
                            have s2 : decide (0 < (P2 d).u) = true := decide_eq_true hu
                            by_cases hv : (P2 d).v = x.n
                            · have s3 : ((P2 d).v == x.n) = true := beq_iff_eq.2 hv
                              have hy := HY.out (by rw [is_nat hdk]; exact s2) hv
                              obtain ⟨hlen, hget⟩ := ofI_at hdk hy
                              obtain ⟨ob, oo, rfl, hoc⟩ := (HKO.out.below HBO.out (Nat.le_refl _)).at hlen
                              rw [hget] at hoc
                              have hod : ∀ nq, (wo.drewN nq).cell? ⟨ob, oo + (ofI P2 x.n d).length, none⟩ = some (.int .i64 (d : Int)) := fun _ => hoc
                              have s4 : ((ofI P2 x.n d).length : Int) < ((ofI P2 x.n k).length : Int) := Int.ofNat_lt.2 hlen
                              have s5 : decide (((ofI P2 x.n k).length : Int) ≤ ((ofI P2 x.n d).length : Int)) = false := decide_eq_false (Int.not_le.2 s4)
                              have s6 : decide ((ofI P2 x.n k).length ≤ (ofI P2 x.n d).length) = false := decide_eq_false (Nat.not_le.2 hlen)
                              have s7 : ((d : Int) != (d : Int)) = false := by simp
                              have HLZ := Lib.hid (show ((ofI P2 x.n (d + 1)).length : Int) = ((ofI P2 x.n d).length : Int) + 1 by rw [hy, List.length_append, List.length_singleton]; rfl)
                              generalize (P2 d).u = u1 at *
                              generalize (P2 d).v = v1 at *
                              clear hu hdk hrl hlen hget hy
                              generalize (ofI P2 x.n d).length = cn at *
                              generalize (ofI P2 x.n k).length = ct at *
                              have HG4 := Lib.hid g4
                              clear g4 hol
                              go_wp2_with (fail)
                              go_quiet (fail)
                              go_wp2_with (fail)
                              exact ⟨⟨d + 1, HDK.out, by rw [HLZ.out, HG4.out], rfl, HBO.out.trans ((below_drewN (Below.refl _ _) _).mono HBO.out.size)⟩, vc_less d k HDK.out⟩
                            · have s3 : ((P2 d).v == x.n) = false := beq_eq_false_iff_ne.2 hv
                              have HLZ := Lib.hid (HNO.out (.inr hv))
                              generalize (P2 d).u = u1 at *
                              generalize (P2 d).v = v1 at *
                              clear hu hdk hrl
                              go_wp2_with (fail)
                              go_quiet (fail)
                              go_wp2_with (fail)
                              exact ⟨⟨d + 1, HDK.out, by rw [HLZ.out], rfl, HBO.out.trans ((below_drewN (Below.refl _ _) _).mono HBO.out.size)⟩, vc_less d k HDK.out⟩
                        · as_aux_lemma =>
                            have s1 : decide ((0 : Int) < ((P2 d).u : Int)) = false := decide_eq_false fun h => hu (Int.natCast_pos.1 h)
                            have s2 : decide (0 < (P2 d).u) = false := decide_eq_false hu
                            have HLZ := Lib.hid (HNO.out (.inl (by rw [is_nat hdk]; exact s2)))
                            generalize (P2 d).u = u1 at *
                            generalize (P2 d).v = v1 at *
                            clear hu hdk hrl
                            go_wp2_with (fail)
                            go_quiet (fail)
                            go_wp2_with (fail)
                            exact ⟨⟨d + 1, HDK.out, by rw [HLZ.out], rfl, HBO.out.trans ((below_drewN (Below.refl _ _) _).mono HBO.out.size)⟩, vc_less d k HDK.out⟩
                      · as_aux_lemma =>
                          have hdk2 : d = k := by omega
                          subst hdk2
                          have g0 : ¬ (d : Int) < (d : Int) := by omega
                          have g1 : decide ((d : Int) < (d : Int)) = false := decide_eq_false g0
                          have s1 : (((ofI P2 x.n d).length : Int) != ((ofI P2 x.n d).length : Int)) = false := by simp
                          have HXS := Lib.hid (show Exs w wo D E d (j + 1) from ⟨⟨F2, Fu2, P2, HXR.out.ex, HBN.out⟩⟩)
                          generalize (ofI P2 x.n d).length = cn at *
                          clear hdk
                          go_wp2_with (fail)
                          exact ⟨⟨j + 1, rfl, HJ.out, HXS.out⟩, vc_less j 60 HJ.out⟩
    · have hc : (¬ ((j : Int) < (len : Int)) ∧ decide ((j : Int) < (len : Int)) = false) ∨ (((j : Int) < (len : Int)) ∧ decide ((j : Int) < (len : Int)) = true ∧ decide ((j : Int) < 60) = false ∧ decide (j < 60) = false) := by
        by_cases h1 : (j : Int) < (len : Int)
        · exact .inr ⟨h1, decide_eq_true h1, decide_eq_false (by omega), decide_eq_false (by omega)⟩
        · exact .inl ⟨h1, decide_eq_false h1⟩
      obtain ⟨F, Fu, P, hex, hbn⟩ := HE.out.has
      have HBW := Lib.hid hex.has.below
      have HTK := Lib.hid (fun W => pnil_take W 1)
      have HSH := Lib.hid (fun W A => pnil_share W A 1 1)
      have HDR := Lib.hid (fun W A => pnil_drop W A 1 1)
      have HPT := Lib.hid (fun W A B => pnil_put W 0 A B 1 1 1 1)
      have HGT := Lib.hid (fun W => pnil_get (W.alloc (.cells #[.int .i64 0] 3)) (g := W.heap.size) (m := 1) (c := 1) [0] rfl (by omega) (kin_one W 0))
      have HVE := Lib.hid (fun W => pnil_version W 0)
      have HUS := Lib.hid (fun W => pnil_users W 0)
      have HFR := Lib.hid (fun W => pnil_Free W)
      have HLE := Lib.hid (fun W => pages_len_nil W)
      have HOF := Lib.hid (fun W => pnil_of W 1)
      clear hex hbn HE HA
      rcases hc with ⟨x0, x1⟩ | ⟨x0, x1, x3, x4⟩
      all_goals clear hlt hj
      all_goals
        as_aux_lemma =>
          go_upto_region 56 with (fail)
          go_wp2_with (go_at_call 15; refine (HTK.out _).mono ?_; rintro e w1 ⟨rfl, b1⟩; have B1 := Lib.hid (HBW.out.trans (b1.mono HBW.out.size)); clear b1)
          go_wp2_with (first
            | (go_at_call 9; refine (HSH.out _ _).mono ?_; rintro e w2 ⟨rfl, b2⟩; have QB2 := B1.out.trans ((one_below w1 (.cells #[.int .i64 0] 3)).mono B1.out.size); have B2 := Lib.hid (QB2.trans (b2.mono QB2.size)); clear QB2; clear b2)
            | (go_at_call 11; refine (HDR.out _ _).mono ?_; rintro e w3 ⟨rfl, b3⟩; have QB3 := B2.out.trans ((one_below w2 (.cells #[.int .i64 0] 3)).mono B2.out.size); have B3 := Lib.hid (QB3.trans (b3.mono QB3.size)); clear QB3; clear b3)
            | (go_at_call 12; refine (HEN.out _ 1).mono ?_; rintro e w4 ⟨rfl, _, b4⟩; have B4 := Lib.hid (B3.out.trans (b4.mono B3.out.size)); clear b4)
            | (go_at_call 13; refine (HPT.out _ _ _).mono ?_; rintro e w5 ⟨rfl, b5⟩; have B5 := Lib.hid (B4.out.trans (b5.mono B4.out.size)); clear b5)
            | (go_at_call 18; refine (HGT.out _).mono ?_; rintro e w6 ⟨rfl, b6⟩; have QB6 := B5.out.trans ((one_below w5 (.cells #[.int .i64 0] 3)).mono B5.out.size); have B6 := Lib.hid (QB6.trans (b6.mono QB6.size)); clear QB6; clear b6)
            | (go_at_call 20; refine (HVE.out _).mono ?_; rintro e w7 ⟨rfl, b7⟩; have B7 := Lib.hid (B6.out.trans (b7.mono B6.out.size)); clear b7)
            | (go_at_call 21; refine (HUS.out _).mono ?_; rintro e w8 ⟨rfl, b8⟩; have B8 := Lib.hid (B7.out.trans (b8.mono B7.out.size)); clear b8)
            | (go_at_call 22; refine (HFR.out _).mono ?_; rintro e w9 ⟨rfl, b9⟩; have B9 := Lib.hid (B8.out.trans (b9.mono B8.out.size)); clear b9)
            | (go_at_call 24; refine (HLE.out _).mono ?_; rintro e wl ⟨rfl, rfl⟩)
            | (go_at_call 26; refine (HOF.out _).mono ?_; rintro e w10 ⟨rfl, b10⟩; have B10 := Lib.hid (B9.out.trans (b10.mono B9.out.size)); clear b10))
          exact bodyPost_ret (results_tmp rfl _ _ _) rfl ⟨rfl, B10.out⟩
end Go.Proofs.Ytlapinecmiacoaa.PgEx
