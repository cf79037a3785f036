/-
  Law 22: PagesUsers, walked. Condition: the deeds are there.
-/
import Derived.Test.YtlapinecmiacoaaMg19
import Derived.Test.YtlapinecmiacoaaMg21
import Derived.Deep.RegionHeld3
set_option maxRecDepth 100000
namespace Go.Proofs.Ytlapinecmiacoaa.PgUs
open Go.ChangeShapes Go.WideShapes Go.ChangeAt Go.RowKit Nm Cf Vc Sp Pg

/-- Behind so many deeds. -/
structure Us (w0 : World) (D k i : Nat) (W : World) : Prop where
  has : ∃ F P, Has w0 F W D k P ∧ Bnd P (1 + 10 * i) ∧ VIn P k
theorem Us.below {w0 W : World} {D k i : Nat} (h : Us w0 D k i W) : Below w0.heap.size w0 W := by obtain ⟨F, P, h, _⟩ := h.has; exact h.below
/-- What is left once the first pages have no users. -/
structure Lf (w0 : World) (D k j : Nat) (W : World) : Prop where
  has : ∃ F P, Has w0 F W D k P ∧ Bnd P 1000000 ∧ ∀ i, i < j → (P i).u = 0

set_option maxRecDepth 100000 in
set_option maxHeartbeats 6400000 in
theorem walk (w : World) (n : Int) (A : Option Addr) (len cap : Nat) (X : Nat → Ac) (hA : ActsIn w A len X) :
    Calls Try.prog 5 #[.int .i64 n, .slice A len cap] w fun e w' => e = .returned (.bool true) ∧ Below w.heap.size w w' := by
  have HA := Lib.hid hA
  obtain ⟨m, hm, hmm⟩ := cut64 n 20 (by omega)
  have hmm' : (IntKind.u64.wrap n).tmod 20 = (m : Int) := hmm
  have y1 := IntWalk.wrap64_in (m : Int) (by omega)
  obtain ⟨k, hk⟩ : ∃ k, m + 1 = k := ⟨_, rfl⟩
  have HK := Lib.hid (show 1 ≤ k ∧ k ≤ 20 by omega)
  have y2 : wrap64 (1 + (m : Int)) = (k : Int) := by rw [show (1 : Int) + (m : Int) = (k : Int) by omega]; exact IntWalk.wrap64_in _ (by omega)
  have HNEW := Lib.hid (fun W => pages_new W k HK.out.1 (by have := HK.out; omega))
  clear hA hmm hk hm
  go_enter Try.func5, Try.ntmps5
  go_wp2_with (fail)
  refine (law_awake _).mono ?_
  rintro e w1 ⟨rfl, b1⟩
  have HB1 := Lib.hid b1
  clear b1
  go_upto_region 4 with (fail)
  try rw [y2]
  clear hmm' y1 y2
  go_wp2_with (fail)
  refine (HNEW.out _).mono ?_
  rintro e w2 ⟨D, F0, rfl, pl0, new0, b2⟩
  have HU0 := Lib.hid (show Us w D k 0 w2 from ⟨⟨F0, fun _ => fr, ⟨pl0, fun k hk => Nat.le_trans HB1.out.size (new0 k hk), HB1.out.trans (b2.mono HB1.out.size)⟩, bnd_new.le (by omega), fun j _ hu => absurd hu (Nat.lt_irrefl 0)⟩⟩)
  clear pl0 new0 b2 HB1 HNEW
  go_wp2_with (fail)
  go_loopw [7] (fun i wr => ∃ j : Nat, i = .int .i64 (j : Int) ∧ j ≤ 60 ∧ Us w D k j wr) (fun i _ => match i with | .int _ z => 60 - z.toNat | _ => 0)
  case atStart => exact ⟨0, rfl, Nat.zero_le _, HU0.out⟩
  case round =>
    clear HU0
    obtain ⟨j, rfl, hj, hu⟩ := hrel
    have HU := Lib.hid hu
    have x2 : 0 ≤ (j : Int) := by omega
    clear hu
    by_cases hlt : j < len ∧ j < 60
    · have x0 : (j : Int) < (len : Int) := by omega
      have x1 : decide ((j : Int) < (len : Int)) = true := decide_eq_true x0
      have x3 : decide ((j : Int) < 60) = true := decide_eq_true (by omega)
      have x4 : decide (j < 60) = true := decide_eq_true hlt.2
      have x5 := IntWalk.wrap64_in ((j : Int) + 1) (by omega)
      have HJ := Lib.hid hlt.2
      have hAr := HA.out.keepFrom HU.out.below
      obtain ⟨pa, oa, rfl, hcell⟩ := hAr.row (by omega)
      obtain ⟨k0, k1, k2, k3⟩ := hcell j hlt.1
      have HKN := Lib.hid (HA.out.kin j hlt.1)
      generalize X j = x at *
      have HXB := Lib.hid (heap_alloc_new wr (acO x))
      have HUA := Lib.hid (show Below wr.heap.size wr (wr.alloc (acO x)) from one_below wr _)
      obtain ⟨F, P, hh, hb, hv⟩ := HU.out.has
      have HH := Lib.hid (hh.step HUA.out)
      have HNW := Lib.hid (show ¬ F wr.heap.size from fun hf => absurd (hh.pl.lt _ hf) (Nat.lt_irrefl _))
      have HBN := Lib.hid hb
      have HV := Lib.hid hv
      have HBM := Lib.hid (show Bnd P 1000000 from hb.le (by omega))
      have HBE := Lib.hid (show 1 + 10 * j ≤ 1 + 10 * (j + 1) by omega)
      have j0 := ac0 HXB.out
      have j1 := ac1 HXB.out
      have j2 := ac2 HXB.out
      have j3 := ac3 HXB.out
      clear hAr hcell hh hb hv hlt
      by_cases hl : 10 < x.l.length
      · have t0 : decide ((10 : Int) < (x.l.length : Int)) = true := decide_eq_true (by omega)
        have t1 : decide (10 < x.l.length) = true := decide_eq_true hl
        have HBZ := Lib.hid (HH.out.below)
        clear hl HH HU
        go_wp2_with (fail)
        exact bodyPost_ret (results_tmp rfl _ _ _) rfl ⟨rfl, HBZ.out⟩
      have t0 : decide ((10 : Int) < (x.l.length : Int)) = false := decide_eq_false (by omega)
      have t1 : decide (10 < x.l.length) = false := decide_eq_false hl
      have HKA := Lib.hid (show KIn .i64 (wr.alloc (acO x)) x.A x.l from HKN.out.below HH.out.below (Nat.le_refl _))
      have HSH := Lib.hid (has_share HH.out (c0 := x.c) rfl (by omega) HKA.out (old_off HH.out (KIn.low' HKN.out)) HBM.out)
      have HDR := Lib.hid (has_drop HH.out (c0 := x.c) rfl (by omega) HKA.out HBM.out)
      have HLL := Lib.hid (show x.l.length ≤ 10 by omega)
      have HTK := Lib.hid (fun v => has_take HH.out v)
      have HEN := Lib.hid (fun W z => law_entry W z)
      unfold EntSays at HEN
      by_cases h3 : x.k = 3
      · have t3 : (x.k == 3) = true := beq_iff_eq.2 h3
        clear h3 hl HU
        go_wp2_with (go_at_call 9; refine HSH.out.mono ?_; rintro e w4 ⟨rfl, F4, h4, _, _⟩; have H4 := Lib.hid (show Us w D k (j + 1) w4 from ⟨⟨F4, _, h4, (bnd_share HBN.out x.l).le (by have := HLL.out; omega), vin_share HV.out x.l⟩⟩); clear h4)
        exact ⟨⟨j + 1, rfl, HJ.out, H4.out⟩, vc_less j 60 HJ.out⟩
      have t3 : (x.k == 3) = false := beq_eq_false_iff_ne.2 h3
      by_cases h4 : x.k = 4
      · have t4 : (x.k == 4) = true := beq_iff_eq.2 h4
        clear h3 h4 hl HU
        go_wp2_with (go_at_call 11; refine HDR.out.mono ?_; rintro e w4 ⟨rfl, F4, h4, _, _⟩; have H4 := Lib.hid (show Us w D k (j + 1) w4 from ⟨⟨F4, _, h4, (bnd_drop HBN.out x.l).le HBE.out, vin_drop HV.out x.l⟩⟩); clear h4)
        exact ⟨⟨j + 1, rfl, HJ.out, H4.out⟩, vc_less j 60 HJ.out⟩
      have t4 : (x.k == 4) = false := beq_eq_false_iff_ne.2 h4
      by_cases h5 : x.k = 5 ∨ x.k = 6 ∨ x.k = 7
      · have HPU := Lib.hid (fun W (hW : Below (wr.alloc (acO x)).heap.size (wr.alloc (acO x)) W) N (he : EntIs W N x.n) => has_put (HH.out.step hW) x.id he.on (entX_small x.n))
        have HKC := Lib.hid (show ∀ W, Below (wr.alloc (acO x)).heap.size (wr.alloc (acO x)) W → W.cell? ⟨wr.heap.size, 1, none⟩ = some (.int .i64 x.id) ∧ W.cell? ⟨wr.heap.size, 2, none⟩ = some (.int .i64 x.n) from fun W hW => ⟨(hW.cell (p := ⟨wr.heap.size, 1, none⟩) (by simp)).trans j1, (hW.cell (p := ⟨wr.heap.size, 2, none⟩) (by simp)).trans j2⟩)
        have HNF := Lib.hid (show ∀ W, Below (wr.alloc (acO x)).heap.size (wr.alloc (acO x)) W → ∀ w', Turn F W w' → w'.cell? ⟨wr.heap.size, 1, none⟩ = some (.int .i64 x.id) ∧ w'.cell? ⟨wr.heap.size, 2, none⟩ = some (.int .i64 x.n) from fun W hW w' ht => by
          obtain ⟨a1, a2⟩ := HKC.out W hW
          have hs : wr.heap.size < W.heap.size := Nat.lt_of_lt_of_le (by simp) hW.size
          have hf : ¬ F wr.heap.size := HNW.out
          have hb := ht.block wr.heap.size hs hf
          exact ⟨(World.cell?_of_block (w := W) (a := ⟨wr.heap.size, 1, none⟩) hb).trans a1, (World.cell?_of_block (w := W) (a := ⟨wr.heap.size, 2, none⟩) hb).trans a2⟩)
        have t7 : (x.k == 5) = true ∨ ((x.k == 5) = false ∧ (x.k == 6) = true) ∨ ((x.k == 5) = false ∧ (x.k == 6) = false ∧ (x.k == 7) = true) := by
          rcases h5 with h | h | h <;> rw [h] <;> decide
        clear h3 h4 h5 hl HU
        rcases t7 with t7 | ⟨t7, t8⟩ | ⟨t7, t8, t9⟩
        · go_upto_region 20 with (fail)
          obtain ⟨wa, hwa⟩ : ∃ wa, wr.alloc (acO x) = wa := ⟨_, rfl⟩
          rw [show wr.alloc (.cells #[.int .i64 x.k, .int .i64 x.id, .int .i64 x.n, .slice x.A x.l.length x.c] 30) = wa from hwa]
          rw [hwa] at HKC HPU HNF HH
          clear hwa j0 j1 j2 j3 k0 k1 k2 k3 HKA HSH HDR HTK HUA HXB
          have HZZ := Lib.hid (below_drewN (Below.refl wa.heap.size wa) 1)
          have k5 := HKC.out _ HZZ.out
          go_region_held3 (fun W : World => W.cell? ⟨wr.heap.size, 1, none⟩ = some (.int .i64 x.id) ∧ W.cell? ⟨wr.heap.size, 2, none⟩ = some (.int .i64 x.n)) (first | exact k5 | assumption) (first
            | (go_at_call 12; refine (HEN.out _ _).mono ?_; rintro e w4 ⟨rfl, e4, b4⟩; have B4 := Lib.hid (HZZ.out.trans (b4.mono HZZ.out.size)); have E4 := Lib.hid e4; have k6 := HKC.out _ B4.out; clear e4 b4)
            | (go_at_call 13; refine (HPU.out _ B4.out _ E4.out).mono ?_; rintro e w5 ⟨rfl, F5, h5, _, ht5⟩; have H5 := Lib.hid (show Us w D k (j + 1) w5 from ⟨⟨F5, _, h5, (bnd_put HBN.out _ _).le HBE.out, vin_put HV.out _ _⟩⟩); have k7 := HNF.out _ B4.out _ ht5; clear h5 ht5))
          go_wp2_with (fail)
          exact ⟨⟨j + 1, rfl, HJ.out, H5.out⟩, vc_less j 60 HJ.out⟩
        · go_upto_region 20 with (fail)
          obtain ⟨wa, hwa⟩ : ∃ wa, wr.alloc (acO x) = wa := ⟨_, rfl⟩
          rw [show wr.alloc (.cells #[.int .i64 x.k, .int .i64 x.id, .int .i64 x.n, .slice x.A x.l.length x.c] 30) = wa from hwa]
          rw [hwa] at HKC HPU HNF HH
          clear hwa j0 j1 j2 j3 k0 k1 k2 k3 HKA HSH HDR HTK HUA HXB
          have HZZ := Lib.hid (below_drewN (Below.refl wa.heap.size wa) 1)
          have k5 := HKC.out _ HZZ.out
          go_region_held3 (fun W : World => W.cell? ⟨wr.heap.size, 1, none⟩ = some (.int .i64 x.id) ∧ W.cell? ⟨wr.heap.size, 2, none⟩ = some (.int .i64 x.n)) (first | exact k5 | assumption) (first
            | (go_at_call 12; refine (HEN.out _ _).mono ?_; rintro e w4 ⟨rfl, e4, b4⟩; have B4 := Lib.hid (HZZ.out.trans (b4.mono HZZ.out.size)); have E4 := Lib.hid e4; have k6 := HKC.out _ B4.out; clear e4 b4)
            | (go_at_call 13; refine (HPU.out _ B4.out _ E4.out).mono ?_; rintro e w5 ⟨rfl, F5, h5, _, ht5⟩; have H5 := Lib.hid (show Us w D k (j + 1) w5 from ⟨⟨F5, _, h5, (bnd_put HBN.out _ _).le HBE.out, vin_put HV.out _ _⟩⟩); have k7 := HNF.out _ B4.out _ ht5; clear h5 ht5))
          go_wp2_with (fail)
          exact ⟨⟨j + 1, rfl, HJ.out, H5.out⟩, vc_less j 60 HJ.out⟩
        · go_upto_region 20 with (fail)
          obtain ⟨wa, hwa⟩ : ∃ wa, wr.alloc (acO x) = wa := ⟨_, rfl⟩
          rw [show wr.alloc (.cells #[.int .i64 x.k, .int .i64 x.id, .int .i64 x.n, .slice x.A x.l.length x.c] 30) = wa from hwa]
          rw [hwa] at HKC HPU HNF HH
          clear hwa j0 j1 j2 j3 k0 k1 k2 k3 HKA HSH HDR HTK HUA HXB
          have HZZ := Lib.hid (below_drewN (Below.refl wa.heap.size wa) 1)
          have k5 := HKC.out _ HZZ.out
          go_region_held3 (fun W : World => W.cell? ⟨wr.heap.size, 1, none⟩ = some (.int .i64 x.id) ∧ W.cell? ⟨wr.heap.size, 2, none⟩ = some (.int .i64 x.n)) (first | exact k5 | assumption) (first
            | (go_at_call 12; refine (HEN.out _ _).mono ?_; rintro e w4 ⟨rfl, e4, b4⟩; have B4 := Lib.hid (HZZ.out.trans (b4.mono HZZ.out.size)); have E4 := Lib.hid e4; have k6 := HKC.out _ B4.out; clear e4 b4)
            | (go_at_call 13; refine (HPU.out _ B4.out _ E4.out).mono ?_; rintro e w5 ⟨rfl, F5, h5, _, ht5⟩; have H5 := Lib.hid (show Us w D k (j + 1) w5 from ⟨⟨F5, _, h5, (bnd_put HBN.out _ _).le HBE.out, vin_put HV.out _ _⟩⟩); have k7 := HNF.out _ B4.out _ ht5; clear h5 ht5))
          go_wp2_with (fail)
          exact ⟨⟨j + 1, rfl, HJ.out, H5.out⟩, vc_less j 60 HJ.out⟩
      have t5 : (x.k == 5) = false := beq_eq_false_iff_ne.2 fun h => h5 (.inl h)
      have t6 : (x.k == 6) = false := beq_eq_false_iff_ne.2 fun h => h5 (.inr (.inl h))
      have t7 : (x.k == 7) = false := beq_eq_false_iff_ne.2 fun h => h5 (.inr (.inr h))
      obtain ⟨q, hq, hqq⟩ := cut64 x.n 4 (by omega)
      have hqq' : (IntKind.u64.wrap x.n).tmod 4 = (q : Int) := hqq
      have z1 := IntWalk.wrap64_in (q : Int) (by omega)
      have z2 := IntWalk.wrap64_in (1 + (q : Int)) (by omega)
      have HTQ := Lib.hid (HTK.out (1 + (q : Int)))
      have HVQ := Lib.hid (vin_take HV.out (v := 1 + (q : Int)) (by omega))
      clear h3 h4 h5 hl HU hqq HTK
      go_wp2_with (go_at_call 15; refine HTQ.out.mono ?_; rintro e w4 ⟨rfl, F4, h4, _, _⟩; have H4 := Lib.hid (show Us w D k (j + 1) w4 from ⟨⟨F4, _, h4, (bnd_take HBN.out (by omega) _).le HBE.out, HVQ.out⟩⟩); clear h4)
      exact ⟨⟨j + 1, rfl, HJ.out, H4.out⟩, vc_less j 60 HJ.out⟩
    · have hc : (¬ ((j : Int) < (len : Int)) ∧ decide ((j : Int) < (len : Int)) = false) ∨ (((j : Int) < (len : Int)) ∧ decide ((j : Int) < (len : Int)) = true ∧ decide ((j : Int) < 60) = false ∧ decide (j < 60) = false) := by
        by_cases h1 : (j : Int) < (len : Int)
        · exact .inr ⟨h1, decide_eq_true h1, decide_eq_false (by omega), decide_eq_false (by omega)⟩
        · exact .inl ⟨h1, decide_eq_false h1⟩
      rcases hc with ⟨x0, x1⟩ | ⟨x0, x1, x3, x4⟩
      · go_upto_region 21 with (fail)
        obtain ⟨F, P, hh, hb, hv⟩ := HU.out.has
        have HH := Lib.hid hh
        have HBN := Lib.hid (show Bnd P 1000000 from hb.le (by omega))
        have HFO := Lib.hid (use_four hv)
        have HUL := Lib.hid (fun v => use_le P k v)
        have HOF := Lib.hid (fun W (hW : Has w F W D k P) v => pages_of hW.pl v)
        have HFR := Lib.hid (fun W (hW : Has w F W D k P) => pages_Free hW.pl)
        have HFL := Lib.hid (free_le P k)
        unfold OfSays at HOF
        clear hh hb hv HU HA
        go_wp2_with (fail)
        go_loopw [9, 10] (fun s i wr => ∃ v : Nat, v ≤ 4 ∧ s = .int .i64 (useN P k v : Nat) ∧ i = .int .i64 ((v : Int) + 1) ∧ Has w F wr D k P) (fun _ i _ => match i with | .int _ z => 5 - z.toNat | _ => 0)
        case atStart => exact ⟨0, by omega, rfl, rfl, HH.out⟩
        case round =>
          clear HH
          obtain ⟨v, hv4, rfl, rfl, hh⟩ := hrel
          have HH := Lib.hid hh
          have hk := HK.out
          have hul := HUL.out v
          have hvk : v * k ≤ 80 := Nat.le_trans (Nat.mul_le_mul hv4 hk.2) (by omega)
          clear hh
          by_cases hv : v < 4
          · have z0 : decide ((v : Int) + 1 ≤ 4) = true := decide_eq_true (by omega)
            have z1 := IntWalk.wrap64_in ((v : Int) + 1 + 1) (by omega)
            have z2 : ¬ (4 < (v : Int) + 1) := by omega
            have HV5 := Lib.hid hv
            have hol : (ofI P ((v : Int) + 1) k).length ≤ 20 := by rw [ofI_len]; exact Nat.le_trans (of_le _ _ _) hk.2
            have HWZ := Lib.hid (show wrap64 ((useN P k v : Nat) + ((ofI P ((v : Int) + 1) k).length : Int)) = (useN P k (v + 1) : Nat) by
              rw [IntWalk.wrap64_in _ (by omega)]
              show _ = ((useN P k v + (ofI P ((v : Int) + 1) k).length : Nat) : Int)
              omega)
            have HMS := Lib.hid (show 5 - ((v : Int) + 1 + 1).toNat < 5 - ((v : Int) + 1).toNat by omega)
            clear hul hvk hol hk
            go_wp2_with (go_at_call 26; refine (HOF.out _ HH.out _).mono ?_; rintro e w3 ⟨oA, oc, rfl, _, b3⟩; have H3 := Lib.hid (HH.out.step b3); clear b3)
            try rw [HWZ.out]
            try rw [z1]
            exact ⟨⟨v + 1, HV5.out, rfl, rfl, H3.out⟩, HMS.out⟩
          · have hv5 : v = 4 := by omega
            subst hv5
            have hE : wrap64 ((useN P k 4 : Nat) + ((freeN P k : Nat) : Int)) = (k : Int) := by
              have h1 := HFO.out
              rw [IntWalk.wrap64_in _ (by omega)]
              omega
            have hkk : ((k : Int) != (k : Int)) = false := by simp
            clear hul hvk hk hv hv4
            go_wp2_with (go_at_call 22; refine (HFR.out _ HH.out).mono ?_; rintro e w3 ⟨rfl, b3⟩; have H3 := Lib.hid (HH.out.step b3); clear b3)
            clear hE hkk HH HOF HUL
            have HL0 := Lib.hid (show Lf w D k 0 w3 from ⟨⟨F, P, H3.out, HBN.out, fun i hi => absurd hi (Nat.not_lt_zero i)⟩⟩)
            clear H3 HFR HBN HFL
            go_loopw [11] (fun i wr => ∃ d : Nat, i = .int .i64 (d : Int) ∧ d ≤ k ∧ Lf w D k d wr) (fun i _ => match i with | .int _ z => k - z.toNat | _ => 0)
            case atStart => exact ⟨0, rfl, Nat.zero_le _, HL0.out⟩
            case round =>
              clear HL0
              obtain ⟨d, rfl, hd, hl⟩ := hrel
              have HL := Lib.hid hl
              have hk := HK.out
              clear hl
              by_cases hdk : d < k
              · have z0 : (d : Int) < (k : Int) := by omega
                have z1 : decide ((d : Int) < (k : Int)) = true := decide_eq_true z0
                have z2 := IntWalk.wrap64_in ((d : Int) + 1) (by omega)
                have HD := Lib.hid hdk
                clear hk
                go_wp2_with (fail)
                go_loopw [] (fun wr => Lf w D k d wr) (fun wr => meas D d wr)
                case atStart => exact HL.out
                case round =>
                  clear HL
                  have HL := Lib.hid hrel
                  clear hrel
                  obtain ⟨F2, P2, hh2, hb2, hu2⟩ := HL.out.has
                  have HUS := Lib.hid (fun W (hW : Has w F2 W D k P2) => pages_users hW.pl (d : Int))
                  have hui : usrI k P2 (d : Int) = (P2 d).u := by rw [← at_usr, at_in HD.out]
                  rw [hui] at HUS
                  have HH2 := Lib.hid hh2
                  have HMS := Lib.hid (meas_is hh2.pl HD.out)
                  have HB2 := Lib.hid hb2
                  have HU2 := Lib.hid hu2
                  clear hh2 hb2 hu2 hui HL
                  by_cases hu0 : (P2 d).u = 0
                  · have HU0 := Lib.hid (show ∀ i, i < d + 1 → (P2 i).u = 0 from fun i hi => by
                      by_cases e : i = d
                      · rw [e]; exact hu0
                      · exact HU2.out i (by omega))
                    have s1 : decide ((0 : Int) < ((P2 d).u : Int)) = false := decide_eq_false (by omega)
                    have s2 : decide (0 < (P2 d).u) = false := decide_eq_false (by omega)
                    generalize (P2 d).u = u at *
                    go_wp2_with (go_at_call 21; refine (HUS.out _ HH2.out).mono ?_; rintro e w4 ⟨rfl, b4⟩; have H4 := Lib.hid (HH2.out.step b4); clear b4)
                    try rw [z2]
                    exact ⟨⟨d + 1, rfl, HD.out, ⟨⟨F2, P2, H4.out, HB2.out, HU0.out⟩⟩⟩, vc_less d k HD.out⟩
                  · have s1 : decide ((0 : Int) < ((P2 d).u : Int)) = true := decide_eq_true (by omega)
                    have s2 : decide (0 < (P2 d).u) = true := decide_eq_true (by omega)
                    obtain ⟨q1, q2, q3⟩ := drop_id (P := P2) HD.out (by omega : 0 < (P2 d).u)
                    have HDO := Lib.hid (fun W (hW : Has w F2 W D k P2) => drop_one hW (d : Int) HB2.out)
                    rw [q1] at HDO
                    have HLN := Lib.hid (show ∀ i, i < d → (dropS k P2 [(d : Int)] i).u = 0 from fun i hi => (q3 i (by omega)).trans (HU2.out i hi))
                    have HBD := Lib.hid (bnd_drop (n := k) HB2.out [(d : Int)])
                    have hui : usrI k (dropS k P2 [(d : Int)]) (d : Int) = (P2 d).u - 1 := by rw [← at_usr, at_in HD.out, q2]
                    have HUT := Lib.hid (fun W F3 (hW : Has w F3 W D k (dropS k P2 [(d : Int)])) => pages_users hW.pl (d : Int))
                    rw [hui] at HUT
                    have HMT := Lib.hid (show ∀ W F3, Has w F3 W D k (dropS k P2 [(d : Int)]) → meas D d W = (P2 d).u - 1 from fun W F3 hW => (meas_is hW.pl HD.out).trans q2)
                    have s3 := IntWalk.wrap64_in (((P2 d).u : Int) - 1) (by have := HB2.out d; omega)
                    have s4 : (((P2 d).u - 1 : Nat) : Int) = ((P2 d).u : Int) - 1 := by omega
                    rw [s4] at HUT
                    have s5 : (((P2 d).u : Int) - 1 != ((P2 d).u : Int) - 1) = false := by simp
                    have HPO := Lib.hid (show 0 < (P2 d).u by omega)
                    clear q1 q2 q3 hui s4 hu0
                    generalize hP3 : dropS k P2 [(d : Int)] = P3 at *
                    clear hP3
                    generalize (P2 d).u = u at *
                    go_wp2_with (first
                      | (go_at_call 21; refine (HUT.out _ _ H6.out).mono ?_; rintro e w7 ⟨rfl, b7⟩; have H7 := Lib.hid (H6.out.step b7); clear b7)
                      | (go_at_call 21; refine (HUS.out _ H4.out).mono ?_; rintro e w5 ⟨rfl, b5⟩; have H5 := Lib.hid (H4.out.step b5); clear b5)
                      | (go_at_call 21; refine (HUS.out _ HH2.out).mono ?_; rintro e w4 ⟨rfl, b4⟩; have H4 := Lib.hid (HH2.out.step b4); clear b4)
                      | (go_at_call 11; refine (HDO.out _ H5.out).mono ?_; rintro e w6 ⟨rfl, F6, h6, _, _⟩; have H6 := Lib.hid h6; clear h6))
                    exact ⟨⟨⟨F6, P3, H7.out, HBD.out, HLN.out⟩⟩, by rw [HMT.out _ _ H7.out, HMS.out]; have := HPO.out; omega⟩
              · have hdk2 : d = k := by omega
                subst hdk2
                have z0 : ¬ (d : Int) < (d : Int) := by omega
                have z1 : decide ((d : Int) < (d : Int)) = false := decide_eq_false z0
                obtain ⟨F2, P2, hh2, hb2, hu2⟩ := HL.out.has
                have HH2 := Lib.hid hh2
                have HF2 := Lib.hid (fun W (hW : Has w F2 W D d P2) => pages_Free hW.pl)
                rw [free_all P2 d hu2] at HF2
                have HO2 := Lib.hid (fun W (hW : Has w F2 W D d P2) => pages_of hW.pl 1)
                rw [show ofI P2 1 d = [] from by unfold ofI; rw [of_none hu2]; rfl] at HO2
                unfold OfSays at HO2
                clear hh2 hb2 hu2 hk hdk HL
                go_wp2_with (first
                  | (go_at_call 22; refine (HF2.out _ HH2.out).mono ?_; rintro e w4 ⟨rfl, b4⟩; have H4 := Lib.hid (HH2.out.step b4); clear b4)
                  | (go_at_call 26; refine (HO2.out _ H4.out).mono ?_; rintro e w5 ⟨oA, oc, rfl, _, b5⟩; have H5 := Lib.hid (H4.out.step b5); clear b5))
                exact bodyPost_ret (results_tmp rfl _ _ _) rfl ⟨rfl, H5.out.below⟩
      · go_upto_region 21 with (fail)
        obtain ⟨F, P, hh, hb, hv⟩ := HU.out.has
        have HH := Lib.hid hh
        have HBN := Lib.hid (show Bnd P 1000000 from hb.le (by omega))
        have HFO := Lib.hid (use_four hv)
        have HUL := Lib.hid (fun v => use_le P k v)
        have HOF := Lib.hid (fun W (hW : Has w F W D k P) v => pages_of hW.pl v)
        have HFR := Lib.hid (fun W (hW : Has w F W D k P) => pages_Free hW.pl)
        have HFL := Lib.hid (free_le P k)
        unfold OfSays at HOF
        clear hh hb hv HU HA
        go_wp2_with (fail)
        go_loopw [9, 10] (fun s i wr => ∃ v : Nat, v ≤ 4 ∧ s = .int .i64 (useN P k v : Nat) ∧ i = .int .i64 ((v : Int) + 1) ∧ Has w F wr D k P) (fun _ i _ => match i with | .int _ z => 5 - z.toNat | _ => 0)
        case atStart => exact ⟨0, by omega, rfl, rfl, HH.out⟩
        case round =>
          clear HH
          obtain ⟨v, hv4, rfl, rfl, hh⟩ := hrel
          have HH := Lib.hid hh
          have hk := HK.out
          have hul := HUL.out v
          have hvk : v * k ≤ 80 := Nat.le_trans (Nat.mul_le_mul hv4 hk.2) (by omega)
          clear hh
          by_cases hv : v < 4
          · have z0 : decide ((v : Int) + 1 ≤ 4) = true := decide_eq_true (by omega)
            have z1 := IntWalk.wrap64_in ((v : Int) + 1 + 1) (by omega)
            have z2 : ¬ (4 < (v : Int) + 1) := by omega
            have HV5 := Lib.hid hv
            have hol : (ofI P ((v : Int) + 1) k).length ≤ 20 := by rw [ofI_len]; exact Nat.le_trans (of_le _ _ _) hk.2
            have HWZ := Lib.hid (show wrap64 ((useN P k v : Nat) + ((ofI P ((v : Int) + 1) k).length : Int)) = (useN P k (v + 1) : Nat) by
              rw [IntWalk.wrap64_in _ (by omega)]
              show _ = ((useN P k v + (ofI P ((v : Int) + 1) k).length : Nat) : Int)
              omega)
            have HMS := Lib.hid (show 5 - ((v : Int) + 1 + 1).toNat < 5 - ((v : Int) + 1).toNat by omega)
            clear hul hvk hol hk
            go_wp2_with (go_at_call 26; refine (HOF.out _ HH.out _).mono ?_; rintro e w3 ⟨oA, oc, rfl, _, b3⟩; have H3 := Lib.hid (HH.out.step b3); clear b3)
            try rw [HWZ.out]
            try rw [z1]
            exact ⟨⟨v + 1, HV5.out, rfl, rfl, H3.out⟩, HMS.out⟩
          · have hv5 : v = 4 := by omega
            subst hv5
            have hE : wrap64 ((useN P k 4 : Nat) + ((freeN P k : Nat) : Int)) = (k : Int) := by
              have h1 := HFO.out
              rw [IntWalk.wrap64_in _ (by omega)]
              omega
            have hkk : ((k : Int) != (k : Int)) = false := by simp
            clear hul hvk hk hv hv4
            go_wp2_with (go_at_call 22; refine (HFR.out _ HH.out).mono ?_; rintro e w3 ⟨rfl, b3⟩; have H3 := Lib.hid (HH.out.step b3); clear b3)
            clear hE hkk HH HOF HUL
            have HL0 := Lib.hid (show Lf w D k 0 w3 from ⟨⟨F, P, H3.out, HBN.out, fun i hi => absurd hi (Nat.not_lt_zero i)⟩⟩)
            clear H3 HFR HBN HFL
            go_loopw [11] (fun i wr => ∃ d : Nat, i = .int .i64 (d : Int) ∧ d ≤ k ∧ Lf w D k d wr) (fun i _ => match i with | .int _ z => k - z.toNat | _ => 0)
            case atStart => exact ⟨0, rfl, Nat.zero_le _, HL0.out⟩
            case round =>
              clear HL0
              obtain ⟨d, rfl, hd, hl⟩ := hrel
              have HL := Lib.hid hl
              have hk := HK.out
              clear hl
              by_cases hdk : d < k
              · have z0 : (d : Int) < (k : Int) := by omega
                have z1 : decide ((d : Int) < (k : Int)) = true := decide_eq_true z0
                have z2 := IntWalk.wrap64_in ((d : Int) + 1) (by omega)
                have HD := Lib.hid hdk
                clear hk
                go_wp2_with (fail)
                go_loopw [] (fun wr => Lf w D k d wr) (fun wr => meas D d wr)
                case atStart => exact HL.out
                case round =>
                  clear HL
                  have HL := Lib.hid hrel
                  clear hrel
                  obtain ⟨F2, P2, hh2, hb2, hu2⟩ := HL.out.has
                  have HUS := Lib.hid (fun W (hW : Has w F2 W D k P2) => pages_users hW.pl (d : Int))
                  have hui : usrI k P2 (d : Int) = (P2 d).u := by rw [← at_usr, at_in HD.out]
                  rw [hui] at HUS
                  have HH2 := Lib.hid hh2
                  have HMS := Lib.hid (meas_is hh2.pl HD.out)
                  have HB2 := Lib.hid hb2
                  have HU2 := Lib.hid hu2
                  clear hh2 hb2 hu2 hui HL
                  by_cases hu0 : (P2 d).u = 0
                  · have HU0 := Lib.hid (show ∀ i, i < d + 1 → (P2 i).u = 0 from fun i hi => by
                      by_cases e : i = d
                      · rw [e]; exact hu0
                      · exact HU2.out i (by omega))
                    have s1 : decide ((0 : Int) < ((P2 d).u : Int)) = false := decide_eq_false (by omega)
                    have s2 : decide (0 < (P2 d).u) = false := decide_eq_false (by omega)
                    generalize (P2 d).u = u at *
                    go_wp2_with (go_at_call 21; refine (HUS.out _ HH2.out).mono ?_; rintro e w4 ⟨rfl, b4⟩; have H4 := Lib.hid (HH2.out.step b4); clear b4)
                    try rw [z2]
                    exact ⟨⟨d + 1, rfl, HD.out, ⟨⟨F2, P2, H4.out, HB2.out, HU0.out⟩⟩⟩, vc_less d k HD.out⟩
                  · have s1 : decide ((0 : Int) < ((P2 d).u : Int)) = true := decide_eq_true (by omega)
                    have s2 : decide (0 < (P2 d).u) = true := decide_eq_true (by omega)
                    obtain ⟨q1, q2, q3⟩ := drop_id (P := P2) HD.out (by omega : 0 < (P2 d).u)
                    have HDO := Lib.hid (fun W (hW : Has w F2 W D k P2) => drop_one hW (d : Int) HB2.out)
                    rw [q1] at HDO
                    have HLN := Lib.hid (show ∀ i, i < d → (dropS k P2 [(d : Int)] i).u = 0 from fun i hi => (q3 i (by omega)).trans (HU2.out i hi))
                    have HBD := Lib.hid (bnd_drop (n := k) HB2.out [(d : Int)])
                    have hui : usrI k (dropS k P2 [(d : Int)]) (d : Int) = (P2 d).u - 1 := by rw [← at_usr, at_in HD.out, q2]
                    have HUT := Lib.hid (fun W F3 (hW : Has w F3 W D k (dropS k P2 [(d : Int)])) => pages_users hW.pl (d : Int))
                    rw [hui] at HUT
                    have HMT := Lib.hid (show ∀ W F3, Has w F3 W D k (dropS k P2 [(d : Int)]) → meas D d W = (P2 d).u - 1 from fun W F3 hW => (meas_is hW.pl HD.out).trans q2)
                    have s3 := IntWalk.wrap64_in (((P2 d).u : Int) - 1) (by have := HB2.out d; omega)
                    have s4 : (((P2 d).u - 1 : Nat) : Int) = ((P2 d).u : Int) - 1 := by omega
                    rw [s4] at HUT
                    have s5 : (((P2 d).u : Int) - 1 != ((P2 d).u : Int) - 1) = false := by simp
                    have HPO := Lib.hid (show 0 < (P2 d).u by omega)
                    clear q1 q2 q3 hui s4 hu0
                    generalize hP3 : dropS k P2 [(d : Int)] = P3 at *
                    clear hP3
                    generalize (P2 d).u = u at *
                    go_wp2_with (first
                      | (go_at_call 21; refine (HUT.out _ _ H6.out).mono ?_; rintro e w7 ⟨rfl, b7⟩; have H7 := Lib.hid (H6.out.step b7); clear b7)
                      | (go_at_call 21; refine (HUS.out _ H4.out).mono ?_; rintro e w5 ⟨rfl, b5⟩; have H5 := Lib.hid (H4.out.step b5); clear b5)
                      | (go_at_call 21; refine (HUS.out _ HH2.out).mono ?_; rintro e w4 ⟨rfl, b4⟩; have H4 := Lib.hid (HH2.out.step b4); clear b4)
                      | (go_at_call 11; refine (HDO.out _ H5.out).mono ?_; rintro e w6 ⟨rfl, F6, h6, _, _⟩; have H6 := Lib.hid h6; clear h6))
                    exact ⟨⟨⟨F6, P3, H7.out, HBD.out, HLN.out⟩⟩, by rw [HMT.out _ _ H7.out, HMS.out]; have := HPO.out; omega⟩
              · have hdk2 : d = k := by omega
                subst hdk2
                have z0 : ¬ (d : Int) < (d : Int) := by omega
                have z1 : decide ((d : Int) < (d : Int)) = false := decide_eq_false z0
                obtain ⟨F2, P2, hh2, hb2, hu2⟩ := HL.out.has
                have HH2 := Lib.hid hh2
                have HF2 := Lib.hid (fun W (hW : Has w F2 W D d P2) => pages_Free hW.pl)
                rw [free_all P2 d hu2] at HF2
                have HO2 := Lib.hid (fun W (hW : Has w F2 W D d P2) => pages_of hW.pl 1)
                rw [show ofI P2 1 d = [] from by unfold ofI; rw [of_none hu2]; rfl] at HO2
                unfold OfSays at HO2
                clear hh2 hb2 hu2 hk hdk HL
                go_wp2_with (first
                  | (go_at_call 22; refine (HF2.out _ HH2.out).mono ?_; rintro e w4 ⟨rfl, b4⟩; have H4 := Lib.hid (HH2.out.step b4); clear b4)
                  | (go_at_call 26; refine (HO2.out _ H4.out).mono ?_; rintro e w5 ⟨oA, oc, rfl, _, b5⟩; have H5 := Lib.hid (H4.out.step b5); clear b5))
                exact bodyPost_ret (results_tmp rfl _ _ _) rfl ⟨rfl, H5.out.below⟩
end Go.Proofs.Ytlapinecmiacoaa.PgUs
