/-
  Law 22: PagesApart, walked. Condition: the numbers are there.
-/
import Derived.Test.YtlapinecmiacoaaMg19
import Derived.Test.YtlapinecmiacoaaMg24
import Derived.Test.YtlapinecmiacoaaMg12
import Derived.Test.YtlapinecmiacoaaMg25
import Derived.Deep.RegionHeld3
set_option maxRecDepth 100000
namespace Go.Proofs.Ytlapinecmiacoaa.PgAp
open Go.ChangeShapes Go.WideShapes Go.ChangeAt Go.RowKit Nm Cf Vc Sp Pg

set_option maxRecDepth 100000 in
set_option maxHeartbeats 16000000 in
theorem walk (w : World) (A : Option Addr) (len cap : Nat) (xs : List Int) (sh : Int) (hl : xs.length = len) (hX : KIn .i64 w A xs) :
    Calls Try.prog 4 #[.slice A len cap, .int .i64 sh] w fun e w' => e = .returned (.bool true) ∧ Below w.heap.size w w' := by
  have HX := Lib.hid hX
  have HLN := Lib.hid hl
  have HNEW := Lib.hid (show ∀ W, Calls Try.prog 7 #[.int .i64 10] W fun e w' => ∃ D F, e = .returned (.pointer (some ⟨D, 0, none⟩)) ∧ Pl F w' D 10 (fun _ => fr) ∧ (∀ k, F k → W.heap.size ≤ k) ∧ Below W.heap.size W w' from fun W => pages_new W 10 (by omega) (by omega))
  clear hX hl
  go_enter Try.func4, Try.ntmps4
  go_wp2_with (fail)
  refine (law_awake _).mono ?_
  rintro e w1 ⟨rfl, b1⟩
  have HB1 := Lib.hid b1
  clear b1
  go_wp2_with (fail)
  refine (HNEW.out _).mono ?_
  rintro e w2 ⟨D, F0, rfl, pl0, new0, b2⟩
  have HS0 := Lib.hid (show ∃ F, Has w F w2 D 10 (apP 0) from ⟨F0, pl0, fun k hk => Nat.le_trans HB1.out.size (new0 k hk), HB1.out.trans (b2.mono HB1.out.size)⟩)
  clear pl0 new0 b2 HB1 HNEW
  go_wp2_with (fail)
  go_loopw [6] (fun i wr => ∃ j : Nat, i = .int .i64 (j : Int) ∧ j ≤ 10 ∧ ∃ F, Has w F wr D 10 (apP j)) (fun i _ => match i with | .int _ z => 10 - z.toNat | _ => 0)
  case atStart => exact ⟨0, rfl, Nat.zero_le _, HS0.out⟩
  case round =>
    clear HS0
    obtain ⟨j, rfl, hj, F, hh⟩ := hrel
    have HH := Lib.hid hh
    clear hh
    by_cases hlt : j < 10
    · have x0 : decide ((j : Int) < 10) = true := decide_eq_true (by omega)
      have x1 : decide (j < 10) = true := decide_eq_true hlt
      have x3 := IntWalk.wrap64_in ((j : Int) + 1) (by omega)
      have HJ := Lib.hid hlt
      have HT := Lib.hid (has_take HH.out ((j : Int) + 1))
      rw [(ap_take hlt).1, (ap_take hlt).2.1, (ap_take hlt).2.2] at HT
      clear hlt
      go_wp2_with (go_at_call 15; refine HT.out.mono ?_; rintro e w3 ⟨rfl, F3, h3, _, _⟩; have H3 := Lib.hid h3; clear h3)
      try rw [x3]
      exact ⟨⟨j + 1, rfl, HJ.out, F3, H3.out⟩, vc_less j 10 HJ.out⟩
    · have hj10 : j = 10 := by omega
      subst hj10
      clear hlt hj
      have HT := Lib.hid (has_take HH.out 1)
      rw [ap_full.1, ap_full.2, ap_start] at HT
      go_upto_region 15 with (go_at_call 15; refine HT.out.mono ?_; rintro e w3 ⟨rfl, F3, h3, _, _⟩; have H3 := Lib.hid h3; clear h3)
      have HA0 := Lib.hid (show ∃ F Fh G H, Ap w (w3.alloc (.cells #[.slice none 0 0, .slice none 0 0, .slice none 0 0, .slice none 0 0, .slice none 0 0, .slice none 0 0, .slice none 0 0, .slice none 0 0, .slice none 0 0, .slice none 0 0] 61)) D w3.heap.size F Fh G H (apH H) from
        ⟨F3, _, _, fun _ => [], H3.out.step (one_below w3 _), hv_new w3 _ rfl fun i hi => by
          match i, hi with
          | 0, _ => rfl
          | 1, _ => rfl
          | 2, _ => rfl
          | 3, _ => rfl
          | 4, _ => rfl
          | 5, _ => rfl
          | 6, _ => rfl
          | 7, _ => rfl
          | 8, _ => rfl
          | 9, _ => rfl, fun k hk e => by have := H3.out.pl.lt k hk; omega, fun k hk => by rw [hk]; exact H3.out.below.size⟩)
      have HG0 := Lib.hid H3.out.below.size
      generalize w3.alloc (.cells #[.slice none 0 0, .slice none 0 0, .slice none 0 0, .slice none 0 0, .slice none 0 0, .slice none 0 0, .slice none 0 0, .slice none 0 0, .slice none 0 0, .slice none 0 0] 61) = w4 at HA0 ⊢
      clear H3 HT HH
      generalize w3.heap.size = g at HA0 HG0 ⊢
      obtain ⟨i0, hi0, hz0, hz1, hz2⟩ := info_parts info_int
      have HI := Lib.hid hi0
      have HZ0 := Lib.hid hz0
      have HZ1 := Lib.hid hz1
      have HZ2 := Lib.hid hz2
      have HEN := Lib.hid (fun W z => law_entry' W z)
      clear hi0 hz0 hz1 hz2
      go_loopw [12] (fun i wr => ∃ j : Nat, i = .int .i64 (j : Int) ∧ j ≤ 40 ∧ ∃ F Fh G H, Ap w wr D g F Fh G H (apH H)) (fun i _ => match i with | .int _ z => 40 - z.toNat | _ => 0)
      case atStart => exact ⟨0, rfl, Nat.zero_le _, HA0.out⟩
      case round =>
        clear HA0
        obtain ⟨j, rfl, hj, F, Fh, G, H, hap⟩ := hrel
        have HAP := Lib.hid hap
        have x2 : 0 ≤ (j : Int) := by omega
        clear hap
        by_cases hlt : j < len ∧ j < 40
        · have x0 : (j : Int) < (len : Int) := by omega
          have x1 : decide ((j : Int) < (len : Int)) = true := decide_eq_true x0
          have x3 : decide ((j : Int) < 40) = true := decide_eq_true (by omega)
          have x4 : decide (j < 40) = true := decide_eq_true hlt.2
          have x5 := IntWalk.wrap64_in ((j : Int) + 1) (by omega)
          have HJ := Lib.hid hlt.2
          have hjl : j < xs.length := by rw [HLN.out]; exact hlt.1
          obtain ⟨pa, oa, rfl, hc1⟩ := (HX.out.below HAP.out.has.below (Nat.le_refl _)).at hjl
          have HPA := Lib.hid (show pa < w.heap.size from by
            have := KIn.low HX.out (Nat.lt_of_le_of_lt (Nat.zero_le _) hjl) _ rfl
            exact this)
          have HCX := Lib.hid (show w.cell? ⟨pa, oa + j, none⟩ = some (.int .i64 (xs.getD j 0)) from by
            obtain ⟨pb, po, e, h⟩ := HX.out.at hjl
            injection e with e
            injection e with e1 e2
            subst e1 e2
            exact h)
          generalize xs.getD j 0 = z at hc1 HCX
          obtain ⟨q, hq, hqq⟩ := cut64 z 10 (by omega)
          have hqq' : (IntKind.u64.wrap z).tmod 10 = (q : Int) := hqq
          have y1 := IntWalk.wrap64_in (q : Int) (by omega)
          have HQ := Lib.hid hq
          obtain ⟨hA, hc, hG⟩ := HAP.out.hv.slice hq
          have HGQ := Lib.hid hG
          have HPT := Lib.hid (apH_put H hq z)
          have HPU := Lib.hid (fun W (hW : Below wr.heap.size wr W) N (he : EntIs W N z) => has_put' (HAP.out.has.step hW) (q : Int) he)
          have y3 : (q : Int) < 10 := by omega
          have y4 : 0 ≤ (q : Int) := by omega
          have HOWG := Lib.hid (HAP.out.hv.own q hq)
          rw [hG] at HOWG
          clear hlt hjl hqq hq hG
          generalize hHq : H q = Hq at *
          generalize hl0 : Hq.length = hl at *
          go_upto_region 19 with (go_at_call 12; refine (HEN.out _ _).mono ?_; rintro e w5 ⟨rfl, e5, b5⟩; have B5 := Lib.hid b5; have E5 := Lib.hid e5; clear e5 b5)
          have HQL := Lib.hid hl0
          obtain ⟨wv, hwv⟩ : ∃ wv, w5.alloc (.cells #[.slice (some ⟨wr.heap.size + 1 + 1, 0, none⟩) 1 1, .slice (some ⟨wr.heap.size + 1 + 3, 0, none⟩) 1 1] 36) = wv := ⟨_, rfl⟩
          rw [hwv]
          have hnv := heap_alloc_new w5 (.cells #[.slice (some ⟨wr.heap.size + 1 + 1, 0, none⟩) 1 1, .slice (some ⟨wr.heap.size + 1 + 3, 0, none⟩) 1 1] 36)
          have hbv := one_below w5 (.cells #[.slice (some ⟨wr.heap.size + 1 + 1, 0, none⟩) 1 1, .slice (some ⟨wr.heap.size + 1 + 3, 0, none⟩) 1 1] 36)
          rw [hwv] at hnv hbv
          have HNV := Lib.hid hnv
          have HBV := Lib.hid (B5.out.trans (hbv.mono B5.out.size))
          have HEV := Lib.hid (E5.out.below hbv)
          have HXB := Lib.hid (show wr.heap.size ≤ w5.heap.size from B5.out.size)
          have HPV := Lib.hid (HPU.out wv HBV.out (wr.heap.size + 1) HEV.out)
          have HFO := Lib.hid (show ∀ k, wr.heap.size ≤ k → ¬ F k ∧ ¬ Fh k from fun k hk => ⟨fun hf => by have := HAP.out.has.pl.lt k hf; omega, fun hf => by have := HAP.out.hv.lt k hf; omega⟩)
          have HWR := Lib.hid HAP.out.has.below.size
          have HAV := Lib.hid (HAP.out.step HBV.out)
          clear hwv hnv hbv B5 E5 HPU HAP hc1 hl0 hqq' y1
          generalize w5.heap.size = Xb at *
          have HST := Lib.hid (show ∀ F' w6, HasT w F wv D 10 F' w6 → ∃ F6, Ap w w6 D g F6 Fh G H F' ∧ (∀ k, wr.heap.size ≤ k → k < wv.heap.size → w6.heap[k]? = wv.heap[k]? ∧ ¬ F6 k) ∧ Below w.heap.size w w6 ∧ wv.heap.size ≤ w6.heap.size from fun P6 w6 ht => by
            obtain ⟨F6, h6, o6, t6⟩ := ht
            refine ⟨F6, HAV.out.turned h6 o6 t6, fun k h1 h2 => ⟨t6.block k h2 (HFO.out k h1).1, fun hf => ?_⟩, h6.below, t6.size⟩
            rcases o6 k hf with h | h
            · exact (HFO.out k h1).1 h
            · omega)
          have HENX := Lib.hid (show wr.heap.size + 1 + 3 < wv.heap.size from (Array.getElem?_eq_some_iff.1 HEV.out.d).1)
          have HXL := Lib.hid (show Xb < wv.heap.size from (Array.getElem?_eq_some_iff.1 HNV.out).1)
          generalize hN : wr.heap.size + 1 = N at *
          have HN1 := Lib.hid (show wr.heap.size < N by omega)
          clear hN
          have v0 : wv.cell? ⟨Xb, 0, none⟩ = some (.slice (some ⟨N + 1, 0, none⟩) 1 1) := by rw [cell_of_row _ _ _ _ _ _ HNV.out]; rfl
          have v1 : wv.cell? ⟨Xb, 1, none⟩ = some (.slice (some ⟨N + 3, 0, none⟩) 1 1) := by rw [cell_of_row _ _ _ _ _ _ HNV.out]; rfl
          by_cases hfull : 4 ≤ hl
          · have hpe : putE 10 (apH H) (q : Int) = 10 := HPT.out.1.trans (if_pos hfull)
            rw [hpe, putS_not (by rw [hpe]; decide)] at HPV
            have t1 : decide ((hl : Int) < 4) = false := decide_eq_false (by omega)
            have t2 : decide (hl < 4) = false := decide_eq_false (by omega)
            clear hpe hfull HPT
            go_wp2_with (fail)
            refine HPV.out.mono ?_
            rintro e w6 ⟨rfl, ht⟩
            obtain ⟨F6, hap6, hk6, hb6, hs6⟩ := HST.out _ _ ht
            have HAP6 := Lib.hid hap6
            have HK6 := Lib.hid hk6
            have HB6 := Lib.hid hb6
            have HSZ6 := Lib.hid hs6
            clear ht hap6 hk6 hb6 hs6
            have k0 := HAP6.out.hv.cell HQ.out
            rw [HGQ.out] at k0
            have HE6 := Lib.hid (HEV.out.keep fun k h1 h2 => (HK6.out k (by have := HN1.out; omega) (by have := HENX.out; omega)).1)
            have HX6 := Lib.hid ((HK6.out Xb HXB.out HXL.out).1.trans HNV.out)
            have k1 : w6.cell? ⟨Xb, 0, none⟩ = some (.slice (some ⟨N + 1, 0, none⟩) 1 1) := by rw [cell_of_row _ _ _ _ _ _ HX6.out]; rfl
            have k2 : w6.cell? ⟨N + 1, 0, none⟩ = some (.slice (some ⟨N, 0, none⟩) 1 1) := by rw [cell_of_row _ _ _ _ _ _ HE6.out.b]; rfl
            have k3 : w6.cell? ⟨N, 0, none⟩ = some (.int .i64 z) := by rw [cell_of_row _ _ _ _ _ _ HE6.out.a]; rfl
            have f3 : w6.frozen? ⟨N, 0, none⟩ = false := frozen_of_row _ _ _ _ _ HE6.out.a
            have HZ := Lib.hid (HAP6.out.store (b := N) (by have := HN1.out; have := HWR.out; omega) (HK6.out N (by have := HN1.out; omega) (by have := HENX.out; omega)).2 (HFO.out N (by have := HN1.out; omega)).2 0 (.int .i64 12345))
            clear HK6 HE6 HX6 HAP6 HAV HPV HST
            go_wp2_with (fail)
            exact ⟨⟨j + 1, rfl, HJ.out, F6, Fh, G, H, HZ.out⟩, vc_less j 40 HJ.out⟩
          · have hpe : putE 10 (apH H) (q : Int) = 0 := HPT.out.1.trans (if_neg hfull)
            have HL4 := Lib.hid (show hl ≤ 3 by omega)
            rw [hpe, HPT.out.2 (by omega)] at HPV
            have t1 : decide ((hl : Int) < 4) = true := decide_eq_true (by omega)
            have t2 : decide (hl < 4) = true := decide_eq_true (by omega)
            clear hpe hfull HPT
            go_wp2_with (fail)
            refine HPV.out.mono ?_
            rintro e w6 ⟨rfl, ht⟩
            obtain ⟨F6, hap6, hk6, hb6, hs6⟩ := HST.out _ _ ht
            have HAP6 := Lib.hid hap6
            have HK6 := Lib.hid hk6
            have HB6 := Lib.hid hb6
            have HSZ6 := Lib.hid hs6
            clear ht hap6 hk6 hb6 hs6
            have HWS := Lib.hid HB6.out.size
            have HE6 := Lib.hid (HEV.out.keep fun k h1 h2 => (HK6.out k (by have := HN1.out; omega) (by have := HENX.out; omega)).1)
            have HX6 := Lib.hid ((HK6.out Xb HXB.out HXL.out).1.trans HNV.out)
            have j0 : w6.cell? ⟨g, q, none⟩ = some (.slice hA hl hc) := (HAP6.out.hv.cell HQ.out).trans (congrArg some HGQ.out)
            have hpx : w6.cell? ⟨pa, oa + j, none⟩ = some (.int .i64 z) := (HB6.out.cell (p := ⟨pa, oa + j, none⟩) HPA.out).trans HCX.out
            have HPX := Lib.hid hpx
            have HJ0 := Lib.hid j0
            have HOW := Lib.hid (show Own w6 w.heap.size (.slice hA hl hc) Hq from by have h := HAP6.out.hv.own q HQ.out; rw [HGQ.out, hHq] at h; exact h)
            have HOF := Lib.hid (show ∀ k, (Value.slice hA hl hc).ownBlock = some k → k ≠ g ∧ Fh k from by have h := HAP6.out.hv.off q HQ.out; rw [HGQ.out] at h; exact h)
            go_upto_region 23 with (fail)
            clear j0 hpx
            have BD := Lib.hid (below_drewN (Below.refl w6.heap.size w6) 1)
            have HK := Lib.hid (show ∀ W, Below w6.heap.size w6 W → W.cell? ⟨g, q, none⟩ = some (.slice hA hl hc) ∧ W.cell? ⟨pa, oa + j, none⟩ = some (.int .i64 z) from fun W hW => ⟨(hW.cell (p := ⟨g, q, none⟩) (HAP6.out.hv.lt g HAP6.out.hv.Fg)).trans HJ0.out, (hW.cell (p := ⟨pa, oa + j, none⟩) (Nat.lt_of_lt_of_le HPA.out HWS.out)).trans HPX.out⟩)
            have HKG := Lib.hid (show ∀ wz, w6.grownBy wz (Value.slice hA hl hc).ownBlock → (wz.cell? ⟨g, q, none⟩ = some (.slice hA hl hc) ∧ wz.cell? ⟨pa, oa + j, none⟩ = some (.int .i64 z)) ∧ ∀ k, wz.frozen? ⟨g, k, none⟩ = false from fun wz hg => by
              have h1 : some g ≠ (Value.slice hA hl hc).ownBlock := fun e => (HOF.out g e.symm).1 rfl
              have h2 : some pa ≠ (Value.slice hA hl hc).ownBlock := fun e => by have h3 := HAP6.out.new pa (HOF.out pa e.symm).2; have := HPA.out; omega
              have hbg := hg.block g (HAP6.out.hv.lt g HAP6.out.hv.Fg) h1
              exact ⟨⟨hg.cell HJ0.out h1, hg.cell HPX.out h2⟩, fun k => (World.frozen?_of_block (w := w6) (a := ⟨g, k, none⟩) hbg).trans (HAP6.out.hv.fz k)⟩)
            have k0 := HK.out _ BD.out
            -- HANDV 0
            refine wp_region_noPanic ?_
            refine wp_region_heldV (S := (fun W : World => W.cell? ⟨g, q, none⟩ = some (.slice hA hl hc) ∧ W.cell? ⟨pa, oa + j, none⟩ = some (.int .i64 z))) 11 (by kernel_rfl) (by kernel_rfl) (by kernel_rfl) (by kernel_rfl) (by decide) k0 (fun hHeld => ?_)
            refine wpAnyV_take (i := 0) (v := .int .i64 (q : Int)) 85 rfl rfl (by decide) (by kernel_rfl) (by kernel_rfl) (fun _ _ _ h => h) (Or.inl ⟨by rfl, ?_⟩) hHeld ?_
            · intro W hW
              try dsimp only at hW
              go_simp
            simp only [Act.put, List.setIfInBounds_toArray, List.set_cons_succ, List.set_cons_zero]
            refine wpAnyV_take (i := 1) (v := .int .i64 (q : Int)) 86 rfl rfl (by decide) (by kernel_rfl) (by kernel_rfl) (fun _ _ _ h => h) (Or.inl ⟨by rfl, ?_⟩) hHeld ?_
            · intro W hW
              try dsimp only at hW
              go_simp
            simp only [Act.put, List.setIfInBounds_toArray, List.set_cons_succ, List.set_cons_zero]
            refine wpAnyV_take (i := 2) (v := .pointer (some ⟨g, q, none⟩)) 87 rfl rfl (by decide) (by kernel_rfl) (by kernel_rfl) (fun _ _ _ h => h) (Or.inl ⟨by rfl, ?_⟩) hHeld ?_
            · intro W hW
              try dsimp only at hW
              go_simp
            simp only [Act.put, List.setIfInBounds_toArray, List.set_cons_succ, List.set_cons_zero]
            refine wpAnyV_take (i := 3) (v := .slice hA hl hc) 88 rfl rfl (by decide) (by kernel_rfl) (by kernel_rfl) (fun _ _ _ h => h) (Or.inl ⟨by rfl, ?_⟩) hHeld ?_
            · intro W hW
              try dsimp only at hW
              go_simp
            simp only [Act.put, List.setIfInBounds_toArray, List.set_cons_succ, List.set_cons_zero]
            refine wpAnyV_take (i := 4) (v := .slice (some ⟨pa, oa, none⟩) len cap) 89 rfl rfl (by decide) (by kernel_rfl) (by kernel_rfl) (fun _ _ _ h => h) (Or.inl ⟨by rfl, ?_⟩) hHeld ?_
            · intro W hW
              try dsimp only at hW
              go_simp
            simp only [Act.put, List.setIfInBounds_toArray, List.set_cons_succ, List.set_cons_zero]
            refine wpAnyV_take (i := 5) (v := .int .i64 (j : Int)) 90 rfl rfl (by decide) (by kernel_rfl) (by kernel_rfl) (fun _ _ _ h => h) (Or.inl ⟨by rfl, ?_⟩) hHeld ?_
            · intro W hW
              try dsimp only at hW
              go_simp
            simp only [Act.put, List.setIfInBounds_toArray, List.set_cons_succ, List.set_cons_zero]
            refine wpAnyV_take (i := 6) (v := .pointer (some ⟨pa, oa + j, none⟩)) 91 rfl rfl (by decide) (by kernel_rfl) (by kernel_rfl) (fun _ _ _ h => h) (Or.inl ⟨by rfl, ?_⟩) hHeld ?_
            · intro W hW
              try dsimp only at hW
              go_simp
            simp only [Act.put, List.setIfInBounds_toArray, List.set_cons_succ, List.set_cons_zero]
            refine wpAnyV_take (i := 7) (v := .int .i64 z) 92 rfl rfl (by decide) (by kernel_rfl) (by kernel_rfl) (fun _ _ _ h => h) (Or.inl ⟨by rfl, ?_⟩) hHeld ?_
            · intro W hW
              try dsimp only at hW
              go_simp
            simp only [Act.put, List.setIfInBounds_toArray, List.set_cons_succ, List.set_cons_zero]
            have k1 := HK.out _ (BD.out.alloc BD.out.size (.cells #[.int .i64 z] 3))
            have HOW1 := Lib.hid (show w6.drew.ownsRow w.heap.size 3 1 (.slice hA hl hc) hl (icells Hq) from by have h := HOW.out; unfold Own at h; rw [HQL.out] at h; exact h)
            have HSRC := Lib.hid (one_src w6.drew z)
            have HONE := Lib.hid (one_one z)
            refine wpAnyV_one (i := 8) (by kernel_rfl) rfl (by decide) (fun K hK => ?_)
            go_simp
            refine hK.out _ _ k1 (fun hHeld2 => ?_)
            clear hK K hHeld
            have hHeld := hHeld2
            clear hHeld2
            try simp only [Act.put, List.setIfInBounds_toArray, List.set_cons_succ, List.set_cons_zero]
            refine wpAnyV_one (i := 9) (by kernel_rfl) rfl (by decide) (fun K hK => ?_)
            refine step_append_lies _ (by rfl) _ _ _ (by rfl) w.heap.size 3 i0 _ 1 8 Try.underlying28 HI.out HZ0.out HZ1.out HZ2.out rfl Nat.one_pos (.slice hA hl hc) hl _ (by rfl) (HOW1.out.alloc _) ⟨w6.heap.size, 0, none⟩ 1 1 [.int .i64 z] (by rfl) rfl HSRC.out HONE.out Nat.one_pos (by have := HL4.out; unfold maxLen; omega) (by have := HL4.out; omega) (by have := HWS.out; simp; omega) _ rfl ?_
            intro g4 c4 wz hown hgrow hat hlt
            have HGR := Lib.hid (show w6.grownBy wz (Value.slice hA hl hc).ownBlock from (by have h := (World.grownBy_alloc w6.drew (.cells #[.int .i64 z] 3) _).trans hgrow; exact ⟨h.os, h.tape, h.output, h.size, h.block⟩))
            have HAT := Lib.hid (show (Value.slice hA hl hc).ownBlock = some g4 ∨ (w6.heap.size ≤ g4 ∧ g4 < wz.heap.size) from hat.imp id fun h => ⟨by rw [h]; simp, hlt⟩)
            have HOWN := Lib.hid (show Own wz w.heap.size (.slice (some ⟨g4, 0, none⟩) (hl + 1) c4) (Hq ++ [z]) from by unfold Own; rw [icells_add, List.length_append, HQL.out]; exact hown)
            have k2 := HKG.out _ HGR.out
            clear hown hgrow hat hlt
            refine hK.out _ _ k2.1 (fun hHeld2 => ?_)
            clear hK K hHeld
            have hHeld := hHeld2
            clear hHeld2
            try simp only [Act.put, List.setIfInBounds_toArray, List.set_cons_succ, List.set_cons_zero]
            refine wpAnyV_take (i := 10) (v := .pointer (some ⟨g, q, none⟩)) 95 rfl rfl (by decide) (by kernel_rfl) (by kernel_rfl) (fun _ _ _ h => h) (Or.inl ⟨by rfl, ?_⟩) hHeld ?_
            · intro W hW
              try dsimp only at hW
              go_simp
            simp only [Act.put, List.setIfInBounds_toArray, List.set_cons_succ, List.set_cons_zero]
            obtain ⟨k2, k3⟩ := k2
            refine wpAnyV_last (by kernel_rfl) rfl (by kernel_rfl) (fun K hK => ?_)
            go_simp
            refine hK.out _ _ ?_
            refine NoPanic.normal ?_
            -- VDNAH 0
            have hm := HAP6.out.more (wz := wz) (z := z) (m := hl) (g4 := g4) (c4 := c4) HQ.out (by rw [hHq]; exact HQL.out) (by rw [hHq]; exact HOWN.out) (by rw [HGQ.out]; exact HGR.out) (by rw [HGQ.out]; exact HAT.out)
            rw [hHq] at hm
            obtain ⟨hap8, ht8⟩ := hm
            have HAP8 := Lib.hid hap8
            have HT8 := Lib.hid ht8
            have HK8 := Lib.hid (show ∀ k, wr.heap.size ≤ k → k < wv.heap.size → (wz.setCell ⟨g, q, none⟩ (.slice (some ⟨g4, 0, none⟩) (hl + 1) c4)).heap[k]? = w6.heap[k]? ∧ ¬ F6 k ∧ ¬ (Fh k ∨ k = g4) from fun k h1 h2 => by
              have h3 := HK6.out k h1 h2
              have h5 : ∀ k', k' < wv.heap.size → k' < w6.heap.size := fun k' hk' => by
                have h6 : wv.heap.size ≤ w6.heap.size := HSZ6.out
                omega
              refine ⟨ht8.block k (h5 k h2) (HFO.out k h1).2, h3.2, fun e => ?_⟩
              rcases e with e | e
              · exact (HFO.out k h1).2 e
              · rcases HAT.out with ha | ha
                · exact (HFO.out k h1).2 (e ▸ (HOF.out g4 ha).2)
                · have := h5 k h2; omega)
            generalize wz.setCell ⟨g, q, none⟩ (.slice (some ⟨g4, 0, none⟩) (hl + 1) c4) = w8 at *
            clear hap8 ht8 k0 k2 k3
            have HE8 := Lib.hid (HE6.out.keep fun k h1 h2 => (HK8.out k (by have := HN1.out; omega) (by have := HENX.out; omega)).1)
            have HX8 := Lib.hid ((HK8.out Xb HXB.out HXL.out).1.trans HX6.out)
            have k1 : w8.cell? ⟨Xb, 0, none⟩ = some (.slice (some ⟨N + 1, 0, none⟩) 1 1) := by rw [cell_of_row _ _ _ _ _ _ HX8.out]; rfl
            have k2 : w8.cell? ⟨N + 1, 0, none⟩ = some (.slice (some ⟨N, 0, none⟩) 1 1) := by rw [cell_of_row _ _ _ _ _ _ HE8.out.b]; rfl
            have k3 : w8.cell? ⟨N, 0, none⟩ = some (.int .i64 z) := by rw [cell_of_row _ _ _ _ _ _ HE8.out.a]; rfl
            have f3 : w8.frozen? ⟨N, 0, none⟩ = false := frozen_of_row _ _ _ _ _ HE8.out.a
            have HZ := Lib.hid (HAP8.out.store (b := N) (by have := HN1.out; have := HWR.out; omega) (HK8.out N (by have := HN1.out; omega) (by have := HENX.out; omega)).2.1 (HK8.out N (by have := HN1.out; omega) (by have := HENX.out; omega)).2.2 0 (.int .i64 12345))
            clear HK8 HE8 HX8 HAP8 HAV HPV HST HK6 HE6 HX6 HAP6 HK HKG HGR HAT HOWN HOW
            go_wp2_with (fail)
            exact ⟨⟨j + 1, rfl, HJ.out, F6, _, _, _, HZ.out⟩, vc_less j 40 HJ.out⟩
        · have hc : (¬ ((j : Int) < (len : Int)) ∧ decide ((j : Int) < (len : Int)) = false) ∨ (((j : Int) < (len : Int)) ∧ decide ((j : Int) < (len : Int)) = true ∧ decide ((j : Int) < 40) = false ∧ decide (j < 40) = false) := by
            by_cases h1 : (j : Int) < (len : Int)
            · exact .inr ⟨h1, decide_eq_true h1, decide_eq_false (by omega), decide_eq_false (by omega)⟩
            · exact .inl ⟨h1, decide_eq_false h1⟩
          rcases hc with ⟨x0, x1⟩ | ⟨x0, x1, x3, x4⟩
          · go_upto_region 25 with (fail)
            obtain ⟨kk, hkk, hkq⟩ := cut64 sh 10 (by omega)
            have hkq' : (IntKind.u64.wrap sh).tmod 10 = (kk : Int) := hkq
            have y1 := IntWalk.wrap64_in (kk : Int) (by omega)
            have HKK := Lib.hid hkk
            have HSH := Lib.hid (fun W (hW : Below wr.heap.size wr W) => share_two (HAP.out.has.step hW) (kk : Int) (kk : Int) ((apH_bnd H).le (by omega)))
            rw [(ap_share hkk).1] at HSH
            have HPU := Lib.hid (fun W F' (hW : Has w F' W D 10 (ap3 H kk)) N z (he : EntIs W N z) => has_put' hW (kk : Int) he)
            rw [ap_put3 hkk] at HPU
            have HPS := Lib.hid (fun z => putS_not (n := 10) (P := ap3 H kk) (x := (kk : Int)) (e := entX z) (by rw [ap_put3 hkk]; decide))
            have HDO := Lib.hid (fun W F' (hW : Has w F' W D 10 (ap3 H kk)) => drop_one hW (kk : Int) (ap3_bnd hkk))
            rw [(ap_drop hkk).1] at HDO
            have HUS := Lib.hid (show ∀ W F', Has w F' W D 10 (ap2 H kk) → Calls Try.prog 21 #[.pointer (some ⟨D, 0, none⟩), .int .i64 (kk : Int)] W fun e w' => e = .returned (.int .i64 2) ∧ Below W.heap.size W w' from fun W F' hW => by
              have h := pages_users hW.pl (kk : Int)
              rw [ap2_k hkk] at h
              exact h)
            have HAPZ := Lib.hid (HAP.out.step (Below.refl _ _))
            have HWB := Lib.hid HAP.out.has.below
            clear hkk hkq HAP HX
            go_upto_region 26 with (fail)
            try rw [y1]
            clear hkq' y1
            go_wp2_with (first
              | (go_at_call 9; refine (HSH.out _ (Below.refl _ _)).mono ?_; rintro e w5 ⟨rfl, ht5⟩; obtain ⟨F5, h5, o5, t5⟩ := ht5; have HA5 := Lib.hid (show Ap w w5 D g F5 Fh G H (ap3 H kk) from HAPZ.out.turned h5 o5 t5); clear h5 o5 t5)
              | (go_at_call 12; refine (HEN.out _ _).mono ?_; rintro e w6 ⟨rfl, e6, b6⟩; have HA6 := Lib.hid (HA5.out.step b6); have E6 := Lib.hid e6; clear e6 b6)
              | (go_at_call 13; refine (HPU.out _ _ HA6.out.has _ _ E6.out).mono ?_; rintro e w7 ⟨rfl, ht7⟩; rw [HPS.out] at ht7; obtain ⟨F7, h7, o7, t7⟩ := ht7; have HA7 := Lib.hid (HA6.out.turned h7 o7 t7); clear h7 o7 t7)
              | (go_at_call 11; refine (HDO.out _ _ HA7.out.has).mono ?_; rintro e w8 ⟨rfl, ht8⟩; obtain ⟨F8, h8, o8, t8⟩ := ht8; have HA8 := Lib.hid (show Ap w w8 D g F8 Fh G H (ap2 H kk) from HA7.out.turned h8 o8 t8); clear h8 o8 t8)
              | (go_at_call 21; refine (HUS.out _ _ HA8.out.has).mono ?_; rintro e w9 ⟨rfl, b9⟩; have HA9 := Lib.hid (HA8.out.step b9); clear b9))
            clear HSH HPU HPS HDO HUS HA5 HA6 HA7 HA8 E6 HAPZ HWB
            go_loopw [17] (fun i wr => ∃ d : Nat, i = .int .i64 (d : Int) ∧ d ≤ 10 ∧ Below w9.heap.size w9 wr) (fun i _ => match i with | .int _ z => 10 - z.toNat | _ => 0)
            case atStart => exact ⟨0, rfl, Nat.zero_le _, Below.refl _ _⟩
            case round =>
              rename World => wo
              obtain ⟨d, rfl, hd, hb⟩ := hrel
              have HB := Lib.hid hb
              clear hb
              by_cases hd10 : d < 10
              · have z0 : decide ((d : Int) < 10) = true := decide_eq_true (by omega)
                have z1 : decide (d < 10) = true := decide_eq_true hd10
                have z2 := IntWalk.wrap64_in ((d : Int) + 1) (by omega)
                have z3 : (d : Int) < 10 := by omega
                have z4 : 0 ≤ (d : Int) := by omega
                have HD := Lib.hid hd10
                have HAB := Lib.hid (HA9.out.step HB.out)
                have HGT := Lib.hid (show ∀ W, Below wo.heap.size wo W → ∀ lb, KIn .i64 W (some ⟨lb, 0, none⟩) [(d : Int)] → Calls Try.prog 18 #[.pointer (some ⟨D, 0, none⟩), .slice (some ⟨lb, 0, none⟩) 1 1] W (GetSays W ((H d).map entX)) from fun W hW lb hk => by
                  have h := pages_get (HAB.out.step hW).has.pl (some ⟨lb, 0, none⟩) 1 1 [(d : Int)] rfl (by omega) hk
                  rw [ap2_get HKK.out hd10] at h
                  exact h)
                obtain ⟨hA, hc, hG⟩ := HAB.out.hv.slice hd10
                have HCG := Lib.hid (show ∀ W, Below wo.heap.size wo W → W.cell? ⟨g, d, none⟩ = some (.slice hA (H d).length hc) from fun W hW => ((HAB.out.step hW).hv.cell HD.out).trans (congrArg some hG))
                have HKH := Lib.hid (show KIn .i64 wo hA (H d) from by have h := HAB.out.hv.own d hd10; rw [hG] at h; exact h.kin)
                have HD4 := Lib.hid (show (H d).length ≤ 4 from by
                  have h1 := HAB.out.has.pl.inv.few d hd10
                  rwa [(ap2_at HKK.out hd10).1, List.length_map] at h1)
                clear hd10 hG
                generalize hHd : H d = Hd at *
                go_wp2_with (fail)
                refine (HGT.out _ (one_below wo _) _ (kin_one wo _)).mono ?_
                rintro e w10 ⟨lA, lc, R, rfl, hge, hsep, huf, hR, b10⟩
                have B10 := Lib.hid ((one_below wo (.cells #[.int .i64 (d : Int)] 3)).trans (b10.mono (by simp)))
                have HML := Lib.hid (show R.length = Hd.length by rw [← List.length_map (f := (·.2)), hR, List.length_map])
                have HRM := Lib.hid (show ∀ i q, R[i]? = some q → ∃ h : Int, Hd.getD i 0 = h ∧ q.2 = entX h from fun i q hq => by
                  have h1 : (R.map (·.2))[i]? = some q.2 := by rw [List.getElem?_map, hq]; rfl
                  rw [hR, List.getElem?_map] at h1
                  obtain ⟨h, h2, h3⟩ := Option.map_eq_some_iff.1 h1
                  exact ⟨h, by rw [List.getD_eq_getElem?_getD, h2]; rfl, h3.symm⟩)
                have HM4 := Lib.hid (show Hd.length ≤ 4 from HD4.out)
                have HLR := Lib.hid (show Lr (wo.heap.size + 1) w10 lA R.length lc R 0 from by
                  have hsz : (wo.alloc (.cells #[.int .i64 (d : Int)] 3)).heap.size = wo.heap.size + 1 := by simp
                  rw [hsz] at hge
                  exact ⟨hge.own, fun i q _ hq => ⟨hge.all q (List.mem_of_getElem? hq), huf q (List.mem_of_getElem? hq)⟩, hsep⟩)
                rw [HML.out] at HLR
                rw [HML.out]
                clear hge hsep huf hR b10
                have c0 := HCG.out _ B10.out
                have t0 : ((Hd.length : Int) != (Hd.length : Int)) = false := by simp
                generalize hm : Hd.length = m at *
                go_wp2_with (fail)
                clear c0 t0
                go_loopw [19] (fun i wq => ∃ e : Nat, i = .int .i64 (e : Int) ∧ e ≤ m ∧ Below wo.heap.size wo wq ∧ Lr (wo.heap.size + 1) wq lA m lc R e) (fun i _ => match i with | .int _ z => m - z.toNat | _ => 0)
                case atStart => exact ⟨0, rfl, Nat.zero_le _, B10.out, HLR.out⟩
                case round =>
                  clear HLR B10
                  obtain ⟨e, rfl, he, hbq, hlr⟩ := hrel
                  have HBQ := Lib.hid hbq
                  have HLR := Lib.hid hlr
                  clear hbq hlr
                  by_cases hem : e < m
                  · have x0 : (e : Int) < (m : Int) := by omega
                    have x1 : decide ((e : Int) < (m : Int)) = true := decide_eq_true x0
                    have x2 : 0 ≤ (e : Int) := by omega
                    have HE1 := Lib.hid (show e + 1 ≤ m by omega)
                    have hml : m ≤ 4 := HM4.out
                    have x5 := IntWalk.wrap64_in ((e : Int) + 1) (by omega)
                    obtain ⟨⟨r, x⟩, hre⟩ : ∃ q, R[e]? = some q := ⟨_, List.getElem?_eq_getElem (by rw [HML.out]; exact hem)⟩
                    have HRE := Lib.hid hre
                    obtain ⟨h, hh1, hh2⟩ := HRM.out e _ hre
                    have hxh : x = entX h := hh2
                    subst hxh
                    have HH := Lib.hid (show Hd[e]? = some h from by
                      rw [List.getD_eq_getElem?_getD, List.getElem?_eq_getElem (by omega)] at hh1
                      rw [List.getElem?_eq_getElem (by omega)]
                      exact congrArg some hh1)
                    have hel := HLR.out.own
                    have hes : EsAt wr lA R := by rw [← HML.out] at hel; exact own_es hel
                    obtain ⟨pb, po, rfl, d0, d1⟩ := hes.cell hre
                    obtain ⟨hb2, ho2, rfl, hz⟩ := (HKH.out.below HBQ.out (Nat.le_refl _)).at (show e < Hd.length by omega)
                    rw [hh1] at hz
                    obtain ⟨vb, vo, hva, _⟩ := (HLR.out.rest e _ (Nat.le_refl e) hre).1.v.is.at (show (0 : Nat) < (entX h).vs.length from Nat.one_pos)
                    have hva2 : r.vA = some ⟨vb, vo, none⟩ := hva
                    have HVA := Lib.hid hva2
                    have d1' : wr.cell? ⟨pb, po + e * 2 + 1, none⟩ = some (.slice (some ⟨vb, vo, none⟩) 1 r.vc) := by rw [← hva2]; exact d1
                    have HKE := Lib.hid (show ∀ W, Below wr.heap.size wr W → (W.cell? ⟨pb, po + e * 2, none⟩ = some (.slice r.kA 1 r.kc) ∧ W.cell? ⟨pb, po + e * 2 + 1, none⟩ = some (.slice (some ⟨vb, vo, none⟩) 1 r.vc)) ∧ W.cell? ⟨g, d, none⟩ = some (.slice (some ⟨hb2, ho2, none⟩) m hc) ∧ W.cell? ⟨hb2, ho2 + e, none⟩ = some (.int .i64 h) from fun W hW =>
                      ⟨⟨(hW.cell (p := ⟨pb, po + e * 2, none⟩) (block_lt_of_cell d0)).trans d0, (hW.cell (p := ⟨pb, po + e * 2 + 1, none⟩) (block_lt_of_cell d1')).trans d1'⟩, HCG.out W (HBQ.out.trans (hW.mono HBQ.out.size)), (hW.cell (p := ⟨hb2, ho2 + e, none⟩) (block_lt_of_cell hz)).trans hz⟩)
                    have HEO := Lib.hid (fun W (hW : Below wr.heap.size wr W) => ((HLR.out.step hW).rest e _ (Nat.le_refl e) hre).1)
                    have HSE := Lib.hid (fun W (hW : Below wr.heap.size wr W) N (he : EntIs W N h) => by have h1 := same_ent (HEO.out W hW) he; rw [hva2] at h1; exact h1)
                    have BDR := Lib.hid (below_drewN (Below.refl wr.heap.size wr) 1)
                    clear hre hes hel hh1 hh2 hz d0 d1 d1' hem hva hva2
                    go_upto_region 37 with (fail)
                    have k0 := HKE.out _ BDR.out
                    go_region_held3 (fun W : World => (W.cell? ⟨pb, po + e * 2, none⟩ = some (.slice r.kA 1 r.kc) ∧ W.cell? ⟨pb, po + e * 2 + 1, none⟩ = some (.slice (some ⟨vb, vo, none⟩) 1 r.vc)) ∧ W.cell? ⟨g, d, none⟩ = some (.slice (some ⟨hb2, ho2, none⟩) m hc) ∧ W.cell? ⟨hb2, ho2 + e, none⟩ = some (.int .i64 h)) (first | exact k0 | assumption) (first
                      | (go_at_call 12; refine (HEN.out _ _).mono ?_; rintro z w11 ⟨rfl, e11, b11⟩; have B11 := Lib.hid (BDR.out.trans (b11.mono BDR.out.size)); have E11 := Lib.hid e11; have k11 := HKE.out _ B11.out; clear e11 b11)
                      | (go_at_call 27; refine (HSE.out _ B11.out _ E11.out).mono ?_; rintro z w12 ⟨rfl, b12⟩; have B12 := Lib.hid (B11.out.trans (b12.mono B11.out.size)); have k12 := HKE.out _ B12.out; clear b12))
                    obtain ⟨⟨_, c1⟩, _⟩ := k12
                    have hL12 := HLR.out.step B12.out
                    obtain ⟨hE12, hU12⟩ := hL12.rest e _ (Nat.le_refl e) HRE.out
                    have hvs : (0 : Nat) < (entX h).vs.length := Nat.one_pos
                    obtain ⟨vb2, vo2, hva, hv0, hvk⟩ := hE12.v.is.at hvs
                    have hrl : (0 : Nat) < ((entX h).vs.getD 0 []).length := Nat.succ_pos 1
                    obtain ⟨zb, zo, hzb, hzk⟩ := hvk hrl
                    have hz0 := hzk 0 hrl
                    obtain ⟨zcs, hzf⟩ := hU12 0 hvs hrl _ hzb
                    have hve : (some ⟨vb2, vo2, none⟩ : Option Addr) = some ⟨vb, vo, none⟩ := hva.symm.trans HVA.out
                    injection hve with hve
                    injection hve with hve1 hve2
                    subst hve1 hve2
                    rw [hzb] at hv0
                    have c2 : w12.cell? ⟨vb2, vo2, none⟩ = some (.slice (some ⟨zb, zo, none⟩) 2 (r.vC 0)) := hv0
                    have c3 : w12.cell? ⟨zb, zo, none⟩ = some (.int .i64 (wrap64 (-h))) := hz0
                    have f3 : w12.frozen? ⟨zb, zo, none⟩ = false := frozen_of_row _ _ _ _ _ hzf
                    obtain ⟨hL13, hN⟩ := hL12.store HRE.out (b := zb) ⟨0, hvs, hrl, _, hzb, rfl⟩ zo (.int .i64 777)
                    have HL13 := Lib.hid hL13
                    have HBO := Lib.hid (show Below wo.heap.size wo (w12.setCell ⟨zb, zo, none⟩ (.int .i64 777)) from (HBQ.out.trans (B12.out.mono HBQ.out.size)).setCell (p := ⟨zb, zo, none⟩) (by show wo.heap.size ≤ zb; omega) _)
                    have HZ0 := Lib.hid (show (w12.setCell ⟨zb, zo, none⟩ (.int .i64 777)).cell? ⟨hb2, ho2 + e, none⟩ = some (.int .i64 h) from by
                      obtain ⟨hb3, ho3, e3, hz3⟩ := (HKH.out.below HBO.out (Nat.le_refl _)).at (show e < Hd.length by have := HE1.out; omega)
                      injection e3 with e3
                      injection e3 with e4 e5
                      subst e4 e5
                      rw [List.getD_eq_getElem?_getD, HH.out] at hz3
                      exact hz3)
                    have HK0 := Lib.hid (show ∀ W, Below (w12.setCell ⟨zb, zo, none⟩ (.int .i64 777)).heap.size (w12.setCell ⟨zb, zo, none⟩ (.int .i64 777)) W → W.cell? ⟨g, d, none⟩ = some (.slice (some ⟨hb2, ho2, none⟩) m hc) ∧ W.cell? ⟨hb2, ho2 + e, none⟩ = some (.int .i64 h) from fun W hW =>
                      ⟨HCG.out W (HBO.out.trans (hW.mono HBO.out.size)), (hW.cell (p := ⟨hb2, ho2 + e, none⟩) (block_lt_of_cell HZ0.out)).trans HZ0.out⟩)
                    clear hL12 hL13 hN hE12 hU12 hvk hzk hz0 hzf hv0 hva hzb HEO HKE k0 HLR
                    go_upto_region 40 with (fail)
                    generalize w12.setCell ⟨zb, zo, none⟩ (.int .i64 777) = w13 at *
                    clear c1 c2 c3 f3
                    have BD := Lib.hid (below_drewN (Below.refl w13.heap.size w13) 1)
                    have k0 := HK0.out _ BD.out
                    refine wp_region_noPanic ?_
                    refine wp_region_held_drew (S := (fun W : World => W.cell? ⟨g, d, none⟩ = some (.slice (some ⟨hb2, ho2, none⟩) m hc) ∧ W.cell? ⟨hb2, ho2 + e, none⟩ = some (.int .i64 h))) (by kernel_rfl) k0 (fun hHeld => ?_)
                    refine wpAnyH_takeAt (i := 0) (v := .pointer (some ⟨D, 0, none⟩)) 173 rfl rfl (by kernel_rfl) (by kernel_rfl) (by kernel_rfl) (fun _ _ _ h => h) (Or.inl ⟨by rfl, ?_⟩) hHeld ?_
                    · intro W hW
                      try dsimp only at hW
                      go_simp
                    simp only [Act.put, List.setIfInBounds_toArray, List.set_cons_succ, List.set_cons_zero]
                    refine wpAnyH_takeAt (i := 1) (v := .int .i64 (d : Int)) 174 rfl rfl (by kernel_rfl) (by kernel_rfl) (by kernel_rfl) (fun _ _ _ h => h) (Or.inl ⟨by rfl, ?_⟩) hHeld ?_
                    · intro W hW
                      try dsimp only at hW
                      go_simp
                    simp only [Act.put, List.setIfInBounds_toArray, List.set_cons_succ, List.set_cons_zero]
                    refine wpAnyH_takeAt (i := 4) (v := .int .i64 (e : Int)) 177 rfl rfl (by kernel_rfl) (by kernel_rfl) (by kernel_rfl) (fun _ _ _ h => h) (Or.inl ⟨by rfl, ?_⟩) hHeld ?_
                    · intro W hW
                      try dsimp only at hW
                      go_simp
                    simp only [Act.put, List.setIfInBounds_toArray, List.set_cons_succ, List.set_cons_zero]
                    refine wpAnyH_takeAt (i := 7) (v := .int .i64 (d : Int)) 180 rfl rfl (by kernel_rfl) (by kernel_rfl) (by kernel_rfl) (fun _ _ _ h => h) (Or.inl ⟨by rfl, ?_⟩) hHeld ?_
                    · intro W hW
                      try dsimp only at hW
                      go_simp
                    simp only [Act.put, List.setIfInBounds_toArray, List.set_cons_succ, List.set_cons_zero]
                    refine wpAnyH_takeAt (i := 8) (v := .pointer (some ⟨g, d, none⟩)) 181 rfl rfl (by kernel_rfl) (by kernel_rfl) (by kernel_rfl) (fun _ _ _ h => h) (Or.inl ⟨by rfl, ?_⟩) hHeld ?_
                    · intro W hW
                      try dsimp only at hW
                      go_simp
                    simp only [Act.put, List.setIfInBounds_toArray, List.set_cons_succ, List.set_cons_zero]
                    refine wpAnyH_takeAt (i := 9) (v := .slice (some ⟨hb2, ho2, none⟩) m hc) 182 rfl rfl (by kernel_rfl) (by kernel_rfl) (by kernel_rfl) (fun _ _ _ h => h) (Or.inl ⟨by rfl, ?_⟩) hHeld ?_
                    · intro W hW
                      try dsimp only at hW
                      go_simp
                    simp only [Act.put, List.setIfInBounds_toArray, List.set_cons_succ, List.set_cons_zero]
                    refine wpAnyH_takeAt (i := 10) (v := .int .i64 (e : Int)) 183 rfl rfl (by kernel_rfl) (by kernel_rfl) (by kernel_rfl) (fun _ _ _ h => h) (Or.inl ⟨by rfl, ?_⟩) hHeld ?_
                    · intro W hW
                      try dsimp only at hW
                      go_simp
                    simp only [Act.put, List.setIfInBounds_toArray, List.set_cons_succ, List.set_cons_zero]
                    refine wpAnyH_takeAt (i := 11) (v := .pointer (some ⟨hb2, ho2 + e, none⟩)) 184 rfl rfl (by kernel_rfl) (by kernel_rfl) (by kernel_rfl) (fun _ _ _ h => h) (Or.inl ⟨by rfl, ?_⟩) hHeld ?_
                    · intro W hW
                      try dsimp only at hW
                      go_simp
                    simp only [Act.put, List.setIfInBounds_toArray, List.set_cons_succ, List.set_cons_zero]
                    refine wpAnyH_takeAt (i := 12) (v := .int .i64 h) 185 rfl rfl (by kernel_rfl) (by kernel_rfl) (by kernel_rfl) (fun _ _ _ h => h) (Or.inl ⟨by rfl, ?_⟩) hHeld ?_
                    · intro W hW
                      try dsimp only at hW
                      go_simp
                    simp only [Act.put, List.setIfInBounds_toArray, List.set_cons_succ, List.set_cons_zero]
                    refine wpAnyH_ready (rs := [2]) (by kernel_rfl) (by simp) ?_
                    refine AllReadyH.cons rfl (fun K hK => ?_) AllReadyH.nil
                    go_simp
                    have BL := Lib.hid (BD.out.alloc BD.out.size (.cells #[.int .i64 (d : Int)] 3))
                    have KL := Lib.hid (kin_one _ (d : Int) : KIn .i64 (w13.drew.alloc (.cells #[.int .i64 (d : Int)] 3)) (some ⟨w13.drew.heap.size, 0, none⟩) [(d : Int)])
                    refine hK.out _ _ (HK0.out _ BL.out) (fun hHeld2 => ?_)
                    clear hK K hHeld
                    have hHeld := hHeld2
                    clear hHeld2
                    try simp only [Act.put, List.setIfInBounds_toArray, List.set_cons_succ, List.set_cons_zero]
                    refine wpAnyH_ready (rs := [3]) (by kernel_rfl) (by simp) ?_
                    refine AllReadyH.cons rfl (fun K hK => ?_) AllReadyH.nil
                    go_simp
                    refine (HGT.out _ (HBO.out.trans (BL.out.mono HBO.out.size)) _ KL.out).mono ?_
                    rintro z w15 ⟨gA, gc, R2, rfl, hge, _, _, hR2, b15⟩
                    have BG := Lib.hid (BL.out.trans (b15.mono BL.out.size))
                    have bG := Lib.hid b15
                    obtain ⟨r2, hq2⟩ := got_at hR2 HH.out
                    obtain ⟨gb, go, rfl, g0, g1⟩ := hge.es.row.cell hq2
                    have E2 := Lib.hid (hge.es.all _ (List.mem_of_getElem? hq2))
                    have HG0 := Lib.hid (show ∀ W, Below w15.heap.size w15 W → W.cell? ⟨gb, go + e * 2, none⟩ = some (.slice r2.kA 1 r2.kc) ∧ W.cell? ⟨gb, go + e * 2 + 1, none⟩ = some (.slice r2.vA 1 r2.vc) from fun W hW => ⟨(hW.cell (p := ⟨gb, go + e * 2, none⟩) (block_lt_of_cell g0)).trans g0, (hW.cell (p := ⟨gb, go + e * 2 + 1, none⟩) (block_lt_of_cell g1)).trans g1⟩)
                    have HL2 := Lib.hid (got_len hR2 HH.out)
                    generalize R2.length = m2 at *
                    clear hge hR2 b15 hq2 g0 g1
                    refine hK.out _ _ (HK0.out _ BG.out) (fun hHeld2 => ?_)
                    clear hK K hHeld
                    have hHeld := hHeld2
                    clear hHeld2
                    try simp only [Act.put, List.setIfInBounds_toArray, List.set_cons_succ, List.set_cons_zero]
                    refine wpAnyH_more (S' := fun W : World => (W.cell? ⟨g, d, none⟩ = some (.slice (some ⟨hb2, ho2, none⟩) m hc) ∧ W.cell? ⟨hb2, ho2 + e, none⟩ = some (.int .i64 h)) ∧ W.cell? ⟨gb, go + e * 2, none⟩ = some (.slice r2.kA 1 r2.kc) ∧ W.cell? ⟨gb, go + e * 2 + 1, none⟩ = some (.slice r2.vA 1 r2.vc)) (fun _ h => h.1) _ _ _ _ ?_
                    have hHeld3 := And.intro hHeld (HG0.out _ (Below.refl _ _))
                    clear hHeld
                    have hHeld := hHeld3
                    clear hHeld3
                    have x7 : (e : Int) < (m2 : Int) := by have := HL2.out; omega
                    refine wpAnyH_takeAt (i := 5) (v := .pointer (some ⟨gb, go + e * 2, none⟩)) 178 rfl rfl (by kernel_rfl) (by kernel_rfl) (by kernel_rfl) (fun _ _ _ h => h) (Or.inl ⟨by rfl, ?_⟩) hHeld ?_
                    · intro W hW
                      try dsimp only at hW
                      go_simp
                    simp only [Act.put, List.setIfInBounds_toArray, List.set_cons_succ, List.set_cons_zero]
                    refine wpAnyH_takeAt (i := 6) (v := .agg #[.slice r2.kA 1 r2.kc, .slice r2.vA 1 r2.vc]) 179 rfl rfl (by kernel_rfl) (by kernel_rfl) (by kernel_rfl) (fun _ _ _ h => h) (Or.inl ⟨by rfl, ?_⟩) hHeld ?_
                    · intro W hW
                      try dsimp only at hW
                      go_simp
                    simp only [Act.put, List.setIfInBounds_toArray, List.set_cons_succ, List.set_cons_zero]
                    refine wpAnyH_ready (rs := [13]) (by kernel_rfl) (by simp) ?_
                    refine AllReadyH.cons rfl (fun K hK => ?_) AllReadyH.nil
                    go_simp
                    refine (HEN.out _ _).mono ?_
                    rintro z w14 ⟨rfl, e14, b14⟩
                    have BE := Lib.hid (BG.out.trans (b14.mono BG.out.size))
                    have EE := Lib.hid e14
                    have bE := Lib.hid b14
                    clear e14 b14
                    refine hK.out _ _ (And.intro (HK0.out _ BE.out) (HG0.out _ bE.out)) (fun hHeld2 => ?_)
                    clear hK K hHeld
                    have hHeld := hHeld2
                    clear hHeld2
                    try simp only [Act.put, List.setIfInBounds_toArray, List.set_cons_succ, List.set_cons_zero]
                    refine wpAnyH_ready (rs := [14]) (by kernel_rfl) (by simp) ?_
                    refine AllReadyH.cons rfl (fun K hK => ?_) AllReadyH.nil
                    go_simp
                    refine (same_ent (E2.out.below bE.out) EE.out).mono ?_
                    rintro z w16 ⟨rfl, b16⟩
                    have BZ := Lib.hid (BE.out.trans (b16.mono BE.out.size))
                    have k16 := And.intro (HK0.out _ BZ.out) (HG0.out _ (bE.out.trans (b16.mono bE.out.size)))
                    clear b16
                    refine hK.out _ _ k16 (fun hHeld2 => ?_)
                    clear hK K hHeld
                    have hHeld := hHeld2
                    clear hHeld2
                    try simp only [Act.put, List.setIfInBounds_toArray, List.set_cons_succ, List.set_cons_zero]
                    refine wpAnyH_takeAt (i := 15) (v := .bool false) 188 rfl rfl (by kernel_rfl) (by kernel_rfl) (by kernel_rfl) (fun _ _ _ h => h) (Or.inl ⟨by rfl, ?_⟩) hHeld ?_
                    · intro W hW
                      try dsimp only at hW
                      go_simp
                    simp only [Act.put, List.setIfInBounds_toArray, List.set_cons_succ, List.set_cons_zero]
                    refine wpAnyH_done (by kernel_rfl) ?_ _
                    refine NoPanic.normal ?_
                    go_wp2_with (fail)
                    exact ⟨⟨e + 1, rfl, HE1.out, HBO.out.trans (BZ.out.mono HBO.out.size), HL13.out.step BZ.out⟩, vc_less e m HE1.out⟩
                  · have hem2 : e = m := by omega
                    subst hem2
                    have x0 : ¬ (e : Int) < (e : Int) := by omega
                    have x1 : decide ((e : Int) < (e : Int)) = false := decide_eq_false x0
                    have HZZ := Lib.hid (HB.out.trans (HBQ.out.mono HB.out.size))
                    go_wp2_with (fail)
                    try rw [z2]
                    exact ⟨⟨d + 1, rfl, HD.out, HZZ.out⟩, vc_less d 10 HD.out⟩
              · have z0 : decide ((d : Int) < 10) = false := decide_eq_false (by omega)
                have z1 : decide (d < 10) = false := decide_eq_false hd10
                have HZZ := Lib.hid (HA9.out.step HB.out).has.below
                clear hd10
                go_wp2_with (fail)
                exact bodyPost_ret (results_tmp rfl _ _ _) rfl ⟨rfl, HZZ.out⟩
          · go_upto_region 25 with (fail)
            obtain ⟨kk, hkk, hkq⟩ := cut64 sh 10 (by omega)
            have hkq' : (IntKind.u64.wrap sh).tmod 10 = (kk : Int) := hkq
            have y1 := IntWalk.wrap64_in (kk : Int) (by omega)
            have HKK := Lib.hid hkk
            have HSH := Lib.hid (fun W (hW : Below wr.heap.size wr W) => share_two (HAP.out.has.step hW) (kk : Int) (kk : Int) ((apH_bnd H).le (by omega)))
            rw [(ap_share hkk).1] at HSH
            have HPU := Lib.hid (fun W F' (hW : Has w F' W D 10 (ap3 H kk)) N z (he : EntIs W N z) => has_put' hW (kk : Int) he)
            rw [ap_put3 hkk] at HPU
            have HPS := Lib.hid (fun z => putS_not (n := 10) (P := ap3 H kk) (x := (kk : Int)) (e := entX z) (by rw [ap_put3 hkk]; decide))
            have HDO := Lib.hid (fun W F' (hW : Has w F' W D 10 (ap3 H kk)) => drop_one hW (kk : Int) (ap3_bnd hkk))
            rw [(ap_drop hkk).1] at HDO
            have HUS := Lib.hid (show ∀ W F', Has w F' W D 10 (ap2 H kk) → Calls Try.prog 21 #[.pointer (some ⟨D, 0, none⟩), .int .i64 (kk : Int)] W fun e w' => e = .returned (.int .i64 2) ∧ Below W.heap.size W w' from fun W F' hW => by
              have h := pages_users hW.pl (kk : Int)
              rw [ap2_k hkk] at h
              exact h)
            have HAPZ := Lib.hid (HAP.out.step (Below.refl _ _))
            have HWB := Lib.hid HAP.out.has.below
            clear hkk hkq HAP HX
            go_upto_region 26 with (fail)
            try rw [y1]
            clear hkq' y1
            go_wp2_with (first
              | (go_at_call 9; refine (HSH.out _ (Below.refl _ _)).mono ?_; rintro e w5 ⟨rfl, ht5⟩; obtain ⟨F5, h5, o5, t5⟩ := ht5; have HA5 := Lib.hid (show Ap w w5 D g F5 Fh G H (ap3 H kk) from HAPZ.out.turned h5 o5 t5); clear h5 o5 t5)
              | (go_at_call 12; refine (HEN.out _ _).mono ?_; rintro e w6 ⟨rfl, e6, b6⟩; have HA6 := Lib.hid (HA5.out.step b6); have E6 := Lib.hid e6; clear e6 b6)
              | (go_at_call 13; refine (HPU.out _ _ HA6.out.has _ _ E6.out).mono ?_; rintro e w7 ⟨rfl, ht7⟩; rw [HPS.out] at ht7; obtain ⟨F7, h7, o7, t7⟩ := ht7; have HA7 := Lib.hid (HA6.out.turned h7 o7 t7); clear h7 o7 t7)
              | (go_at_call 11; refine (HDO.out _ _ HA7.out.has).mono ?_; rintro e w8 ⟨rfl, ht8⟩; obtain ⟨F8, h8, o8, t8⟩ := ht8; have HA8 := Lib.hid (show Ap w w8 D g F8 Fh G H (ap2 H kk) from HA7.out.turned h8 o8 t8); clear h8 o8 t8)
              | (go_at_call 21; refine (HUS.out _ _ HA8.out.has).mono ?_; rintro e w9 ⟨rfl, b9⟩; have HA9 := Lib.hid (HA8.out.step b9); clear b9))
            clear HSH HPU HPS HDO HUS HA5 HA6 HA7 HA8 E6 HAPZ HWB
            go_loopw [17] (fun i wr => ∃ d : Nat, i = .int .i64 (d : Int) ∧ d ≤ 10 ∧ Below w9.heap.size w9 wr) (fun i _ => match i with | .int _ z => 10 - z.toNat | _ => 0)
            case atStart => exact ⟨0, rfl, Nat.zero_le _, Below.refl _ _⟩
            case round =>
              rename World => wo
              obtain ⟨d, rfl, hd, hb⟩ := hrel
              have HB := Lib.hid hb
              clear hb
              by_cases hd10 : d < 10
              · have z0 : decide ((d : Int) < 10) = true := decide_eq_true (by omega)
                have z1 : decide (d < 10) = true := decide_eq_true hd10
                have z2 := IntWalk.wrap64_in ((d : Int) + 1) (by omega)
                have z3 : (d : Int) < 10 := by omega
                have z4 : 0 ≤ (d : Int) := by omega
                have HD := Lib.hid hd10
                have HAB := Lib.hid (HA9.out.step HB.out)
                have HGT := Lib.hid (show ∀ W, Below wo.heap.size wo W → ∀ lb, KIn .i64 W (some ⟨lb, 0, none⟩) [(d : Int)] → Calls Try.prog 18 #[.pointer (some ⟨D, 0, none⟩), .slice (some ⟨lb, 0, none⟩) 1 1] W (GetSays W ((H d).map entX)) from fun W hW lb hk => by
                  have h := pages_get (HAB.out.step hW).has.pl (some ⟨lb, 0, none⟩) 1 1 [(d : Int)] rfl (by omega) hk
                  rw [ap2_get HKK.out hd10] at h
                  exact h)
                obtain ⟨hA, hc, hG⟩ := HAB.out.hv.slice hd10
                have HCG := Lib.hid (show ∀ W, Below wo.heap.size wo W → W.cell? ⟨g, d, none⟩ = some (.slice hA (H d).length hc) from fun W hW => ((HAB.out.step hW).hv.cell HD.out).trans (congrArg some hG))
                have HKH := Lib.hid (show KIn .i64 wo hA (H d) from by have h := HAB.out.hv.own d hd10; rw [hG] at h; exact h.kin)
                have HD4 := Lib.hid (show (H d).length ≤ 4 from by
                  have h1 := HAB.out.has.pl.inv.few d hd10
                  rwa [(ap2_at HKK.out hd10).1, List.length_map] at h1)
                clear hd10 hG
                generalize hHd : H d = Hd at *
                go_wp2_with (fail)
                refine (HGT.out _ (one_below wo _) _ (kin_one wo _)).mono ?_
                rintro e w10 ⟨lA, lc, R, rfl, hge, hsep, huf, hR, b10⟩
                have B10 := Lib.hid ((one_below wo (.cells #[.int .i64 (d : Int)] 3)).trans (b10.mono (by simp)))
                have HML := Lib.hid (show R.length = Hd.length by rw [← List.length_map (f := (·.2)), hR, List.length_map])
                have HRM := Lib.hid (show ∀ i q, R[i]? = some q → ∃ h : Int, Hd.getD i 0 = h ∧ q.2 = entX h from fun i q hq => by
                  have h1 : (R.map (·.2))[i]? = some q.2 := by rw [List.getElem?_map, hq]; rfl
                  rw [hR, List.getElem?_map] at h1
                  obtain ⟨h, h2, h3⟩ := Option.map_eq_some_iff.1 h1
                  exact ⟨h, by rw [List.getD_eq_getElem?_getD, h2]; rfl, h3.symm⟩)
                have HM4 := Lib.hid (show Hd.length ≤ 4 from HD4.out)
                have HLR := Lib.hid (show Lr (wo.heap.size + 1) w10 lA R.length lc R 0 from by
                  have hsz : (wo.alloc (.cells #[.int .i64 (d : Int)] 3)).heap.size = wo.heap.size + 1 := by simp
                  rw [hsz] at hge
                  exact ⟨hge.own, fun i q _ hq => ⟨hge.all q (List.mem_of_getElem? hq), huf q (List.mem_of_getElem? hq)⟩, hsep⟩)
                rw [HML.out] at HLR
                rw [HML.out]
                clear hge hsep huf hR b10
                have c0 := HCG.out _ B10.out
                have t0 : ((Hd.length : Int) != (Hd.length : Int)) = false := by simp
                generalize hm : Hd.length = m at *
                go_wp2_with (fail)
                clear c0 t0
                go_loopw [19] (fun i wq => ∃ e : Nat, i = .int .i64 (e : Int) ∧ e ≤ m ∧ Below wo.heap.size wo wq ∧ Lr (wo.heap.size + 1) wq lA m lc R e) (fun i _ => match i with | .int _ z => m - z.toNat | _ => 0)
                case atStart => exact ⟨0, rfl, Nat.zero_le _, B10.out, HLR.out⟩
                case round =>
                  clear HLR B10
                  obtain ⟨e, rfl, he, hbq, hlr⟩ := hrel
                  have HBQ := Lib.hid hbq
                  have HLR := Lib.hid hlr
                  clear hbq hlr
                  by_cases hem : e < m
                  · have x0 : (e : Int) < (m : Int) := by omega
                    have x1 : decide ((e : Int) < (m : Int)) = true := decide_eq_true x0
                    have x2 : 0 ≤ (e : Int) := by omega
                    have HE1 := Lib.hid (show e + 1 ≤ m by omega)
                    have hml : m ≤ 4 := HM4.out
                    have x5 := IntWalk.wrap64_in ((e : Int) + 1) (by omega)
                    obtain ⟨⟨r, x⟩, hre⟩ : ∃ q, R[e]? = some q := ⟨_, List.getElem?_eq_getElem (by rw [HML.out]; exact hem)⟩
                    have HRE := Lib.hid hre
                    obtain ⟨h, hh1, hh2⟩ := HRM.out e _ hre
                    have hxh : x = entX h := hh2
                    subst hxh
                    have HH := Lib.hid (show Hd[e]? = some h from by
                      rw [List.getD_eq_getElem?_getD, List.getElem?_eq_getElem (by omega)] at hh1
                      rw [List.getElem?_eq_getElem (by omega)]
                      exact congrArg some hh1)
                    have hel := HLR.out.own
                    have hes : EsAt wr lA R := by rw [← HML.out] at hel; exact own_es hel
                    obtain ⟨pb, po, rfl, d0, d1⟩ := hes.cell hre
                    obtain ⟨hb2, ho2, rfl, hz⟩ := (HKH.out.below HBQ.out (Nat.le_refl _)).at (show e < Hd.length by omega)
                    rw [hh1] at hz
                    obtain ⟨vb, vo, hva, _⟩ := (HLR.out.rest e _ (Nat.le_refl e) hre).1.v.is.at (show (0 : Nat) < (entX h).vs.length from Nat.one_pos)
                    have hva2 : r.vA = some ⟨vb, vo, none⟩ := hva
                    have HVA := Lib.hid hva2
                    have d1' : wr.cell? ⟨pb, po + e * 2 + 1, none⟩ = some (.slice (some ⟨vb, vo, none⟩) 1 r.vc) := by rw [← hva2]; exact d1
                    have HKE := Lib.hid (show ∀ W, Below wr.heap.size wr W → (W.cell? ⟨pb, po + e * 2, none⟩ = some (.slice r.kA 1 r.kc) ∧ W.cell? ⟨pb, po + e * 2 + 1, none⟩ = some (.slice (some ⟨vb, vo, none⟩) 1 r.vc)) ∧ W.cell? ⟨g, d, none⟩ = some (.slice (some ⟨hb2, ho2, none⟩) m hc) ∧ W.cell? ⟨hb2, ho2 + e, none⟩ = some (.int .i64 h) from fun W hW =>
                      ⟨⟨(hW.cell (p := ⟨pb, po + e * 2, none⟩) (block_lt_of_cell d0)).trans d0, (hW.cell (p := ⟨pb, po + e * 2 + 1, none⟩) (block_lt_of_cell d1')).trans d1'⟩, HCG.out W (HBQ.out.trans (hW.mono HBQ.out.size)), (hW.cell (p := ⟨hb2, ho2 + e, none⟩) (block_lt_of_cell hz)).trans hz⟩)
                    have HEO := Lib.hid (fun W (hW : Below wr.heap.size wr W) => ((HLR.out.step hW).rest e _ (Nat.le_refl e) hre).1)
                    have HSE := Lib.hid (fun W (hW : Below wr.heap.size wr W) N (he : EntIs W N h) => by have h1 := same_ent (HEO.out W hW) he; rw [hva2] at h1; exact h1)
                    have BDR := Lib.hid (below_drewN (Below.refl wr.heap.size wr) 1)
                    clear hre hes hel hh1 hh2 hz d0 d1 d1' hem hva hva2
                    go_upto_region 37 with (fail)
                    have k0 := HKE.out _ BDR.out
                    go_region_held3 (fun W : World => (W.cell? ⟨pb, po + e * 2, none⟩ = some (.slice r.kA 1 r.kc) ∧ W.cell? ⟨pb, po + e * 2 + 1, none⟩ = some (.slice (some ⟨vb, vo, none⟩) 1 r.vc)) ∧ W.cell? ⟨g, d, none⟩ = some (.slice (some ⟨hb2, ho2, none⟩) m hc) ∧ W.cell? ⟨hb2, ho2 + e, none⟩ = some (.int .i64 h)) (first | exact k0 | assumption) (first
                      | (go_at_call 12; refine (HEN.out _ _).mono ?_; rintro z w11 ⟨rfl, e11, b11⟩; have B11 := Lib.hid (BDR.out.trans (b11.mono BDR.out.size)); have E11 := Lib.hid e11; have k11 := HKE.out _ B11.out; clear e11 b11)
                      | (go_at_call 27; refine (HSE.out _ B11.out _ E11.out).mono ?_; rintro z w12 ⟨rfl, b12⟩; have B12 := Lib.hid (B11.out.trans (b12.mono B11.out.size)); have k12 := HKE.out _ B12.out; clear b12))
                    obtain ⟨⟨_, c1⟩, _⟩ := k12
                    have hL12 := HLR.out.step B12.out
                    obtain ⟨hE12, hU12⟩ := hL12.rest e _ (Nat.le_refl e) HRE.out
                    have hvs : (0 : Nat) < (entX h).vs.length := Nat.one_pos
                    obtain ⟨vb2, vo2, hva, hv0, hvk⟩ := hE12.v.is.at hvs
                    have hrl : (0 : Nat) < ((entX h).vs.getD 0 []).length := Nat.succ_pos 1
                    obtain ⟨zb, zo, hzb, hzk⟩ := hvk hrl
                    have hz0 := hzk 0 hrl
                    obtain ⟨zcs, hzf⟩ := hU12 0 hvs hrl _ hzb
                    have hve : (some ⟨vb2, vo2, none⟩ : Option Addr) = some ⟨vb, vo, none⟩ := hva.symm.trans HVA.out
                    injection hve with hve
                    injection hve with hve1 hve2
                    subst hve1 hve2
                    rw [hzb] at hv0
                    have c2 : w12.cell? ⟨vb2, vo2, none⟩ = some (.slice (some ⟨zb, zo, none⟩) 2 (r.vC 0)) := hv0
                    have c3 : w12.cell? ⟨zb, zo, none⟩ = some (.int .i64 (wrap64 (-h))) := hz0
                    have f3 : w12.frozen? ⟨zb, zo, none⟩ = false := frozen_of_row _ _ _ _ _ hzf
                    obtain ⟨hL13, hN⟩ := hL12.store HRE.out (b := zb) ⟨0, hvs, hrl, _, hzb, rfl⟩ zo (.int .i64 777)
                    have HL13 := Lib.hid hL13
                    have HBO := Lib.hid (show Below wo.heap.size wo (w12.setCell ⟨zb, zo, none⟩ (.int .i64 777)) from (HBQ.out.trans (B12.out.mono HBQ.out.size)).setCell (p := ⟨zb, zo, none⟩) (by show wo.heap.size ≤ zb; omega) _)
                    have HZ0 := Lib.hid (show (w12.setCell ⟨zb, zo, none⟩ (.int .i64 777)).cell? ⟨hb2, ho2 + e, none⟩ = some (.int .i64 h) from by
                      obtain ⟨hb3, ho3, e3, hz3⟩ := (HKH.out.below HBO.out (Nat.le_refl _)).at (show e < Hd.length by have := HE1.out; omega)
                      injection e3 with e3
                      injection e3 with e4 e5
                      subst e4 e5
                      rw [List.getD_eq_getElem?_getD, HH.out] at hz3
                      exact hz3)
                    have HK0 := Lib.hid (show ∀ W, Below (w12.setCell ⟨zb, zo, none⟩ (.int .i64 777)).heap.size (w12.setCell ⟨zb, zo, none⟩ (.int .i64 777)) W → W.cell? ⟨g, d, none⟩ = some (.slice (some ⟨hb2, ho2, none⟩) m hc) ∧ W.cell? ⟨hb2, ho2 + e, none⟩ = some (.int .i64 h) from fun W hW =>
                      ⟨HCG.out W (HBO.out.trans (hW.mono HBO.out.size)), (hW.cell (p := ⟨hb2, ho2 + e, none⟩) (block_lt_of_cell HZ0.out)).trans HZ0.out⟩)
                    clear hL12 hL13 hN hE12 hU12 hvk hzk hz0 hzf hv0 hva hzb HEO HKE k0 HLR
                    go_upto_region 40 with (fail)
                    generalize w12.setCell ⟨zb, zo, none⟩ (.int .i64 777) = w13 at *
                    clear c1 c2 c3 f3
                    have BD := Lib.hid (below_drewN (Below.refl w13.heap.size w13) 1)
                    have k0 := HK0.out _ BD.out
                    refine wp_region_noPanic ?_
                    refine wp_region_held_drew (S := (fun W : World => W.cell? ⟨g, d, none⟩ = some (.slice (some ⟨hb2, ho2, none⟩) m hc) ∧ W.cell? ⟨hb2, ho2 + e, none⟩ = some (.int .i64 h))) (by kernel_rfl) k0 (fun hHeld => ?_)
                    refine wpAnyH_takeAt (i := 0) (v := .pointer (some ⟨D, 0, none⟩)) 173 rfl rfl (by kernel_rfl) (by kernel_rfl) (by kernel_rfl) (fun _ _ _ h => h) (Or.inl ⟨by rfl, ?_⟩) hHeld ?_
                    · intro W hW
                      try dsimp only at hW
                      go_simp
                    simp only [Act.put, List.setIfInBounds_toArray, List.set_cons_succ, List.set_cons_zero]
                    refine wpAnyH_takeAt (i := 1) (v := .int .i64 (d : Int)) 174 rfl rfl (by kernel_rfl) (by kernel_rfl) (by kernel_rfl) (fun _ _ _ h => h) (Or.inl ⟨by rfl, ?_⟩) hHeld ?_
                    · intro W hW
                      try dsimp only at hW
                      go_simp
                    simp only [Act.put, List.setIfInBounds_toArray, List.set_cons_succ, List.set_cons_zero]
                    refine wpAnyH_takeAt (i := 4) (v := .int .i64 (e : Int)) 177 rfl rfl (by kernel_rfl) (by kernel_rfl) (by kernel_rfl) (fun _ _ _ h => h) (Or.inl ⟨by rfl, ?_⟩) hHeld ?_
                    · intro W hW
                      try dsimp only at hW
                      go_simp
                    simp only [Act.put, List.setIfInBounds_toArray, List.set_cons_succ, List.set_cons_zero]
                    refine wpAnyH_takeAt (i := 7) (v := .int .i64 (d : Int)) 180 rfl rfl (by kernel_rfl) (by kernel_rfl) (by kernel_rfl) (fun _ _ _ h => h) (Or.inl ⟨by rfl, ?_⟩) hHeld ?_
                    · intro W hW
                      try dsimp only at hW
                      go_simp
                    simp only [Act.put, List.setIfInBounds_toArray, List.set_cons_succ, List.set_cons_zero]
                    refine wpAnyH_takeAt (i := 8) (v := .pointer (some ⟨g, d, none⟩)) 181 rfl rfl (by kernel_rfl) (by kernel_rfl) (by kernel_rfl) (fun _ _ _ h => h) (Or.inl ⟨by rfl, ?_⟩) hHeld ?_
                    · intro W hW
                      try dsimp only at hW
                      go_simp
                    simp only [Act.put, List.setIfInBounds_toArray, List.set_cons_succ, List.set_cons_zero]
                    refine wpAnyH_takeAt (i := 9) (v := .slice (some ⟨hb2, ho2, none⟩) m hc) 182 rfl rfl (by kernel_rfl) (by kernel_rfl) (by kernel_rfl) (fun _ _ _ h => h) (Or.inl ⟨by rfl, ?_⟩) hHeld ?_
                    · intro W hW
                      try dsimp only at hW
                      go_simp
                    simp only [Act.put, List.setIfInBounds_toArray, List.set_cons_succ, List.set_cons_zero]
                    refine wpAnyH_takeAt (i := 10) (v := .int .i64 (e : Int)) 183 rfl rfl (by kernel_rfl) (by kernel_rfl) (by kernel_rfl) (fun _ _ _ h => h) (Or.inl ⟨by rfl, ?_⟩) hHeld ?_
                    · intro W hW
                      try dsimp only at hW
                      go_simp
                    simp only [Act.put, List.setIfInBounds_toArray, List.set_cons_succ, List.set_cons_zero]
                    refine wpAnyH_takeAt (i := 11) (v := .pointer (some ⟨hb2, ho2 + e, none⟩)) 184 rfl rfl (by kernel_rfl) (by kernel_rfl) (by kernel_rfl) (fun _ _ _ h => h) (Or.inl ⟨by rfl, ?_⟩) hHeld ?_
                    · intro W hW
                      try dsimp only at hW
                      go_simp
                    simp only [Act.put, List.setIfInBounds_toArray, List.set_cons_succ, List.set_cons_zero]
                    refine wpAnyH_takeAt (i := 12) (v := .int .i64 h) 185 rfl rfl (by kernel_rfl) (by kernel_rfl) (by kernel_rfl) (fun _ _ _ h => h) (Or.inl ⟨by rfl, ?_⟩) hHeld ?_
                    · intro W hW
                      try dsimp only at hW
                      go_simp
                    simp only [Act.put, List.setIfInBounds_toArray, List.set_cons_succ, List.set_cons_zero]
                    refine wpAnyH_ready (rs := [2]) (by kernel_rfl) (by simp) ?_
                    refine AllReadyH.cons rfl (fun K hK => ?_) AllReadyH.nil
                    go_simp
                    have BL := Lib.hid (BD.out.alloc BD.out.size (.cells #[.int .i64 (d : Int)] 3))
                    have KL := Lib.hid (kin_one _ (d : Int) : KIn .i64 (w13.drew.alloc (.cells #[.int .i64 (d : Int)] 3)) (some ⟨w13.drew.heap.size, 0, none⟩) [(d : Int)])
                    refine hK.out _ _ (HK0.out _ BL.out) (fun hHeld2 => ?_)
                    clear hK K hHeld
                    have hHeld := hHeld2
                    clear hHeld2
                    try simp only [Act.put, List.setIfInBounds_toArray, List.set_cons_succ, List.set_cons_zero]
                    refine wpAnyH_ready (rs := [3]) (by kernel_rfl) (by simp) ?_
                    refine AllReadyH.cons rfl (fun K hK => ?_) AllReadyH.nil
                    go_simp
                    refine (HGT.out _ (HBO.out.trans (BL.out.mono HBO.out.size)) _ KL.out).mono ?_
                    rintro z w15 ⟨gA, gc, R2, rfl, hge, _, _, hR2, b15⟩
                    have BG := Lib.hid (BL.out.trans (b15.mono BL.out.size))
                    have bG := Lib.hid b15
                    obtain ⟨r2, hq2⟩ := got_at hR2 HH.out
                    obtain ⟨gb, go, rfl, g0, g1⟩ := hge.es.row.cell hq2
                    have E2 := Lib.hid (hge.es.all _ (List.mem_of_getElem? hq2))
                    have HG0 := Lib.hid (show ∀ W, Below w15.heap.size w15 W → W.cell? ⟨gb, go + e * 2, none⟩ = some (.slice r2.kA 1 r2.kc) ∧ W.cell? ⟨gb, go + e * 2 + 1, none⟩ = some (.slice r2.vA 1 r2.vc) from fun W hW => ⟨(hW.cell (p := ⟨gb, go + e * 2, none⟩) (block_lt_of_cell g0)).trans g0, (hW.cell (p := ⟨gb, go + e * 2 + 1, none⟩) (block_lt_of_cell g1)).trans g1⟩)
                    have HL2 := Lib.hid (got_len hR2 HH.out)
                    generalize R2.length = m2 at *
                    clear hge hR2 b15 hq2 g0 g1
                    refine hK.out _ _ (HK0.out _ BG.out) (fun hHeld2 => ?_)
                    clear hK K hHeld
                    have hHeld := hHeld2
                    clear hHeld2
                    try simp only [Act.put, List.setIfInBounds_toArray, List.set_cons_succ, List.set_cons_zero]
                    refine wpAnyH_more (S' := fun W : World => (W.cell? ⟨g, d, none⟩ = some (.slice (some ⟨hb2, ho2, none⟩) m hc) ∧ W.cell? ⟨hb2, ho2 + e, none⟩ = some (.int .i64 h)) ∧ W.cell? ⟨gb, go + e * 2, none⟩ = some (.slice r2.kA 1 r2.kc) ∧ W.cell? ⟨gb, go + e * 2 + 1, none⟩ = some (.slice r2.vA 1 r2.vc)) (fun _ h => h.1) _ _ _ _ ?_
                    have hHeld3 := And.intro hHeld (HG0.out _ (Below.refl _ _))
                    clear hHeld
                    have hHeld := hHeld3
                    clear hHeld3
                    have x7 : (e : Int) < (m2 : Int) := by have := HL2.out; omega
                    refine wpAnyH_takeAt (i := 5) (v := .pointer (some ⟨gb, go + e * 2, none⟩)) 178 rfl rfl (by kernel_rfl) (by kernel_rfl) (by kernel_rfl) (fun _ _ _ h => h) (Or.inl ⟨by rfl, ?_⟩) hHeld ?_
                    · intro W hW
                      try dsimp only at hW
                      go_simp
                    simp only [Act.put, List.setIfInBounds_toArray, List.set_cons_succ, List.set_cons_zero]
                    refine wpAnyH_takeAt (i := 6) (v := .agg #[.slice r2.kA 1 r2.kc, .slice r2.vA 1 r2.vc]) 179 rfl rfl (by kernel_rfl) (by kernel_rfl) (by kernel_rfl) (fun _ _ _ h => h) (Or.inl ⟨by rfl, ?_⟩) hHeld ?_
                    · intro W hW
                      try dsimp only at hW
                      go_simp
                    simp only [Act.put, List.setIfInBounds_toArray, List.set_cons_succ, List.set_cons_zero]
                    refine wpAnyH_ready (rs := [13]) (by kernel_rfl) (by simp) ?_
                    refine AllReadyH.cons rfl (fun K hK => ?_) AllReadyH.nil
                    go_simp
                    refine (HEN.out _ _).mono ?_
                    rintro z w14 ⟨rfl, e14, b14⟩
                    have BE := Lib.hid (BG.out.trans (b14.mono BG.out.size))
                    have EE := Lib.hid e14
                    have bE := Lib.hid b14
                    clear e14 b14
                    refine hK.out _ _ (And.intro (HK0.out _ BE.out) (HG0.out _ bE.out)) (fun hHeld2 => ?_)
                    clear hK K hHeld
                    have hHeld := hHeld2
                    clear hHeld2
                    try simp only [Act.put, List.setIfInBounds_toArray, List.set_cons_succ, List.set_cons_zero]
                    refine wpAnyH_ready (rs := [14]) (by kernel_rfl) (by simp) ?_
                    refine AllReadyH.cons rfl (fun K hK => ?_) AllReadyH.nil
                    go_simp
                    refine (same_ent (E2.out.below bE.out) EE.out).mono ?_
                    rintro z w16 ⟨rfl, b16⟩
                    have BZ := Lib.hid (BE.out.trans (b16.mono BE.out.size))
                    have k16 := And.intro (HK0.out _ BZ.out) (HG0.out _ (bE.out.trans (b16.mono bE.out.size)))
                    clear b16
                    refine hK.out _ _ k16 (fun hHeld2 => ?_)
                    clear hK K hHeld
                    have hHeld := hHeld2
                    clear hHeld2
                    try simp only [Act.put, List.setIfInBounds_toArray, List.set_cons_succ, List.set_cons_zero]
                    refine wpAnyH_takeAt (i := 15) (v := .bool false) 188 rfl rfl (by kernel_rfl) (by kernel_rfl) (by kernel_rfl) (fun _ _ _ h => h) (Or.inl ⟨by rfl, ?_⟩) hHeld ?_
                    · intro W hW
                      try dsimp only at hW
                      go_simp
                    simp only [Act.put, List.setIfInBounds_toArray, List.set_cons_succ, List.set_cons_zero]
                    refine wpAnyH_done (by kernel_rfl) ?_ _
                    refine NoPanic.normal ?_
                    go_wp2_with (fail)
                    exact ⟨⟨e + 1, rfl, HE1.out, HBO.out.trans (BZ.out.mono HBO.out.size), HL13.out.step BZ.out⟩, vc_less e m HE1.out⟩
                  · have hem2 : e = m := by omega
                    subst hem2
                    have x0 : ¬ (e : Int) < (e : Int) := by omega
                    have x1 : decide ((e : Int) < (e : Int)) = false := decide_eq_false x0
                    have HZZ := Lib.hid (HB.out.trans (HBQ.out.mono HB.out.size))
                    go_wp2_with (fail)
                    try rw [z2]
                    exact ⟨⟨d + 1, rfl, HD.out, HZZ.out⟩, vc_less d 10 HD.out⟩
              · have z0 : decide ((d : Int) < 10) = false := decide_eq_false (by omega)
                have z1 : decide (d < 10) = false := decide_eq_false hd10
                have HZZ := Lib.hid (HA9.out.step HB.out).has.below
                clear hd10
                go_wp2_with (fail)
                exact bodyPost_ret (results_tmp rfl _ _ _) rfl ⟨rfl, HZZ.out⟩
end Go.Proofs.Ytlapinecmiacoaa.PgAp
