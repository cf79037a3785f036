/-
  Law 14's ActAll: it answers true, whatever the row and the place to cut it are. Conditions: the table lies where the program looks; the numbers are there, such as an int holds.
-/
import Derived.Test.YtfpdlcblaodflaaDoorAcAwake14
import Derived.Test.YtfpdlcblaodflaaDoorVcInts
import Derived.Test.YtfpdlcblaodflaaDoorCutInts
import Derived.Test.YtfpdlcblaodflaaDoorAppAny
import Derived.Deep.RegionHeld3
namespace Go.Proofs.YtfpdlcblaodflaaDoor.actAll
open Go.ChangeShapes Go.WideShapes Go.ChangeAt Go.RowKit Nm Vc Ac

theorem all_one (zs : List Int) : ∀ u ∈ icells zs, u.oneCell' = true := fun u hu => by
  obtain ⟨z, _, rfl⟩ := List.mem_map.1 hu
  rfl
theorem kin_src {w : World} {b o : Nat} {zs : List Int} (h : KIn .i64 w (some ⟨b, o, none⟩) zs) : ∀ j u, (icells zs)[j]? = some u → w.cell? ((⟨b, o, none⟩ : Addr).add j) = some u := fun j u hj => by
  by_cases hl : j < zs.length
  · rw [icells_at zs j hl] at hj
    injection hj with hj
    rw [Addr.add_lit, ← hj]
    exact h.holds j hl
  · rw [List.getElem?_eq_none (by rw [icells_length]; omega)] at hj
    cases hj
theorem below1 {w0 w wz : World} {B : Nat} {v : Value} {L : List Int} (hb : Below B w0 w) (hB : w0.heap.size = B) (ho : Own w B v L) (hg : w.grownBy wz v.ownBlock) : Below B w0 wz :=
  hb.grown hg (by have := hb.size; omega) (fun i hi => (ho.lt i hi).1)
theorem own_two {w : World} {base g N cap : Nat} {l m : List Int} (hl : (l ++ m).length = N) (h : w.ownsRow base 3 1 (.slice (some ⟨g, 0, none⟩) N cap) N (icells l ++ icells m)) : Own w base (.slice (some ⟨g, 0, none⟩) N cap) (l ++ m) := by
  unfold Own
  rw [hl, show icells (l ++ m) = icells l ++ icells m from List.map_append]
  exact h
/-- Where the row is cut. -/
theorem split_at (split : Int) (n : Nat) (hn : n ≤ 40) : ∃ k : Nat, wrap64 ((IntKind.u64.wrap split).tmod ((n : Int) + 1)) = (k : Int) ∧ k ≤ n := by
  have h1 : 0 ≤ IntKind.u64.wrap split := by rw [IntKind.wrap_u64]; omega
  rw [Int.tmod_eq_emod_of_nonneg h1]
  have h2 := Int.emod_nonneg (IntKind.u64.wrap split) (show (n : Int) + 1 ≠ 0 by omega)
  have h3 := Int.emod_lt_of_pos (IntKind.u64.wrap split) (show 0 < (n : Int) + 1 by omega)
  generalize IntKind.u64.wrap split % ((n : Int) + 1) = x at h2 h3
  exact ⟨x.toNat, by rw [IntWalk.wrap64_in _ ⟨by omega, by omega⟩]; omega, by omega⟩
set_option maxRecDepth 100000 in
set_option maxHeartbeats 800000 in
theorem walk_out (w : World) (A : Option Addr) (n c : Nat) (split : Int) (hp : GOn w) (h : 40 < n) :
    Calls Tryd.prog 5 #[.slice A n c, .int .i64 split] w fun e w' => e = .returned (.bool true) ∧ Below w.heap.size w w' := by
  have HW := Lib.hid (awake14 w hp)
  have t0 : 40 < (n : Int) := by omega
  have t1 : decide (40 < (n : Int)) = true := decide_eq_true t0
  clear h
  go_enter Tryd.func5, Tryd.ntmps5
  go_wp2_with (fail)
  refine HW.out.mono ?_
  rintro e w1 ⟨rfl, b1⟩
  have B1 := Lib.hid b1
  clear b1
  go_wp2_with (fail)
  refine bodyPost_ret (results_tmp rfl _ _ _) rfl ?_
  exact ⟨rfl, B1.out⟩
set_option maxRecDepth 100000 in
set_option maxHeartbeats 6400000 in
theorem walk_in (w : World) (A : Option Addr) (n c : Nat) (zs : List Int) (split : Int) (hz : zs.length = n) (hA : KIn .i64 w A zs) (fz : FitL zs) (hcap : n ≤ c) (hp : GOn w) (hn : n ≤ 40) :
    Calls Tryd.prog 5 #[.slice A n c, .int .i64 split] w fun e w' => e = .returned (.bool true) ∧ Below w.heap.size w w' := by
  have HW := Lib.hid (awake14 w hp)
  have HA := Lib.hid hA
  have HZ := Lib.hid hz
  have FZ := Lib.hid fz
  have HP := Lib.hid hp
  have HM := Lib.hid (show n ≤ 40 ∧ n ≤ c from ⟨hn, hcap⟩)
  have t0 : ¬ 40 < (n : Int) := by omega
  have t1 : decide (40 < (n : Int)) = false := decide_eq_false t0
  have HLL := Lib.hid (show (pairsL zs zs).length = n by rw [pairsL_length rfl, hz])
  have HAT := Lib.hid (fun j (h : j < n) => pairsL_at (gs := zs) (zs := zs) rfl j (by omega))
  have HPP := Lib.hid (fun k => pairs_parts zs k)
  obtain ⟨i0, hi, hz0, hz1, hz2⟩ := info_parts info_int
  have HI := Lib.hid hi
  have HZ0 := Lib.hid hz0
  have HZ1 := Lib.hid hz1
  have HZ2 := Lib.hid hz2
  clear hi hz0 hz1 hz2 hA hz fz hp hn hcap
  go_enter Tryd.func5, Tryd.ntmps5
  go_wp2_with (fail)
  refine HW.out.mono ?_
  rintro e w1 ⟨rfl, b1⟩
  have B1 := Lib.hid b1
  have A1 := Lib.hid (HA.out.below b1 (Nat.le_refl _))
  have P1 := Lib.hid (HP.out.below b1 (Nat.le_refl _))
  clear b1 HA HP HW
  go_wp2_with (fail)
  refine (act_all w1 A n c zs HZ.out (by have := HM.out; omega) A1.out FZ.out P1.out).mono ?_
  rintro e w2 ⟨g2, rfl, _, o2, b2⟩
  have B2 := Lib.hid (B1.out.trans (b2.mono B1.out.size))
  have A2 := Lib.hid (A1.out.below b2 (Nat.le_refl _))
  have P2 := Lib.hid (P1.out.below b2 (Nat.le_refl _))
  have K2 := Lib.hid (Own.kin o2)
  clear o2 b2 B1 A1 P1
  go_wp2_with (fail)
  refine (act_pairs_same w2 A c zs A n c zs HZ.out HZ.out (by have := HM.out; omega) A2.out A2.out FZ.out P2.out).mono ?_
  rintro e w3 ⟨g3, rfl, _, o3, b3⟩
  have B3 := Lib.hid (B2.out.trans (b3.mono B2.out.size))
  have A3 := Lib.hid (A2.out.below b3 (Nat.le_refl _))
  have P3 := Lib.hid (P2.out.below b3 (Nat.le_refl _))
  have K23 := Lib.hid (K2.out.below b3 (Nat.le_refl _))
  have K3 := Lib.hid (Own.kin o3)
  clear o3 b3 B2 A2 P2 K2
  generalize pairsL zs zs = L at HLL HAT HPP K23 K3
  have t2 : ((n : Int) != (n : Int)) = false := by simp
  go_wp2_with (fail)
  refine (ints_same w3 _ n _ _ _ L HLL.out (by have := HM.out; omega) K23.out K3.out).mono ?_
  rintro e w4 ⟨rfl, d4, rfl⟩
  have B4 := Lib.hid (below_drewN B3.out d4)
  have A4 := Lib.hid (A3.out.drewN d4)
  have P4 := Lib.hid (P3.out.drewN d4)
  have K4 := Lib.hid (K23.out.drewN d4)
  clear K23 K3 B3 A3 P3
  generalize w3.drewN d4 = w4 at B4 A4 P4 K4 ⊢
  go_wp2_with (fail)
  clear t0 t1 t2
  go_loopw [7] (fun i wr => ∃ j d : Nat, i = .int .i64 (j : Int) ∧ j ≤ n ∧ wr = w4.drewN d) (fun i _ => match i with | .int _ k => n - k.toNat | _ => 0)
  case atStart => exact ⟨0, 0, rfl, Nat.zero_le _, rfl⟩
  case round =>
    obtain ⟨j, d, rfl, hj, rfl⟩ := hrel
    have x2 : 0 ≤ (j : Int) := by omega
    by_cases hlt : j < n
    · have x0 : (j : Int) < (n : Int) := by omega
      have x1 : decide ((j : Int) < (n : Int)) = true := decide_eq_true x0
      have HJ := Lib.hid (show j + 1 ≤ n by omega)
      obtain ⟨pa, oa, rfl, hc1⟩ := (A4.out.drewN d).at (show j < zs.length by rw [HZ.out]; exact hlt)
      have hc2 : (w4.drewN d).cell? ⟨g2, 0 + j, none⟩ = some (.int .i64 (L.getD j 0)) := (K4.out.drewN d).holds j (by rw [HLL.out]; exact hlt)
      rw [Nat.zero_add] at hc2
      have HOF := Lib.hid (act_of (zs.getD j 0) ((w4.drewN d).drew) (FZ.out j (by rw [HZ.out]; exact hlt)) ((P4.out.drewN d).drewN 1))
      rw [← HAT.out j hlt] at HOF
      generalize zs.getD j 0 = z at hc1 HOF
      generalize L.getD j 0 = v at hc2 HOF
      have hv : (v != v) = false := by simp
      have x3 := IntWalk.wrap64_in ((j : Int) + 1) (by have := HM.out; omega)
      generalize hw5 : w4.drewN d = w5 at hc1 hc2 HOF ⊢
      have HW5 := Lib.hid hw5
      clear hw5
      have k0 : w5.drew.cell? ⟨pa, oa + j, none⟩ = some (.int .i64 z) ∧ w5.drew.cell? ⟨g2, j, none⟩ = some (.int .i64 v) := ⟨hc1, hc2⟩
      go_wp2_with (fail)
      go_region_held3 (fun W : World => W.cell? ⟨pa, oa + j, none⟩ = some (.int .i64 z) ∧ W.cell? ⟨g2, j, none⟩ = some (.int .i64 v)) (first | exact k0 | assumption) (first
        | (go_at_call 9; (with_reducible refine HOF.out.mono ?_); rintro e w6 ⟨rfl, k6, rfl⟩; have k7 : (w5.drew.drewN k6).cell? ⟨pa, oa + j, none⟩ = some (.int .i64 z) ∧ (w5.drew.drewN k6).cell? ⟨g2, j, none⟩ = some (.int .i64 v) := k0))
      go_wp2_with (fail)
      rw [x3]
      exact ⟨⟨j + 1, d + (1 + k6), rfl, HJ.out, by
        rw [← HW5.out, World.drewN_drewN]⟩, vc_less j n hlt⟩
    · have hke : j = n := by omega
      have x0 : ¬ (j : Int) < (n : Int) := by omega
      have x1 : decide ((j : Int) < (n : Int)) = false := decide_eq_false x0
      have B7 := Lib.hid (below_drewN B4.out d)
      have A7 := Lib.hid (A4.out.drewN d)
      have P7 := Lib.hid (P4.out.drewN d)
      have K7 := Lib.hid (K4.out.drewN d)
      clear B4 A4 P4 K4 HAT hlt
      generalize w4.drewN d = w7 at B7 A7 P7 K7 ⊢
      subst hke
      obtain ⟨k, hk, hkn⟩ := split_at split j HM.out.1
      have e0 : wrap64 ((IntKind.u64.wrap split).tmod ((j : Int) + 1)) = (k : Int) := hk
      have e1 : wrap64 ((j : Int) + 1) = (j : Int) + 1 := IntWalk.wrap64_in _ (by have := HM.out; omega)
      have e2 : IntKind.u64.wrap ((j : Int) + 1) = (j : Int) + 1 := by rw [IntKind.wrap_u64]; have := HM.out; omega
      have e3 : ¬ (j : Int) + 1 = 0 := by omega
      go_wp2_with (fail)
      clear e0 e1 e2 e3 hk
      have hc1 := cut_to j c k (k : Int) A rfl (by have := HM.out; omega)
      have hc2 := cut_from j c k (k : Int) A rfl hkn
      have HAL := Lib.hid (show Calls Tryd.prog 12 #[.slice A k c] w7.drew (OwnSays w7.drew k (pairsL (zs.take k) (zs.take k))) from
        act_all w7.drew A k c (zs.take k) (by rw [List.length_take, HZ.out]; omega) (by have := HM.out; omega) (A7.out.take k) (FZ.out.take k) P7.out)
      have HA2 := Lib.hid (fun (W : World) (h : Below w7.heap.size w7 W) =>
        act_all W (fromA A c k) (j - k) (c - k) (zs.drop k) (by rw [List.length_drop, HZ.out]) (by have := HM.out; omega) ((A7.out.below h (Nat.le_refl _)).from (by rw [HZ.out]; exact HM.out.2) k) (FZ.out.drop k) (P7.out.below h (Nat.le_refl _)))
      have HL1 := Lib.hid (show (pairsL (zs.take k) (zs.take k)).length = k by rw [pairsL_length rfl, List.length_take, HZ.out]; omega)
      have HL2 := Lib.hid (show (pairsL (zs.drop k) (zs.drop k)).length = j - k by rw [pairsL_length rfl, List.length_drop, HZ.out])
      have HPK := Lib.hid (HPP.out k)
      generalize pairsL (zs.take k) (zs.take k) = Y at HAL HL1 HPK
      generalize pairsL (zs.drop k) (zs.drop k) = V at HA2 HL2 HPK
      have HLV := Lib.hid (show (icells V).length = (j - k) * 1 by rw [icells_length, HL2.out]; omega)
      have HLT := Lib.hid (show (Y ++ V).length = k + (j - k) by rw [List.length_append, HL1.out, HL2.out])
      have HMX := Lib.hid (show k + (j - k) ≤ maxLen ∧ (k + (j - k)) * 8 ≤ 140737488355328 by have := HM.out; unfold maxLen; omega)
      have HIN := Lib.hid (fun (N : Nat) (hN : k + (j - k) = N) (W : World) (h : Below w7.heap.size w7 W) (g cg : Nat) (hk : KIn .i64 W (some ⟨g, 0, none⟩) (Y ++ V)) =>
        show Calls Tryd.prog 11 #[.slice (some ⟨g, 0, none⟩) N cg, .slice (some ⟨g2, 0, none⟩) j j] W (fun e w' => e = .returned (.bool true) ∧ ∃ k, w' = W.drewN k) from by
          obtain rfl : j = N := by omega
          rw [HPK.out] at hk
          exact ints_same W _ j _ _ _ L HLL.out (by have := HM.out; omega) hk (K7.out.below h (Nat.le_refl _)))
      have HINa := Lib.hid (HIN.out _ rfl)
      have HINb := Lib.hid (HIN.out j (by omega))
      have hk0 : 0 ≤ (k : Int) := by omega
      have hk1 : (k : Int) ≤ (j : Int) := by omega
      go_region_held3 (fun _ : World => True) (first | exact trivial) (first
        | (go_at_call 12; (with_reducible refine HAL.out.mono ?_); rintro e w8 ⟨g8, rfl, _, o8, b8⟩; have B8 := Lib.hid (show Below w7.heap.size w7 w8 from (below_drewN (Below.refl w7.heap.size w7) 1).trans b8); have O8 := Lib.hid (show Own w8 w7.heap.size (.slice (some ⟨g8, 0, none⟩) k k) Y from o8); clear o8 b8)
        | (go_at_call 12; (with_reducible refine (HA2.out _ B8.out).mono ?_); rintro e w9 ⟨g9, rfl, _, o9, b9⟩; have B9 := Lib.hid (B8.out.trans (b9.mono B8.out.size)); have O89 := Lib.hid (O8.out.below b9 (Nat.le_refl _)); have K9 := Lib.hid (Own.kin o9); clear o9 b9)
        | ((refine step_append_any (by rfl) _ _ _ (by rfl) w7.heap.size 3 i0 _ 1 8 Tryd.underlying22 HI.out HZ0.out HZ1.out HZ2.out rfl (by omega) g8 k k (icells Y) (by rfl) (Own.at O89.out HL1.out) ⟨g9, 0, none⟩ (j - k) _ (icells V) (by rfl) HLV.out (kin_src K9.out) (all_one _) HMX.out.1 HMX.out.2 B9.out.size ?_; intro gg capz wz hownz hgrowz; have BZ := Lib.hid (below1 B9.out rfl O89.out hgrowz); have KZ := Lib.hid (Own.kin (own_two HLT.out hownz)); clear hownz hgrowz))
        | (go_at_call 11; (with_reducible refine (HINa.out _ BZ.out _ _ KZ.out).mono ?_); rintro e wy ⟨rfl, ky, rfl⟩; have BY := Lib.hid (below_drewN BZ.out ky))
        | (go_at_call 11; (with_reducible refine (HINb.out _ BZ.out _ _ KZ.out).mono ?_); rintro e wy ⟨rfl, ky, rfl⟩; have BY := Lib.hid (below_drewN BZ.out ky)))
      go_wp2_with (fail)
      refine bodyPost_ret (results_tmp rfl _ _ _) rfl ?_
      exact ⟨rfl, B7.out.trans (BY.out.mono B7.out.size)⟩
theorem walk (w : World) (A : Option Addr) (n c : Nat) (zs : List Int) (split : Int) (hz : zs.length = n) (hA : KIn .i64 w A zs) (fz : FitL zs) (hcap : n ≤ c) (hp : GOn w) :
    Calls Tryd.prog 5 #[.slice A n c, .int .i64 split] w fun e w' => e = .returned (.bool true) ∧ Below w.heap.size w w' := by
  by_cases h : 40 < n
  · exact walk_out w A n c split hp h
  · exact walk_in w A n c zs split hz hA fz hcap hp (by omega)
end Go.Proofs.YtfpdlcblaodflaaDoor.actAll
