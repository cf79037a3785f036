/-
  Package act: Pairs, All. Conditions: the table lies where the program looks; the rows' numbers are there, such as an int holds, at most a million.
  The document's Gate and Pairs of layer 14. Conditions: the rows' numbers are there, at most 4096.
-/
import Derived.Test.YtkdkeokldcehhaaGreatDoorMg10
import Derived.Test.YtkdkeokldcehhaaGreatDoorMg6
import Derived.Test.YtkdkeokldcehhaaGreatDoorMg17
set_option maxRecDepth 100000
namespace Go.Proofs.YtkdkeokldcehhaaGreatDoor
open Go.ChangeShapes Go.WideShapes Go.ChangeAt Go.RowKit Nm Vc Ac

namespace Ac
/-- A row that is made whole is one's own. -/
theorem own_row {w : World} {g n base : Nat} {R : List Int} (hl : R.length = n) (hn : n ≤ 1000000) (hb : base ≤ g) (h : w.rowIs g 3 n (fun i => .int .i64 (R.getD i 0))) : Own w base (.slice (some ⟨g, 0, none⟩) n n) R := by
  obtain ⟨c, h1, h2, h3⟩ := h
  unfold Own
  rw [hl]
  refine ⟨by rw [icells_length, hl, Nat.mul_one], .inr ⟨g, n, c, rfl, hb, h1, Nat.le_refl _, by unfold maxLen; omega, by rw [h2, Nat.mul_one], ?_⟩⟩
  rw [Nat.mul_one, List.take_of_length_le (by rw [Array.length_toList, h2]; exact Nat.le_refl _)]
  apply List.ext_getElem?
  intro i
  rw [Array.getElem?_toList]
  by_cases hi : i < n
  · rw [h3 i hi, icells_at R i (by omega)]
  · rw [List.getElem?_eq_none (by rw [icells_length]; omega), Array.getElem?_eq_none (by omega)]
/-- What a call answers that makes a row of its own. -/
def OwnSays (w : World) (n : Nat) (R : List Int) (e : Ending) (w' : World) : Prop := ∃ g, e = .returned (.slice (some ⟨g, 0, none⟩) n n) ∧ w.heap.size ≤ g ∧ Own w' w.heap.size (.slice (some ⟨g, 0, none⟩) n n) R ∧ Below w.heap.size w w'
theorem OwnSays.row {w w' : World} {n : Nat} {R : List Int} {e : Ending} (hl : R.length = n) (h : OwnSays w n R e w') : RowSays w (fun v => v) R e w' := by
  obtain ⟨g, rfl, _, ho, hb⟩ := h
  exact ⟨_, n, by rw [hl], Own.kin ho, hb⟩
end Ac
section
variable (w : World) (G : Option Addr) (m d : Nat) (gs : List Int) (A : Option Addr) (n c : Nat) (zs : List Int)
set_option maxRecDepth 100000 in
set_option maxHeartbeats 1600000 in
theorem act_pairs_not (hg : gs.length = m) (hz : zs.length = n) (h : m ≠ n) :
    Calls Tryz.prog 94 #[.slice G m d, .slice A n c] w (RowSays w (fun v => v) (pairsL gs zs)) := by
  rw [pairsL_not (by omega)]
  have t0 : ((m : Int) != (n : Int)) = true := by
    rw [bne_iff_ne]
    omega
  clear hg hz h
  go_enter Tryz.func94, Tryz.ntmps94
  go_wp2_with (fail)
  refine bodyPost_ret (results_tmp rfl _ _ _) rfl ?_
  exact ⟨none, 0, rfl, KIn.nil _ _ _, Below.refl _ _⟩
set_option maxRecDepth 100000 in
set_option maxHeartbeats 1600000 in
theorem act_pairs_same (hg : gs.length = n) (hz : zs.length = n) (hm : n ≤ 1000000) (hG : KIn .i64 w G gs) (hA : KIn .i64 w A zs) (hf : FitL gs) (hp : GOn w) :
    Calls Tryz.prog 94 #[.slice G n d, .slice A n c] w (OwnSays w n (pairsL gs zs)) := by
  have HA := Lib.hid hA
  have HG := Lib.hid hG
  obtain ⟨i0, hi, hz0, hz1, hz2⟩ := info_parts info_int
  have HI := Lib.hid hi
  have HZ0 := Lib.hid hz0
  have HZ1 := Lib.hid hz1
  have HZ2 := Lib.hid hz2
  have HZL := Lib.hid hz
  have HGL := Lib.hid hg
  have HLR := Lib.hid ((pairsL_length (gs := gs) (zs := zs) (by omega)).trans hz)
  have HAT := Lib.hid (fun i (h : i < n) => pairsL_at (gs := gs) (zs := zs) (by omega) i (by omega))
  have HF := Lib.hid (fun i (h : i < n) => hf i (by omega))
  have HP := Lib.hid hp
  have HM := Lib.hid hm
  clear hi hz0 hz1 hz2 hA hG hz hg hf hp
  have t0 : ((n : Int) != (n : Int)) = false := by simp
  generalize pairsL gs zs = R at HLR HAT ⊢
  go_enter Tryz.func94, Tryz.ntmps94
  go_wp2_with (at_make; refine wpList_make_row _ rfl _ _ 45 rfl 3 i0 (.int .i64 0) Tryz.underlying45 HI.out HZ0.out HZ1.out rfl .i64 .i64 n rfl rfl (by rw [HZ2.out]; omega) (by omega) ?_)
  have HR0 := Lib.hid (show (w.alloc (.cells (madeCells #[.int .i64 0] n) 3)).rowIs w.heap.size 3 n (prt .i64 R 0) from (World.rowIs_made w (.int .i64 0) n 3).congr fun i _ => by rw [prt_none])
  have HB0 := Lib.hid ((Below.refl w.heap.size w).alloc (Nat.le_refl _) (.cells (madeCells #[.int .i64 0] n) 3))
  go_loopw [18] (fun i wr => ∃ j : Nat, i = .int .i64 (j : Int) ∧ j ≤ n ∧ wr.rowIs w.heap.size 3 n (prt .i64 R j) ∧ Below w.heap.size w wr) (fun i _ => match i with | .int _ k => n - k.toNat | _ => 0)
  case atStart => exact ⟨0, rfl, Nat.zero_le _, HR0.out, HB0.out⟩
  case round =>
    clear HR0 HB0
    obtain ⟨j, rfl, hj, hr, hb⟩ := hrel
    have HR := Lib.hid hr
    have HB := Lib.hid hb
    clear hr hb
    have x2 : 0 ≤ (j : Int) := by omega
    by_cases hlt : j < n
    · have x0 : (j : Int) < (n : Int) := by omega
      have x1 : decide ((j : Int) < (n : Int)) = true := decide_eq_true x0
      have HJ := Lib.hid (show j + 1 ≤ n by omega)
      have HXJ := Lib.hid (HAT.out j hlt)
      have HFJ := Lib.hid (HF.out j hlt)
      obtain ⟨pb, po, rfl, hcell⟩ := (HA.out.below HB.out (Nat.le_refl _)).at (show j < zs.length by rw [HZL.out]; exact hlt)
      obtain ⟨pg, pu, rfl, hgell⟩ := (HG.out.below HB.out (Nat.le_refl _)).at (show j < gs.length by rw [HGL.out]; exact hlt)
      generalize zs.getD j 0 = z at hcell HXJ
      generalize gs.getD j 0 = g at hgell HXJ HFJ
      have HT := Lib.hid (act_through g z wr HFJ.out (HP.out.below HB.out (Nat.le_refl _)))
      rw [← HXJ.out] at HT
      go_wp2_with (fail)
      refine HT.out.mono ?_
      rintro e w2 ⟨rfl, k, rfl⟩
      have HR2 := Lib.hid (HR.out.of_block (w' := wr.drewN k) rfl)
      have HB2 := Lib.hid (below_drewN HB.out k)
      clear HR HB HT
      generalize wr.drewN k = wk at HR2 HB2 ⊢
      have f1 := HR2.out.frozen j
      have c1 := HR2.out.cell hlt
      have HPS := Lib.hid (prt_set HR2.out (rfl : R.getD j 0 = R.getD j 0))
      have HBS := Lib.hid (HB2.out.setCell (p := ⟨w.heap.size, j, none⟩) (Nat.le_refl _) (.int .i64 (R.getD j 0)))
      have x3 := IntWalk.wrap64_in ((j : Int) + 1) (by omega)
      generalize R.getD j 0 = q at HPS HBS ⊢
      go_wp2_with (fail)
      exact ⟨⟨j + 1, rfl, HJ.out, HPS.out, HBS.out⟩, vc_less j n hlt⟩
    · have hke : j = n := by omega
      have x0 : ¬ (j : Int) < (n : Int) := by omega
      have x1 : decide ((j : Int) < (n : Int)) = false := decide_eq_false x0
      rw [hke] at HR
      have HK := Lib.hid (show Own wr w.heap.size (.slice (some ⟨w.heap.size, 0, none⟩) n n) R from own_row HLR.out HM.out (Nat.le_refl _) (HR.out.congr fun i hi => prt_all _ _ _ _ hi))
      clear HAT HF hke hlt
      go_wp2_with (fail)
      refine bodyPost_ret (results_tmp rfl _ _ _) rfl ?_
      exact ⟨w.heap.size, rfl, Nat.le_refl _, HK.out, HB.out⟩
theorem act_pairs (hg : gs.length = m) (hz : zs.length = n) (hm : n ≤ 1000000) (hG : KIn .i64 w G gs) (hA : KIn .i64 w A zs) (hf : FitL gs) (hp : GOn w) :
    Calls Tryz.prog 94 #[.slice G m d, .slice A n c] w (RowSays w (fun v => v) (pairsL gs zs)) := by
  by_cases h : m = n
  · subst h
    exact (act_pairs_same w G d gs A m c zs hg hz hm hG hA hf hp).mono fun e w' h => h.row ((pairsL_length (by omega)).trans hz)
  · exact act_pairs_not w G m d gs A n c zs hg hz h
end
end Go.Proofs.YtkdkeokldcehhaaGreatDoor
namespace Go.Proofs.YtkdkeokldcehhaaGreatDoor
open Go.ChangeShapes Go.WideShapes Go.ChangeAt Go.RowKit Nm Vc Ac

namespace Ac
def tabA : Array Value := #[.int .i64 5, .int .i64 8, .int .i64 12, .int .i64 19, .int .i64 31, .int .i64 47, .int .i64 69, .int .i64 97, .int .i64 128, .int .i64 159, .int .i64 187, .int .i64 209, .int .i64 225, .int .i64 237, .int .i64 244, .int .i64 248, .int .i64 251]
theorem tabA_at (r : Nat) (h : r < 17) : tabA[r]? = some (.int .i64 (tabZ r)) := by
  rcases (show r = 0 ∨ r = 1 ∨ r = 2 ∨ r = 3 ∨ r = 4 ∨ r = 5 ∨ r = 6 ∨ r = 7 ∨ r = 8 ∨ r = 9 ∨ r = 10 ∨ r = 11 ∨ r = 12 ∨ r = 13 ∨ r = 14 ∨ r = 15 ∨ r = 16 by omega) with rfl | rfl | rfl | rfl | rfl | rfl | rfl | rfl | rfl | rfl | rfl | rfl | rfl | rfl | rfl | rfl | rfl <;> rfl
theorem tab_cell (w : World) (b r : Nat) (hb : w.heap.size = b) (h : r < 17) : (w.alloc (.cells tabA 127)).cell? ⟨b, r, none⟩ = some (.int .i64 (tabZ r)) := by
  subst hb
  rw [cell_of_row _ _ _ _ _ _ (heap_alloc_new w _), tabA_at r h]
end Ac
set_option maxRecDepth 100000 in
set_option maxHeartbeats 1600000 in
theorem ref14_gate (n : Int) (w : World) :
    Calls Tryz.prog 75 #[.int .i64 n] w fun e w' => e = .returned (.int .i64 (gate n)) ∧ Below w.heap.size w w' := by
  have HB0 := Lib.hid ((Below.refl w.heap.size w).alloc (Nat.le_refl _) (.cells tabA 127))
  have HD := Lib.hid (fun W => rdiv_any (clamp n (-100000) 100000) 32 W (refClamp_fits n))
  have HI := Lib.hid (refDiv_in n)
  have HC := Lib.hid (fun W => place_ref n ▸ rclamp_any (div (clamp n (-100000) 100000) 32 + 8) 0 16 W)
  have hc := tab_cell w _ (placeN n) rfl (place_lt n)
  have hlt := place_lt n
  unfold gate
  unfold tabA at HB0 hc
  generalize tabZ (placeN n) = t at hc ⊢
  generalize placeN n = p at hc HC hlt
  have W1 := Lib.hid (IntWalk.wrap64_in (div (clamp n (-100000) 100000) 32 + 8) (by have := HI.out; omega))
  go_enter Tryz.func75, Tryz.ntmps75
  go_wp2_with (fail)
  refine (rclamp_any n (-100000) 100000 _).mono ?_
  rintro e w1 ⟨rfl, rfl⟩
  go_wp2_with (fail)
  refine (HD.out _).mono ?_
  rintro e w1 ⟨rfl, rfl⟩
  go_wp2_with (fail)
  rw [W1.out]
  refine (HC.out _).mono ?_
  rintro e w1 ⟨rfl, rfl⟩
  have h0 : 0 ≤ (p : Int) := by omega
  have h1 : (p : Int) < 17 := by omega
  go_wp2_with (fail)
  refine bodyPost_ret (results_tmp rfl _ _ _) rfl ?_
  exact ⟨rfl, HB0.out⟩
section
variable (w : World) (G : Option Addr) (m d : Nat) (gs : List Int) (A : Option Addr) (n c : Nat) (zs : List Int)
set_option maxRecDepth 100000 in
set_option maxHeartbeats 1600000 in
theorem ref14_pairs_not (hg : gs.length = m) (hz : zs.length = n) (h : m ≠ n) :
    Calls Tryz.prog 40 #[.slice G m d, .slice A n c] w (RowSays w (fun v => v) (pairsL gs zs)) := by
  rw [pairsL_not (by omega)]
  have t0 : ((m : Int) == (n : Int)) = false := beq_eq_false_iff_ne.2 (by omega)
  obtain ⟨i0, hi, hz0, hz1, hz2⟩ := info_parts info_int
  have HI := Lib.hid hi
  have HB0 := Lib.hid ((Below.refl w.heap.size w).alloc (Nat.le_refl _) (.cells #[] 3))
  clear hg hz h hi hz0 hz1 hz2
  go_enter Tryz.func40, Tryz.ntmps40
  go_wp2_with (refine wpList_buildNone rfl 45 3 rfl i0 Tryz.underlying45 HI.out ?_)
  go_loopw [5, 6] (fun l i wr => ∃ X, i = .int .i64 0 ∧ l = .slice X 0 0 ∧ Below w.heap.size w wr) (fun _ _ _ => 0)
  case atStart => exact ⟨_, rfl, rfl, HB0.out⟩
  case round =>
    clear HB0
    obtain ⟨X, rfl, rfl, hb⟩ := hrel
    have HB := Lib.hid hb
    clear hb
    go_wp2_with (fail)
    refine bodyPost_ret (results_tmp rfl _ _ _) rfl ?_
    exact ⟨X, 0, rfl, KIn.nil _ _ _, HB.out⟩
set_option maxRecDepth 100000 in
set_option maxHeartbeats 1600000 in
theorem ref14_pairs_same (hg : gs.length = n) (hz : zs.length = n) (hm : n ≤ 4096) (hG : KIn .i64 w G gs) (hA : KIn .i64 w A zs) :
    Calls Tryz.prog 40 #[.slice G n d, .slice A n c] w (fun e w' => ∃ X q, e = .returned (.slice X n q) ∧ Own w' w.heap.size (.slice X n q) (pairsL gs zs) ∧ Below w.heap.size w w') := by
  have HA := Lib.hid hA
  have HG := Lib.hid hG
  obtain ⟨i0, hi, hz0, hz1, hz2⟩ := info_parts info_int
  have HI := Lib.hid hi
  have HZ0 := Lib.hid hz0
  have HZ1 := Lib.hid hz1
  have HZ2 := Lib.hid hz2
  have HZL := Lib.hid hz
  have HGL := Lib.hid hg
  have HLR := Lib.hid ((pairsL_length (gs := gs) (zs := zs) (by omega)).trans hz)
  have HAT := Lib.hid (fun i (h : i < n) => pairsL_at (gs := gs) (zs := zs) (by omega) i (by omega))
  have HB0 := Lib.hid ((Below.refl w.heap.size w).alloc (Nat.le_refl _) (.cells #[] 3))
  have HO0 := Lib.hid (Own.new w w.heap.size (Nat.le_refl _))
  have t0 : ((n : Int) == (n : Int)) = true := by simp
  generalize pairsL gs zs = R at HLR HAT ⊢
  have HO1 := Lib.hid (show Own (w.alloc (.cells #[] 3)) w.heap.size (.slice (some ⟨w.heap.size, 0, none⟩) 0 0) (R.take 0) from HO0.out)
  have HAL := Lib.hid (fun h0 => (HA.out.low (show 0 < zs.length from h0)))
  have HGLo := Lib.hid (fun h0 => (HG.out.low (show 0 < gs.length from h0)))
  clear HO0 hi hz0 hz1 hz2 hA hG hz hg
  go_enter Tryz.func40, Tryz.ntmps40
  go_wp2_with (refine wpList_buildNone rfl 45 3 rfl i0 Tryz.underlying45 HI.out ?_)
  go_loopw [5, 6] (fun l i wr => ∃ (j : Nat) (X : Option Addr) (q : Nat), i = .int .i64 (j : Int) ∧ j ≤ n ∧ l = .slice X j q ∧ Own wr w.heap.size l (R.take j) ∧ Below w.heap.size w wr) (fun _ i _ => match i with | .int _ k => n - k.toNat | _ => 0)
  case atStart => exact ⟨0, _, 0, rfl, Nat.zero_le _, rfl, HO1.out, HB0.out⟩
  case round =>
    clear HB0 HO1
    obtain ⟨j, X, q, rfl, hj, rfl, ho, hb⟩ := hrel
    have HO := Lib.hid ho
    have HB := Lib.hid hb
    clear ho hb
    have x2 : 0 ≤ (j : Int) := by omega
    by_cases hlt : j < n
    · have x0 : (j : Int) < (n : Int) := by omega
      have x1 : decide ((j : Int) < (n : Int)) = true := decide_eq_true x0
      have HJ := Lib.hid (show j + 1 ≤ n by omega)
      have HMJ := Lib.hid (app_small HJ.out hm)
      have HXJ := Lib.hid (HAT.out j hlt)
      have HRN := Lib.hid (take_more R j (by rw [HLR.out]; exact hlt))
      have HOL := Lib.hid (show (R.take j).length = j by rw [List.length_take, HLR.out]; omega)
      have hlz : j < zs.length := by rw [HZL.out]; exact hlt
      have hlg : j < gs.length := by rw [HGL.out]; exact hlt
      obtain ⟨pa, oa, rfl, hcA⟩ := HA.out.at hlz
      obtain ⟨pg, og, rfl, hcG⟩ := HG.out.at hlg
      have hpa : pa < w.heap.size := HAL.out (Nat.lt_of_le_of_lt (Nat.zero_le _) hlz) _ rfl
      have hpg : pg < w.heap.size := HGLo.out (Nat.lt_of_le_of_lt (Nat.zero_le _) hlg) _ rfl
      generalize zs.getD j 0 = z at hcA HXJ
      generalize gs.getD j 0 = g at hcG HXJ
      unfold thr at HXJ
      rw [HXJ.out] at HRN
      have HK := Lib.hid (fun (W : World) (h : Below w.heap.size w W) => show W.cell? ⟨pa, oa + j, none⟩ = some (.int .i64 z) ∧ W.cell? ⟨pg, og + j, none⟩ = some (.int .i64 g) from
        ⟨(h.cell (p := ⟨pa, oa + j, none⟩) hpa).trans hcA, (h.cell (p := ⟨pg, og + j, none⟩) hpg).trans hcG⟩)
      have k0 := HK.out _ HB.out
      have hc1 := k0.1
      have hc2 := k0.2
      clear HXJ hcA hcG hpa hpg
      have HBD := Lib.hid (below_drewN HB.out 1)
      have HOD := Lib.hid (show Own wr.drew w.heap.size (.slice X j q) (R.take j) from HO.out)
      generalize R.take j = L0 at HOD HRN HOL HO
      have HGT := Lib.hid (ref14_gate g)
      generalize gate g = y at HGT HRN
      have k0' : wr.drew.cell? ⟨pa, oa + j, none⟩ = some (.int .i64 z) ∧ wr.drew.cell? ⟨pg, og + j, none⟩ = some (.int .i64 g) := k0
      have HMU := Lib.hid (fun W => rmul_any z y 8 W)
      generalize mul z y 8 = v at HRN HMU
      go_wp2_with (fail)
      go_region_held3 (fun W : World => W.cell? ⟨pa, oa + j, none⟩ = some (.int .i64 z) ∧ W.cell? ⟨pg, og + j, none⟩ = some (.int .i64 g)) (first | exact k0' | assumption | exact HK.out _ (B5.out.alloc B5.out.size _) | exact HK.out _ (below_grew B5.out rfl O5.out _ hgrow)) (first
        | (go_at_call 75; (with_reducible refine (HGT.out _).mono ?_); rintro e w5 ⟨rfl, b5⟩; have B5 := Lib.hid (HBD.out.trans (b5.mono HBD.out.size)); have hs5 := HK.out _ B5.out; have O5 := Lib.hid (HOD.out.below b5 (Nat.le_refl _)); clear b5)
        | (go_at_call 74; (with_reducible refine (HMU.out _).mono ?_); rintro e w6 ⟨rfl, rfl⟩)
        | ((refine step_append_lies _ (by rfl) _ _ _ (by rfl) w.heap.size 3 i0 _ 1 8 Tryz.underlying45 HI.out HZ0.out HZ1.out HZ2.out rfl (by omega) (.slice X j q) j (icells L0) (by rfl) ((Own.at O5.out HOL.out).alloc _) ⟨w5.heap.size, 0, none⟩ 1 1 [.int .i64 v] (by rfl) (by rfl) (one_src w5 _) (one_one _) (by omega) HMJ.out.1 HMJ.out.2 (base_le B5.out rfl _) _ rfl ?_; intro gg cap wz hownz hgrow hat hltz)))
      have HON := Lib.hid (Own.grew HOL.out hownz)
      have HBN := Lib.hid (below_grew B5.out rfl O5.out _ hgrow)
      rw [← HRN.out] at HON
      clear hownz hgrow hat hltz
      have x3 := IntWalk.wrap64_in ((j : Int) + 1) (by omega)
      go_wp2_with (fail)
      exact ⟨⟨j + 1, _, cap, rfl, HJ.out, rfl, HON.out, HBN.out⟩, vc_less j n hlt⟩
    · have hke : j = n := by omega
      have x0 : ¬ (j : Int) < (n : Int) := by omega
      have x1 : decide ((j : Int) < (n : Int)) = false := decide_eq_false x0
      have HTT := Lib.hid (show R.take j = R from List.take_of_length_le (by rw [HLR.out]; omega))
      rw [HTT.out] at HO
      clear HAT
      subst hke
      go_wp2_with (fail)
      refine bodyPost_ret (results_tmp rfl _ _ _) rfl ?_
      exact ⟨X, q, rfl, HO.out, HB.out⟩
theorem ref14_pairs (hg : gs.length = m) (hz : zs.length = n) (hm : n ≤ 4096) (hG : KIn .i64 w G gs) (hA : KIn .i64 w A zs) :
    Calls Tryz.prog 40 #[.slice G m d, .slice A n c] w (RowSays w (fun v => v) (pairsL gs zs)) := by
  by_cases h : m = n
  · subst h
    exact (ref14_pairs_same w G d gs A m c zs hg hz hm hG hA).mono fun e w' ⟨X, q, he, ho, hb⟩ => ⟨X, q, by rw [he, pairsL_length (by omega), hz], Own.kin ho, hb⟩
  · exact ref14_pairs_not w G m d gs A n c zs hg hz h
end
end Go.Proofs.YtkdkeokldcehhaaGreatDoor
