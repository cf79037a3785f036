/-
  Package norm: Of and Plain. Conditions: the rows' numbers are there, at most a million.
-/
import Derived.Test.YtgoeaepjffimgaaNr1
namespace Go.Proofs.Ytgoeaepjffimgaa
open Go.ChangeShapes Go.WideShapes Go.ChangeAt Go.RowKit Nm Vc Nr

namespace Nr
theorem kin_zero {w : World} {g n : Nat} {t : TypeId} (h : w.rowIs g t n fun _ => .int .i64 0) : KIn .i64 w (some ⟨g, 0, none⟩) (zeroL n) := fun _ =>
  ⟨g, 0, rfl, fun i hi => by
    rw [zeroL_length] at hi
    rw [Nat.zero_add, h.cell hi, zeroL_at]⟩
end Nr
section
variable (w : World) (G : Option Addr) (m d : Nat) (gs : List Int) (A : Option Addr) (n c : Nat) (zs : List Int)
set_option maxRecDepth 100000 in
set_option maxHeartbeats 1600000 in
theorem norm_of_not (hg : gs.length = m) (hz : zs.length = n) (h : m ≠ n) :
    Calls Try.prog 10 #[.slice G m d, .slice A n c] w (RowSays w (fun v => v) (ofL gs zs)) := by
  rw [ofL_not (by omega)]
  have t0 : ((m : Int) != (n : Int)) = true := by
    rw [bne_iff_ne]
    omega
  clear hg hz h
  go_enter Try.func10, Try.ntmps10
  go_wp2_with (fail)
  refine bodyPost_ret (results_tmp rfl _ _ _) rfl ?_
  exact ⟨none, 0, rfl, KIn.nil _ _ _, Below.refl _ _⟩
set_option maxRecDepth 100000 in
set_option maxHeartbeats 1600000 in
theorem norm_of_same (hg : gs.length = n) (hz : zs.length = n) (hm : n ≤ 1000000) (hG : KIn .i64 w G gs) (hA : KIn .i64 w A zs) :
    Calls Try.prog 10 #[.slice G n d, .slice A n c] w (RowSays w (fun v => v) (ofL gs zs)) := by
  rw [ofL_same (by omega)]
  have HA := Lib.hid hA
  have HG := Lib.hid hG
  obtain ⟨i0, hi, hz0, hz1, hz2⟩ := info_parts info_int
  have HI := Lib.hid hi
  have HZ0 := Lib.hid hz0
  have HZ1 := Lib.hid hz1
  have HZ2 := Lib.hid hz2
  have HZL := Lib.hid hz
  have HGL := Lib.hid hg
  have HLR := Lib.hid ((normL_length gs zs).trans hz)
  have HAT := Lib.hid (fun i (h : i < n) => normL_at gs zs i (by omega))
  have HRT := Lib.hid (root_in zs (by omega))
  have HRO := Lib.hid (norm_root w A n c zs hz hm hA)
  clear hi hz0 hz1 hz2 hA hG hz hg
  have t0 : ((n : Int) != (n : Int)) = false := by simp
  generalize normL gs zs = R at HLR HAT ⊢
  generalize rootL zs = r at HRT HAT HRO
  go_enter Try.func10, Try.ntmps10
  go_wp2_with (fail)
  refine HRO.out.mono ?_
  rintro e w1 ⟨rfl, b1⟩
  have B1 := Lib.hid b1
  clear b1 HRO
  go_wp2_with (at_make; refine wpList_make_row _ rfl _ _ 22 rfl 3 i0 (.int .i64 0) Try.underlying22 HI.out HZ0.out HZ1.out rfl .i64 .i64 n rfl rfl (by rw [HZ2.out]; omega) (by omega) ?_)
  have HR0 := Lib.hid (show (w1.alloc (.cells (madeCells #[.int .i64 0] n) 3)).rowIs w1.heap.size 3 n (prt .i64 R 0) from (World.rowIs_made w1 (.int .i64 0) n 3).congr fun i _ => by rw [prt_none])
  have HB0 := Lib.hid (B1.out.alloc B1.out.size (.cells (madeCells #[.int .i64 0] n) 3))
  have HGE := Lib.hid B1.out.size
  clear B1
  go_loopw [22] (fun i wr => ∃ j : Nat, i = .int .i64 (j : Int) ∧ j ≤ n ∧ wr.rowIs w1.heap.size 3 n (prt .i64 R j) ∧ Below w.heap.size w wr) (fun i _ => match i with | .int _ k => n - k.toNat | _ => 0)
  case atStart => exact ⟨0, rfl, Nat.zero_le _, HR0.out, HB0.out⟩
  case round =>
    clear HR0 HB0
    obtain ⟨j, rfl, hj, hr, hb⟩ := hrel
    have HR := Lib.hid hr
    have HB := Lib.hid hb
    clear hr hb
    have x2 : 0 ≤ (j : Int) := by omega
    by_cases hlt : j < n
    · have x0 : (j : Int) < (n : Int) := by omega
      have x1 : decide ((j : Int) < (n : Int)) = true := decide_eq_true x0
      have HJ := Lib.hid (show j + 1 ≤ n by omega)
      have HXJ := Lib.hid (HAT.out j hlt)
      have HPI := Lib.hid (prod_in (zs.getD j 0) (gs.getD j 0))
      have HGI := Lib.hid (gain_in (gs.getD j 0))
      have HQI := Lib.hid (quo_in (r := r) HPI.out)
      obtain ⟨pb, po, rfl, hcell⟩ := (HA.out.below HB.out (Nat.le_refl _)).at (show j < zs.length by rw [HZL.out]; exact hlt)
      obtain ⟨pg, pu, rfl, hgell⟩ := (HG.out.below HB.out (Nat.le_refl _)).at (show j < gs.length by rw [HGL.out]; exact hlt)
      generalize zs.getD j 0 = z at hcell HXJ HPI HQI
      generalize gs.getD j 0 = g at hgell HXJ HPI HQI HGI
      unfold one gain at HXJ
      unfold gain at HPI HQI HGI
      go_wp2_with (fail)
      refine (clamp_any g (-128) 127 wr).mono ?_
      rintro e w2 ⟨rfl, rfl⟩
      generalize clamp g (-128) 127 = k at HXJ HPI HQI HGI ⊢
      have W1 := Lib.hid (IntWalk.wrap64_in (64 + k) (by have := HGI.out; omega))
      go_wp2_with (fail)
      refine (sat_any z wr).mono ?_
      rintro e w2 ⟨rfl, rfl⟩
      rw [W1.out]
      generalize sat z = y at HXJ HPI HQI ⊢
      have W2 := Lib.hid (IntWalk.wrap64_in (y * (64 + k)) (by have := HPI.out; omega))
      have W3 := Lib.hid (IntWalk.wrap64_in ((y * (64 + k)).tdiv r) (by have := HQI.out; omega))
      have r0 : ¬ r = 0 := by have := HRT.out; omega
      have r1 : ¬ r = -1 := by have := HRT.out; omega
      have f1 := HR.out.frozen j
      have c1 := HR.out.cell hlt
      have HP := Lib.hid (prt_set HR.out (rfl : R.getD j 0 = R.getD j 0))
      have HBS := Lib.hid (HB.out.setCell (p := ⟨w1.heap.size, j, none⟩) HGE.out (.int .i64 (R.getD j 0)))
      have x3 := IntWalk.wrap64_in ((j : Int) + 1) (by omega)
      go_wp2_with (fail)
      rw [W2.out, W3.out]
      refine (sat_any _ wr).mono ?_
      rintro e w2 ⟨rfl, rfl⟩
      rw [← HXJ.out]
      generalize R.getD j 0 = q at HP HBS ⊢
      go_wp2_with (fail)
      exact ⟨⟨j + 1, rfl, HJ.out, HP.out, HBS.out⟩, vc_less j n hlt⟩
    · have hke : j = n := by omega
      have x0 : ¬ (j : Int) < (n : Int) := by omega
      have x1 : decide ((j : Int) < (n : Int)) = false := decide_eq_false x0
      rw [hke] at HR
      have HK := Lib.hid (show KIn .i64 wr (some ⟨w1.heap.size, 0, none⟩) R from KIn.row (HR.out.congr fun i hi => prt_all _ _ _ _ hi) (Nat.le_of_eq HLR.out))
      clear HAT HRT hke hlt
      go_wp2_with (fail)
      refine bodyPost_ret (results_tmp rfl _ _ _) rfl ?_
      exact ⟨some ⟨w1.heap.size, 0, none⟩, n, by rw [HLR.out]; rfl, HK.out, HB.out⟩
theorem norm_of (hg : gs.length = m) (hz : zs.length = n) (hm : n ≤ 1000000) (hG : KIn .i64 w G gs) (hA : KIn .i64 w A zs) :
    Calls Try.prog 10 #[.slice G m d, .slice A n c] w (RowSays w (fun v => v) (ofL gs zs)) := by
  by_cases h : m = n
  · subst h
    exact norm_of_same w G d gs A m c zs hg hz hm hG hA
  · exact norm_of_not w G m d gs A n c zs hg hz h
set_option maxRecDepth 100000 in
set_option maxHeartbeats 1600000 in
theorem norm_plain (hz : zs.length = n) (hm : n ≤ 1000000) (hA : KIn .i64 w A zs) :
    Calls Try.prog 12 #[.slice A n c] w (RowSays w (fun v => v) (plain zs)) := by
  obtain ⟨i0, hi, hz0, hz1, hz2⟩ := info_parts info_int
  have HI := Lib.hid hi
  have HZ0 := Lib.hid hz0
  have HZ1 := Lib.hid hz1
  have HZ2 := Lib.hid hz2
  have HB0 := Lib.hid ((Below.refl w.heap.size w).alloc (Nat.le_refl _) (.cells (madeCells #[.int .i64 0] n) 3))
  have HOF := Lib.hid (fun d => norm_of_same (w.alloc (.cells (madeCells #[.int .i64 0] n) 3)) (some ⟨w.heap.size, 0, none⟩) d (zeroL n) A n c zs (zeroL_length n) hz hm (kin_zero (World.rowIs_made w (.int .i64 0) n 3)) (hA.below HB0.out (Nat.le_refl _)))
  rw [ofL_same (by rw [zeroL_length, hz])] at HOF
  unfold plain
  rw [hz]
  clear hi hz0 hz1 hz2 hA hz
  generalize normL (zeroL n) zs = R at HOF ⊢
  go_enter Try.func12, Try.ntmps12
  go_wp2_with (at_make; refine wpList_make_row _ rfl _ _ 22 rfl 3 i0 (.int .i64 0) Try.underlying22 HI.out HZ0.out HZ1.out rfl .i64 .i64 n rfl rfl (by rw [HZ2.out]; omega) (by omega) ?_)
  refine (HOF.out _).mono ?_
  rintro e w2 ⟨X, cx, rfl, hk, hb⟩
  have HK := Lib.hid hk
  have HB := Lib.hid (HB0.out.trans (hb.mono HB0.out.size))
  clear hk hb
  go_wp2_with (fail)
  refine bodyPost_ret (results_tmp rfl _ _ _) rfl ?_
  exact ⟨X, cx, rfl, HK.out, HB.out⟩
end
end Go.Proofs.Ytgoeaepjffimgaa
