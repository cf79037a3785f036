/-
  The document's Root and Of of layer 13. Conditions: the rows' numbers are there, at most 4096.
-/
import Derived.Test.YtkdkeokldcehhaaGreatDoorMg9
import Derived.Test.YtkdkeokldcehhaaGreatDoorMg17
import Derived.Test.YtkdkeokldcehhaaGreatDoorMg6
set_option maxRecDepth 100000
namespace Go.Proofs.YtkdkeokldcehhaaGreatDoor
open Go.ChangeShapes Go.WideShapes Go.ChangeAt Go.RowKit Nm Vc Nr
open Sf (total total_next total_all)

set_option maxRecDepth 100000 in
set_option maxHeartbeats 1600000 in
theorem ref13_root (w : World) (A : Option Addr) (n c : Nat) (zs : List Int) (hz : zs.length = n) (hm : n ≤ 1000000) (hA : KIn .i64 w A zs) :
    Calls Tryz.prog 70 #[.slice A n c] w fun e w' => e = .returned (.int .i64 (rootL zs)) ∧ w = w' := by
  by_cases h0 : n = 0
  · subst h0
    have h1 := List.length_eq_zero_iff.1 hz
    rw [h1, root_nil]
    clear h1 hz hA
    go_enter Tryz.func70, Tryz.ntmps70
    go_wp2_with (fail)
    refine bodyPost_ret (results_tmp rfl _ _ _) rfl ?_
    exact ⟨rfl, rfl⟩
  have HA := Lib.hid hA
  have HZL := Lib.hid hz
  have HLR := Lib.hid ((sqL_length zs).trans hz)
  have HAT := Lib.hid (fun i (h : i < n) => sqL_at zs i (by omega))
  have HSQ := Lib.hid (fun i => sq_in (zs.getD i 0))
  have HST := Lib.hid (fun k => sq_take zs k (by omega))
  have HRT := Lib.hid (root_in zs (by omega))
  have HRR := Lib.hid (root_ref zs (by omega))
  have t0 : ((n : Int) == 0) = false := beq_eq_false_iff_ne.2 (by omega)
  have t1 : ¬ (n : Int) = 0 := by omega
  have t2 : ¬ (n : Int) = -1 := by omega
  rw [hz] at HRR
  clear hz hA h0
  generalize rootL zs = r at HRT HRR ⊢
  generalize sqL zs = R at HLR HAT HST HRR
  go_enter Tryz.func70, Tryz.ntmps70
  go_wp2_with (fail)
  go_loopw [3, 4] (fun s i wr => ∃ j : Nat, i = .int .i64 (j : Int) ∧ j ≤ n ∧ s = .int .i64 (total (R.take j)) ∧ w = wr) (fun _ i _ => match i with | .int _ k => n - k.toNat | _ => 0)
  case atStart => exact ⟨0, rfl, Nat.zero_le _, rfl, rfl⟩
  case round =>
    obtain ⟨j, rfl, hj, rfl, rfl⟩ := hrel
    have x2 : 0 ≤ (j : Int) := by omega
    by_cases hlt : j < n
    · have x0 : (j : Int) < (n : Int) := by omega
      have x1 : decide ((j : Int) < (n : Int)) = true := decide_eq_true x0
      have HJ := Lib.hid (show j + 1 ≤ n by omega)
      have HXJ := Lib.hid (HAT.out j hlt)
      have HQ := Lib.hid (HSQ.out j)
      have HN := Lib.hid (total_next R j (by rw [HLR.out]; exact hlt))
      have HSN := Lib.hid (HST.out (j + 1))
      rw [HXJ.out] at HN
      rw [HN.out] at HSN
      obtain ⟨pb, po, rfl, hcell⟩ := HA.out.at (show j < zs.length by rw [HZL.out]; exact hlt)
      generalize zs.getD j 0 = z at hcell HXJ HQ HN HSN
      unfold sq at HQ HN HSN
      generalize total (R.take j) = s at HN HSN ⊢
      go_wp2_with (fail)
      refine (rsat_any z w).mono ?_
      rintro e w2 ⟨rfl, rfl⟩
      have W1 := Lib.hid (IntWalk.wrap64_in (sat z * sat z) (by have := HQ.out; omega))
      have W2 := Lib.hid (IntWalk.wrap64_in (s + sat z * sat z) (by have := HSN.out; omega))
      generalize sat z = y at HN W1 W2 ⊢
      have x3 := IntWalk.wrap64_in ((j : Int) + 1) (by omega)
      go_wp2_with (fail)
      exact ⟨⟨j + 1, rfl, HJ.out, by rw [W1.out, W2.out, HN.out], by trivial⟩, vc_less j n hlt⟩
    · have hke : j = n := by omega
      have x0 : ¬ (j : Int) < (n : Int) := by omega
      have x1 : decide ((j : Int) < (n : Int)) = false := decide_eq_false x0
      have HT := Lib.hid (show total (R.take j) = total R from total_all R (by rw [HLR.out]; omega))
      have HTI := Lib.hid (HST.out j)
      rw [HT.out] at HTI ⊢
      generalize total R = t at HTI HRR ⊢
      have HTD : Hid (-9223372036854775808 ≤ t.tdiv n ∧ t.tdiv n ≤ 9223372036854775807) := Lib.hid (by
        have h : (t.tdiv n).natAbs = t.natAbs / (n : Int).natAbs := Int.natAbs_tdiv t n
        have h2 : t.natAbs / (n : Int).natAbs ≤ t.natAbs := Nat.div_le_self _ _
        have := HTI.out
        omega)
      have W1 := Lib.hid (IntWalk.wrap64_in (t.tdiv n) HTD.out)
      have HSQ := Lib.hid (fun W => rsqrt_any (t.tdiv n) W HTD.out)
      have W2 := Lib.hid (show wrap64 (sqrt (t.tdiv n) + 1) = r by rw [HRR.out]; exact IntWalk.wrap64_in _ (by have := HRT.out; omega))
      clear HT HAT HST hke hlt
      go_wp2_with (fail)
      rw [W1.out]
      refine (HSQ.out _).mono ?_
      rintro e w2 ⟨rfl, rfl⟩
      go_wp2_with (fail)
      refine bodyPost_ret (results_tmp rfl _ _ _) rfl ?_
      exact ⟨ret_i W2.out, rfl⟩
section
variable (w : World) (G : Option Addr) (m d : Nat) (gs : List Int) (A : Option Addr) (n c : Nat) (zs : List Int)
set_option maxRecDepth 100000 in
set_option maxHeartbeats 1600000 in
theorem ref13_of_not (hg : gs.length = m) (hz : zs.length = n) (h : m ≠ n) :
    Calls Tryz.prog 35 #[.slice G m d, .slice A n c] w (RowSays w (fun v => v) (ofL gs zs)) := by
  rw [ofL_not (by omega)]
  have t0 : ((m : Int) != (n : Int)) = true := by
    rw [bne_iff_ne]
    omega
  obtain ⟨i0, hi, hz0, hz1, hz2⟩ := info_parts info_int
  have HI := Lib.hid hi
  have HB0 := Lib.hid ((Below.refl w.heap.size w).alloc (Nat.le_refl _) (.cells #[] 3))
  clear hg hz h hi hz0 hz1 hz2
  go_enter Tryz.func35, Tryz.ntmps35
  go_wp2_with (refine wpList_buildNone rfl 45 3 rfl i0 Tryz.underlying45 HI.out ?_)
  refine bodyPost_ret (results_tmp rfl _ _ _) rfl ?_
  exact ⟨_, 0, rfl, KIn.nil _ _ _, HB0.out⟩
set_option maxRecDepth 100000 in
set_option maxHeartbeats 1600000 in
theorem ref13_of_same (hg : gs.length = n) (hz : zs.length = n) (hm : n ≤ 4096) (hG : KIn .i64 w G gs) (hA : KIn .i64 w A zs) :
    Calls Tryz.prog 35 #[.slice G n d, .slice A n c] w (RowSaysN w (fun v => v) (ofL gs zs)) := by
  rw [ofL_same (by omega)]
  have HA := Lib.hid hA
  have HG := Lib.hid hG
  obtain ⟨i0, hi, hz0, hz1, hz2⟩ := info_parts info_int
  have HI := Lib.hid hi
  have HZ0 := Lib.hid hz0
  have HZ1 := Lib.hid hz1
  have HZ2 := Lib.hid hz2
  have HZL := Lib.hid hz
  have HGL := Lib.hid hg
  have HLR := Lib.hid ((normL_length gs zs).trans hz)
  have HAT := Lib.hid (fun i (h : i < n) => normL_at gs zs i (by omega))
  have HRT := Lib.hid (root_in zs (by omega))
  have HRO := Lib.hid (fun W (h : KIn .i64 W A zs) => ref13_root W A n c zs hz (by omega) h)
  have HB0 := Lib.hid ((Below.refl w.heap.size w).alloc (Nat.le_refl _) (.cells #[] 3))
  have HO0 := Lib.hid (Own.new w w.heap.size (Nat.le_refl _))
  clear hi hz0 hz1 hz2 hA hG hz hg
  have t0 : ((n : Int) != (n : Int)) = false := by simp
  generalize normL gs zs = R at HLR HAT ⊢
  generalize rootL zs = r at HRT HAT HRO
  have HO1 := Lib.hid (show Own (w.alloc (.cells #[] 3)) w.heap.size (.slice (some ⟨w.heap.size, 0, none⟩) 0 0) (R.take 0) from HO0.out)
  clear HO0
  go_enter Tryz.func35, Tryz.ntmps35
  go_wp2_with (refine wpList_buildNone rfl 45 3 rfl i0 Tryz.underlying45 HI.out ?_)
  go_loopw [5, 6] (fun l i wr => ∃ (j : Nat) (G : Option Addr) (q : Nat), i = .int .i64 (j : Int) ∧ j ≤ n ∧ l = .slice G j q ∧ Own wr w.heap.size l (R.take j) ∧ Below w.heap.size w wr) (fun _ i _ => match i with | .int _ k => n - k.toNat | _ => 0)
  case atStart => exact ⟨0, _, 0, rfl, Nat.zero_le _, rfl, HO1.out, HB0.out⟩
  case round =>
    clear HB0 HO1
    obtain ⟨j, X, q, rfl, hj, rfl, ho, hb⟩ := hrel
    have HO := Lib.hid ho
    have HB := Lib.hid hb
    clear ho hb
    have x2 : 0 ≤ (j : Int) := by omega
    by_cases hlt : j < n
    · have x0 : (j : Int) < (n : Int) := by omega
      have x1 : decide ((j : Int) < (n : Int)) = true := decide_eq_true x0
      have HJ := Lib.hid (show j + 1 ≤ n by omega)
      have HMJ := Lib.hid (app_small HJ.out hm)
      have HXJ := Lib.hid (HAT.out j hlt)
      have HPI := Lib.hid (prod_in (zs.getD j 0) (gs.getD j 0))
      have HGI := Lib.hid (gain_in (gs.getD j 0))
      have HQI := Lib.hid (quo_in (r := r) HPI.out)
      have HRN := Lib.hid (take_more R j (by rw [HLR.out]; exact hlt))
      have HOL := Lib.hid (show (R.take j).length = j by rw [List.length_take, HLR.out]; omega)
      have HW4 := Lib.hid (Own.at HO.out HOL.out)
      have HRW := Lib.hid (HRO.out wr (HA.out.below HB.out (Nat.le_refl _)))
      obtain ⟨pb, po, rfl, hcell⟩ := (HA.out.below HB.out (Nat.le_refl _)).at (show j < zs.length by rw [HZL.out]; exact hlt)
      obtain ⟨pg, pu, rfl, hgell⟩ := (HG.out.below HB.out (Nat.le_refl _)).at (show j < gs.length by rw [HGL.out]; exact hlt)
      generalize zs.getD j 0 = z at hcell HXJ HPI HQI
      generalize gs.getD j 0 = g at hgell HXJ HPI HQI HGI
      unfold one gain at HXJ
      unfold gain at HPI HQI HGI
      go_wp2_with (fail)
      refine (rclamp_any g (-128) 127 wr).mono ?_
      rintro e w2 ⟨rfl, rfl⟩
      generalize clamp g (-128) 127 = k at HXJ HPI HQI HGI ⊢
      have W1 := Lib.hid (IntWalk.wrap64_in (64 + k) (by have := HGI.out; omega))
      go_wp2_with (fail)
      refine (rsat_any z wr).mono ?_
      rintro e w2 ⟨rfl, rfl⟩
      rw [W1.out]
      generalize sat z = y at HXJ HPI HQI ⊢
      have W2 := Lib.hid (IntWalk.wrap64_in (y * (64 + k)) (by have := HPI.out; omega))
      have W3 := Lib.hid (IntWalk.wrap64_in ((y * (64 + k)).tdiv r) (by have := HQI.out; omega))
      go_wp2_with (fail)
      rw [W2.out]
      refine HRW.out.mono ?_
      rintro e w2 ⟨rfl, rfl⟩
      have r0 : ¬ r = 0 := by have := HRT.out; omega
      have r1 : ¬ r = -1 := by have := HRT.out; omega
      go_wp2_with (fail)
      rw [W3.out]
      refine (rsat_any _ wr).mono ?_
      rintro e w2 ⟨rfl, rfl⟩
      rw [← HXJ.out]
      generalize R.getD j 0 = q at HRN ⊢
      have x3 := IntWalk.wrap64_in ((j : Int) + 1) (by omega)
      go_wp2_with (at_builtin; refine wpList_append_lies _ rfl (.tmp 27) (.tmp 39) 45 rfl w.heap.size 3 i0 _ 1 8 Tryz.underlying45 HI.out HZ0.out HZ1.out HZ2.out rfl Nat.one_pos (.slice X j _) j _ rfl (HW4.out.alloc _) ⟨wr.heap.size, 0, none⟩ 1 1 [.int .i64 q] rfl rfl (one_src wr q) (one_one q) Nat.one_pos HMJ.out.1 HMJ.out.2 (base_le HB.out rfl _) _ rfl ?_; intro gg cap wz hownz hgrow hat hltz)
      have HON := Lib.hid (Own.grew HOL.out hownz)
      have HBN := Lib.hid (below_grew HB.out rfl HO.out _ hgrow)
      rw [← HRN.out] at HON
      clear hownz hgrow hat hltz
      go_wp2_with (fail)
      exact ⟨⟨j + 1, _, cap, rfl, HJ.out, rfl, HON.out, HBN.out⟩, vc_less j n hlt⟩
    · have hke : j = n := by omega
      have x0 : ¬ (j : Int) < (n : Int) := by omega
      have x1 : decide ((j : Int) < (n : Int)) = false := decide_eq_false x0
      have HTT := Lib.hid (show R.take j = R from List.take_of_length_le (by rw [HLR.out]; omega))
      rw [HTT.out] at HO
      clear HAT HRT HRO
      go_wp2_with (fail)
      refine bodyPost_ret (results_tmp rfl _ _ _) rfl ?_
      refine ⟨X, q, ?_, Own.kin HO.out, by rw [HLR.out, ← hke]; exact own_capR HO.out, own_newR HO.out, HB.out⟩
      rw [HLR.out, ← hke]
      rfl
theorem ref13_of (hg : gs.length = m) (hz : zs.length = n) (hm : n ≤ 4096) (hG : KIn .i64 w G gs) (hA : KIn .i64 w A zs) :
    Calls Tryz.prog 35 #[.slice G m d, .slice A n c] w (RowSays w (fun v => v) (ofL gs zs)) := by
  by_cases h : m = n
  · subst h
    exact (ref13_of_same w G d gs A m c zs hg hz hm hG hA).mono fun e w' h => h.cap.says
  · exact ref13_of_not w G m d gs A n c zs hg hz h
end
end Go.Proofs.YtkdkeokldcehhaaGreatDoor
