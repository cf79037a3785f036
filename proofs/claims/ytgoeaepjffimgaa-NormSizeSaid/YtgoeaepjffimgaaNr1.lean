/-
  Package norm: Root, and num's Mean. Conditions: the row's numbers are there, at most a million.
-/
import Derived.Test.YtgoeaepjffimgaaVc4
import Derived.Test.YtgoeaepjffimgaaNrMath
import Derived.Test.YtgoeaepjffimgaaNumSum
import Derived.Test.YtgoeaepjffimgaaNumDiv
import Derived.Test.YtgoeaepjffimgaaNumSqrt
namespace Go.Proofs.Ytgoeaepjffimgaa
open Go.ChangeShapes Go.WideShapes Go.ChangeAt Go.RowKit Nm Vc Nr

theorem sum_kin (w : World) (A : Option Addr) (n c : Nat) (zs : List Int) (hz : zs.length = n) (hm : n ≤ 1000000) (hA : KIn .i64 w A zs) :
    Calls Try.prog 21 #[.slice A n c] w fun e w' => e = .returned (.int .i64 (sum zs)) ∧ w = w' := by
  by_cases h0 : 0 < n
  · obtain ⟨pb, po, rfl, hc⟩ := hA (by omega)
    exact sum_any pb po n c zs w hz (by unfold maxLen; omega) hc
  · obtain rfl : n = 0 := by omega
    obtain rfl := List.length_eq_zero_iff.1 hz
    go_enter Try.func21, Try.ntmps21
    go_wp2
    go_loop [3, 8] (fun m i => i = .int .i64 0 ∧ m = .int .i64 0) (fun _ _ => 0)
    case atStart => exact ⟨rfl, rfl⟩
    case round =>
      obtain ⟨rfl, rfl⟩ := hrel
      go_wp2
      go_ret
      exact ⟨rfl, rfl⟩
theorem mean_any (w : World) (A : Option Addr) (n c : Nat) (zs : List Int) (hz : zs.length = n) (hm : n ≤ 1000000) (hA : KIn .i64 w A zs) :
    Calls Try.prog 15 #[.slice A n c] w fun e w' => e = .returned (.int .i64 (mean zs)) ∧ w = w' := by
  have HS := Lib.hid (fun c => sum_kin w A n c zs hz hm hA)
  have HD := Lib.hid (div_any (sum zs) n w (by have := sum_in zs; unfold Fits; omega))
  have HE := Lib.hid (show div (sum zs) n = mean zs by unfold mean; rw [hz])
  clear hz hA
  go_enter Try.func15, Try.ntmps15
  go_wp2_with (fail)
  refine (HS.out _).mono ?_
  rintro e w' ⟨rfl, rfl⟩
  go_wp2_with (fail)
  refine HD.out.mono ?_
  rintro e w' ⟨rfl, rfl⟩
  rw [HE.out]
  go_wp2_with (fail)
  refine bodyPost_ret (results_tmp rfl _ _ _) rfl ?_
  exact ⟨rfl, rfl⟩
set_option maxRecDepth 100000 in
set_option maxHeartbeats 1600000 in
theorem norm_root (w : World) (A : Option Addr) (n c : Nat) (zs : List Int) (hz : zs.length = n) (hm : n ≤ 1000000) (hA : KIn .i64 w A zs) :
    Calls Try.prog 7 #[.slice A n c] w fun e w' => e = .returned (.int .i64 (rootL zs)) ∧ Below w.heap.size w w' := by
  have HA := Lib.hid hA
  obtain ⟨i0, hi, hz0, hz1, hz2⟩ := info_parts info_int
  have HI := Lib.hid hi
  have HZ0 := Lib.hid hz0
  have HZ1 := Lib.hid hz1
  have HZ2 := Lib.hid hz2
  have HZL := Lib.hid hz
  have HLR := Lib.hid ((sqL_length zs).trans hz)
  have HAT := Lib.hid (fun i (h : i < n) => sqL_at zs i (by omega))
  have HSQ := Lib.hid (fun i => sq_in (zs.getD i 0))
  have HMN := Lib.hid (mean_sq zs (by omega))
  have HRT := Lib.hid (root_in zs (by omega))
  clear hi hz0 hz1 hz2 hA hz
  unfold rootL at HRT ⊢
  generalize sqL zs = R at HLR HAT HMN HRT ⊢
  go_enter Try.func7, Try.ntmps7
  go_wp2_with (at_make; refine wpList_make_row _ rfl _ _ 22 rfl 3 i0 (.int .i64 0) Try.underlying22 HI.out HZ0.out HZ1.out rfl .i64 .i64 n rfl rfl (by rw [HZ2.out]; omega) (by omega) ?_)
  have HR0 := Lib.hid (show (w.alloc (.cells (madeCells #[.int .i64 0] n) 3)).rowIs w.heap.size 3 n (prt .i64 R 0) from (World.rowIs_made w (.int .i64 0) n 3).congr fun i _ => by rw [prt_none])
  have HB0 := Lib.hid ((Below.refl w.heap.size w).alloc (Nat.le_refl _) (.cells (madeCells #[.int .i64 0] n) 3))
  go_loopw [11] (fun i wr => ∃ j : Nat, i = .int .i64 (j : Int) ∧ j ≤ n ∧ wr.rowIs w.heap.size 3 n (prt .i64 R j) ∧ Below w.heap.size w wr) (fun i _ => match i with | .int _ k => n - k.toNat | _ => 0)
  case atStart => exact ⟨0, rfl, Nat.zero_le _, HR0.out, HB0.out⟩
  case round =>
    clear HR0 HB0
    obtain ⟨j, rfl, hj, hr, hb⟩ := hrel
    have HR := Lib.hid hr
    have HB := Lib.hid hb
    clear hr hb
    have x2 : 0 ≤ (j : Int) := by omega
    by_cases hlt : j < n
    · have x0 : (j : Int) < (n : Int) := by omega
      have x1 : decide ((j : Int) < (n : Int)) = true := decide_eq_true x0
      have HJ := Lib.hid (show j + 1 ≤ n by omega)
      have HXJ := Lib.hid (HAT.out j hlt)
      have HQ := Lib.hid (HSQ.out j)
      obtain ⟨pb, po, rfl, hcell⟩ := (HA.out.below HB.out (Nat.le_refl _)).at (show j < zs.length by rw [HZL.out]; exact hlt)
      generalize zs.getD j 0 = z at hcell HXJ HQ
      unfold sq at HXJ HQ
      go_wp2_with (fail)
      refine (sat_any z wr).mono ?_
      rintro e w2 ⟨rfl, rfl⟩
      have W1 := Lib.hid (IntWalk.wrap64_in (sat z * sat z) (by have := HQ.out; omega))
      generalize sat z = y at HXJ W1 ⊢
      have f1 := HR.out.frozen j
      have c1 := HR.out.cell hlt
      have HP := Lib.hid (prt_set HR.out (rfl : R.getD j 0 = R.getD j 0))
      have HBS := Lib.hid (HB.out.setCell (p := ⟨w.heap.size, j, none⟩) (Nat.le_refl _) (.int .i64 (R.getD j 0)))
      have x3 := IntWalk.wrap64_in ((j : Int) + 1) (by omega)
      go_wp2_with (fail)
      rw [W1.out, ← HXJ.out]
      exact ⟨⟨j + 1, rfl, HJ.out, HP.out, HBS.out⟩, vc_less j n hlt⟩
    · have hke : j = n := by omega
      have x0 : ¬ (j : Int) < (n : Int) := by omega
      have x1 : decide ((j : Int) < (n : Int)) = false := decide_eq_false x0
      rw [hke] at HR
      have HK := Lib.hid (show KIn .i64 wr (some ⟨w.heap.size, 0, none⟩) R from KIn.row (HR.out.congr fun i hi => prt_all _ _ _ _ hi) (Nat.le_of_eq HLR.out))
      have W1 := Lib.hid (show wrap64 (sqrt (mean R) + 1) = sqrt (mean R) + 1 from IntWalk.wrap64_in _ (by have := HRT.out; omega))
      have HSQR := Lib.hid (fun W => sqrt_any (mean R) W (by have := HMN.out; unfold Fits; omega))
      clear HAT HSQ HMN HRT hke hlt
      go_wp2_with (fail)
      refine (mean_any _ _ n _ R HLR.out hm HK.out).mono ?_
      rintro e w2 ⟨rfl, rfl⟩
      generalize hmr : mean R = m at W1 HSQR ⊢
      have HMR := Lib.hid hmr
      clear hmr
      go_wp2_with (fail)
      refine (HSQR.out _).mono ?_
      rintro e w2 ⟨rfl, rfl⟩
      generalize hsm : sqrt m = s at W1 ⊢
      have HSM := Lib.hid hsm
      clear hsm
      go_wp2_with (fail)
      refine bodyPost_ret (results_tmp rfl _ _ _) rfl ?_
      exact ⟨ret_i (by rw [W1.out, ← HSM.out, ← HMR.out]), HB.out⟩
end Go.Proofs.Ytgoeaepjffimgaa
