/-
  The reference of layer 11: Times. Conditions: the table's numbers and the row's are there.
-/
import Derived.Test.YtclobdeaocjnoaaVcRef2
namespace Go.Proofs.Ytclobdeaocjnoaa
open Go.ChangeShapes Go.WideShapes Go.ChangeAt Go.RowKit Nm Vc

theorem app_small {k n : Nat} (h : k + 1 ≤ n) (hn : n ≤ 4096) : k + 1 ≤ maxLen ∧ (k + 1) * 8 ≤ 140737488355328 := by unfold maxLen; omega
theorem base_le {B : Nat} {w0 w : World} (h : Below B w0 w) (hB : w0.heap.size = B) (o : Obj) : B ≤ (w.alloc o).heap.size := by have := h.size; simp; omega
theorem idx_lt {j x k y n : Nat} (hj : j < x) (hk : k < y) (hn : n = x * y) (hx : x ≤ 64) (hy : y ≤ 64) : j * y + k < n ∧ n ≤ 4096 := by
  have h1 : (j + 1) * y ≤ x * y := Nat.mul_le_mul_right _ hj
  have h2 : x * y ≤ 64 * 64 := Nat.mul_le_mul hx hy
  rw [Nat.succ_mul] at h1
  omega
set_option maxRecDepth 100000 in
set_option maxHeartbeats 800000 in
theorem ref11_times_not (w : World) (x y sh : Int) (A : Option Addr) (n c : Nat) (V : Option Addr) (m cv : Nat) (h : goodB x y n = false ∨ (m : Int) ≠ y) :
    Calls Try.prog 13 #[.int .i64 x, .int .i64 y, .slice A n c, .slice V m cv, .int .i64 sh] w fun e w' => e = .returned (.tuple #[.slice none 0 0, .bool false]) ∧ w = w' := by
  have HG := Lib.hid (fun W => ref11_good x y n W)
  have H := Lib.hid h
  clear h
  cases hg : goodB x y n with
  | false =>
    rw [hg] at HG
    go_enter Try.func13, Try.ntmps13
    go_wp2_with (fail)
    refine (HG.out _).mono ?_
    rintro e w1 ⟨rfl, rfl⟩
    go_wp2_with (fail)
    refine bodyPost_ret (results_tmp2 rfl _ _ _) rfl ?_
    exact ⟨rfl, rfl⟩
  | true =>
    rw [hg] at HG
    have h2 : (m : Int) ≠ y := by
      rcases H.out with h | h
      · rw [hg] at h; cases h
      · exact h
    have t1 : ((m : Int) == y) = false := beq_eq_false_iff_ne.2 h2
    go_enter Try.func13, Try.ntmps13
    go_wp2_with (fail)
    refine (HG.out _).mono ?_
    rintro e w1 ⟨rfl, rfl⟩
    go_wp2_with (fail)
    refine bodyPost_ret (results_tmp2 rfl _ _ _) rfl ?_
    exact ⟨rfl, rfl⟩
set_option maxRecDepth 100000 in
set_option maxHeartbeats 3200000 in
theorem ref11_times (w : World) (x y : Nat) (sh : Int) (A : Option Addr) (n c : Nat) (D : List Int) (V : Option Addr) (cv : Nat) (zs : List Int) (h : goodB (x : Int) (y : Int) n = true) (hD : D.length = n) (hA : KIn .i8 w A D) (hI : I8 D) (hz : zs.length = y) (hV : KIn .i64 w V zs) :
    Calls Try.prog 13 #[.int .i64 (x : Int), .int .i64 (y : Int), .slice A n c, .slice V y cv, .int .i64 sh] w (RowSays w (fun v => .tuple #[v, .bool true]) (timesL D x y zs sh)) := by
  have HG := Lib.hid (fun W => ref11_good (x : Int) (y : Int) n W)
  have HA := Lib.hid hA
  have HV := Lib.hid hV
  have HI8 := Lib.hid hI
  rw [h] at HG
  obtain ⟨hx, hy, hxy⟩ := goodB_iff.1 h
  have hy2 : y ≤ 64 := by omega
  have hy1 : 1 ≤ y := by omega
  have hx2 : x ≤ 64 := by omega
  have HXY := Lib.hid (show n = x * y by rw [← Int.natCast_mul] at hxy; omega)
  have t1 : ((y : Int) == (y : Int)) = true := beq_self_eq_true _
  obtain ⟨i0, hi, hz0, hz1, hz2⟩ := info_parts info_int
  have HI := Lib.hid hi
  have HZ0 := Lib.hid hz0
  have HZ1 := Lib.hid hz1
  have HZ2 := Lib.hid hz2
  have HZL := Lib.hid hz
  have HDL := Lib.hid hD
  have HRL := Lib.hid (rowD_length D y)
  have HRA := Lib.hid (rowD_at D y)
  have HLR := Lib.hid (timesL_length D x y zs sh)
  have HAT := Lib.hid (timesL_at D x y zs sh)
  clear hA h hi hz0 hz1 hz2 hD hx hy hxy hV hI hz
  generalize timesL D x y zs sh = R at HLR HAT ⊢
  generalize hrw : rowD D y = rw_ at HAT HRL HRA
  clear hrw
  go_enter Try.func13, Try.ntmps13
  go_wp2_with (fail)
  refine (HG.out _).mono ?_
  rintro e w1 ⟨rfl, rfl⟩
  clear HG
  go_wp2_with (refine wpList_buildNone rfl 30 3 rfl i0 Try.underlying30 HI.out ?_)
  have HB0 := Lib.hid ((Below.refl w.heap.size w).alloc (Nat.le_refl _) (.cells #[] 3))
  have HO0 := Lib.hid (Own.new w w.heap.size (Nat.le_refl _))
  go_loopw [12, 13] (fun l i wr => ∃ (j : Nat) (G : Option Addr) (q : Nat), i = .int .i64 (j : Int) ∧ j ≤ x ∧ l = .slice G j q ∧ Own wr w.heap.size l (R.take j) ∧ Below w.heap.size w wr) (fun _ i _ => match i with | .int _ k => x - k.toNat | _ => 0)
  case atStart => exact ⟨0, _, 0, rfl, Nat.zero_le _, rfl, HO0.out, HB0.out⟩
  case round =>
    clear HB0 HO0
    obtain ⟨j, G, cg, rfl, hj, rfl, ho, hb⟩ := hrel
    have HO := Lib.hid ho
    have HB := Lib.hid hb
    clear ho hb
    have x2 : 0 ≤ (j : Int) := by omega
    by_cases hlt : j < x
    · have x0 : (j : Int) < (x : Int) := by omega
      have x1 : decide ((j : Int) < (x : Int)) = true := decide_eq_true x0
      have HJ := Lib.hid (show j + 1 ≤ x by omega)
      have HMJ := Lib.hid (app_small HJ.out (show x ≤ 4096 by omega))
      have HRN := Lib.hid (take_more R j (by rw [HLR.out]; exact hlt))
      have HXJ := Lib.hid (HAT.out j hlt)
      have HOL := Lib.hid (show (R.take j).length = j by rw [List.length_take, HLR.out]; omega)
      generalize wr = wo at HO HB ⊢
      go_wp2_with (refine wpList_buildNone rfl 30 3 rfl i0 Try.underlying30 HI.out ?_)
      have HC0 := Lib.hid ((Below.refl wo.heap.size wo).alloc (Nat.le_refl _) (.cells #[] 3))
      have HQ0 := Lib.hid (Own.new wo wo.heap.size (Nat.le_refl _))
      go_loopw [14, 15] (fun l i wr => ∃ (k : Nat) (G : Option Addr) (q : Nat), i = .int .i64 (k : Int) ∧ k ≤ y ∧ l = .slice G k q ∧ Own wr wo.heap.size l ((rw_ j).take k) ∧ Below wo.heap.size wo wr) (fun _ i _ => match i with | .int _ k => y - k.toNat | _ => 0)
      case atStart => exact ⟨0, _, 0, rfl, Nat.zero_le _, rfl, HQ0.out, HC0.out⟩
      case round =>
        clear HQ0 HC0
        obtain ⟨k, F, cf, rfl, hk, rfl, ho, hb⟩ := hrel
        have HQ := Lib.hid ho
        have HC := Lib.hid hb
        clear ho hb
        have y2 : 0 ≤ (k : Int) := by omega
        by_cases hky : k < y
        · have y0 : (k : Int) < (y : Int) := by omega
          have y1 : decide ((k : Int) < (y : Int)) = true := decide_eq_true y0
          have HK := Lib.hid (show k + 1 ≤ y by omega)
          obtain ⟨q1, q2⟩ := idx_lt hlt hky HXY.out hx2 hy2
          have q3 : j * y + k < D.length := by rw [HDL.out]; exact q1
          have hcell0 := ((HA.out.below HB.out (Nat.le_refl _)).below HC.out (Nat.le_refl _)).at q3
          obtain ⟨pa, oa, rfl, hc1⟩ := hcell0
          rw [← HRA.out j k hky] at hc1
          have e5 : wrap64 ((rw_ j).getD k 0) = (rw_ j).getD k 0 := by rw [HRA.out j k hky]; exact HI8.out.wrap q3
          have HKN := Lib.hid (take_more (rw_ j) k (by rw [HRL.out j]; exact hky))
          have HOK := Lib.hid (show ((rw_ j).take k).length = k by rw [List.length_take, HRL.out j]; omega)
          have HW0 := Lib.hid (Own.at HQ.out HOK.out)
          have z1 : 0 ≤ ((j * y + k : Nat) : Int) := Int.natCast_nonneg _
          have z2 : ((j * y + k : Nat) : Int) < (n : Int) := by omega
          have HM := Lib.hid (app_small HK.out (show y ≤ 4096 by omega))
          have hm1 : j * y < 1000000 := by omega
          have hm2 : j * y + k < 1000000 := by omega
          have hm3 : -9223372036854775808 ≤ (k : Int) + 1 ∧ (k : Int) + 1 ≤ 9223372036854775807 := by omega
          have e1 := vc_mul_i j y hm1
          have e2 := vc_mul_w j y hm1
          have e3 := vc_add_i (j * y) k hm2
          have e4 := vc_add_w (j * y) k hm2
          have x3 := IntWalk.wrap64_in ((k : Int) + 1) hm3
          generalize (rw_ j).getD k 0 = z at hc1 e5 HKN
          generalize j * y + k = u at hc1 z1 z2 e3 e4
          generalize j * y = v at e1 e2 e3 e4
          clear q1 q2 q3 hm1 hm2 hm3
          go_wp2_with (at_builtin; refine wpList_append_lies _ rfl (.tmp 40) (.tmp 50) 30 rfl wo.heap.size 3 i0 _ 1 8 Try.underlying30 HI.out HZ0.out HZ1.out HZ2.out rfl Nat.one_pos (.slice F k cf) k _ rfl (HW0.out.alloc _) ⟨wr.heap.size, 0, none⟩ 1 1 [.int .i64 z] rfl rfl (one_src wr z) (one_one z) Nat.one_pos HM.out.1 HM.out.2 (base_le HC.out rfl _) _ rfl ?_; intro gg cap wz hownz hgrow hat hltz)
          have HON := Lib.hid (Own.grew HOK.out hownz)
          have HBN := Lib.hid (below_grew HC.out rfl HQ.out _ hgrow)
          rw [← HKN.out] at HON
          clear hownz hgrow hat hltz hc1
          go_wp2_with (fail)
          exact ⟨⟨k + 1, _, cap, rfl, HK.out, rfl, HON.out, HBN.out⟩, vc_less k y hky⟩
        · have hke : k = y := by omega
          have y0 : ¬ (k : Int) < (y : Int) := by omega
          have y1 : decide ((k : Int) < (y : Int)) = false := decide_eq_false y0
          have HT := Lib.hid (show (rw_ j).take k = rw_ j from List.take_of_length_le (by rw [HRL.out j]; omega))
          rw [HT.out] at HQ
          have HB2 := Lib.hid (HB.out.trans (HC.out.mono HB.out.size))
          have HO2 := Lib.hid (HO.out.below HC.out (Nat.le_refl _))
          have HFT := Lib.hid (show Fits (dot (rw_ j) zs) from ⟨by have := (dot_in (rw_ j) zs); omega, by have := (dot_in (rw_ j) zs); omega⟩)
          have hy3 : y ≤ 1000000 := by omega
          clear HO HB HC
          go_wp2_with (fail)
          refine (rdot_any wr F y cf V y cv (rw_ j) zs (HRL.out j) HZL.out hy3 hy3 (Own.kin HQ.out) (HV.out.below HB2.out (Nat.le_refl _))).mono ?_
          rintro e w4 ⟨rfl, b4⟩
          have HB4 := Lib.hid (HB2.out.trans (b4.mono HB2.out.size))
          have HO4 := Lib.hid (HO2.out.below b4 (Nat.le_refl _))
          clear b4 HB2 HO2 HQ
          go_wp2_with (fail)
          refine (rshift_any _ sh _ HFT.out).mono ?_
          rintro e w5 ⟨rfl, rfl⟩
          go_wp2_with (fail)
          refine (rsat_any _ _).mono ?_
          rintro e w6 ⟨rfl, rfl⟩
          rw [← HXJ.out]
          have HW4 := Lib.hid (Own.at HO4.out HOL.out)
          generalize R.getD j 0 = z at HRN ⊢
          go_wp2_with (at_builtin; refine wpList_append_lies _ rfl (.tmp 52) (.tmp 59) 30 rfl w.heap.size 3 i0 _ 1 8 Try.underlying30 HI.out HZ0.out HZ1.out HZ2.out rfl Nat.one_pos (.slice G j cg) j _ rfl (HW4.out.alloc _) ⟨w4.heap.size, 0, none⟩ 1 1 [.int .i64 z] rfl rfl (one_src w4 z) (one_one z) Nat.one_pos HMJ.out.1 HMJ.out.2 (base_le HB4.out rfl _) _ rfl ?_; intro gg cap wz hownz hgrow hat hltz)
          have HON := Lib.hid (Own.grew HOL.out hownz)
          have HBN := Lib.hid (below_grew HB4.out rfl HO4.out _ hgrow)
          rw [← HRN.out] at HON
          clear hownz hgrow hat hltz
          have x3 := IntWalk.wrap64_in ((j : Int) + 1) (by omega)
          go_wp2_with (fail)
          exact ⟨⟨j + 1, _, cap, rfl, HJ.out, rfl, HON.out, HBN.out⟩, vc_less j x hlt⟩
    · have hke : j = x := by omega
      have x0 : ¬ (j : Int) < (x : Int) := by omega
      have x1 : decide ((j : Int) < (x : Int)) = false := decide_eq_false x0
      have HT := Lib.hid (show R.take j = R from List.take_of_length_le (by rw [HLR.out]; omega))
      rw [HT.out] at HO
      go_wp2_with (fail)
      refine bodyPost_ret (results_tmp2 rfl _ _ _) rfl ?_
      refine ⟨G, cg, ?_, Own.kin HO.out, HB.out⟩
      rw [HLR.out]
      rfl
end Go.Proofs.Ytclobdeaocjnoaa
