/-
  The reference of layer 12: Weights. Conditions: the numbers are there.
-/
import Derived.Test.YtghlapaoebelpaaDoorSf7
import Derived.Test.YtghlapaoebelpaaDoorVcRef3
namespace Go.Proofs.YtghlapaoebelpaaDoor
open Go.ChangeShapes Go.WideShapes Go.ChangeAt Go.RowKit Nm Vc Sf

namespace Sf
/-- The greatest of the first k and of one more. -/
def hiK (l : List Int) (a : Int) (k : Nat) : Int := (l.take k).foldl (fun m x => max m (c30 x)) (c30 a)
theorem hiK_next (l : List Int) (a : Int) (k : Nat) (h : k < l.length) : hiK l a (k + 1) = max (hiK l a k) (c30 (l.getD k 0)) := by
  unfold hiK
  rw [List.take_succ_eq_append_getElem h, List.foldl_append, List.getD_eq_getElem?_getD, List.getElem?_eq_getElem h]
  rfl
theorem hiK_all (l : List Int) (i k : Nat) (h : i < l.length) (hk : l.length ≤ k) : hiK l (l.getD i 0) k = highL l := by
  unfold hiK
  rw [List.take_of_length_le hk, List.getD_eq_getElem?_getD, List.getElem?_eq_getElem h]
  exact high_start (List.getElem_mem h)
theorem ite_max (h y : Int) : (if h < y then y else h) = max h y := by split <;> omega
theorem high_sub' (l : List Int) (x : Int) : -2147483648 ≤ highL l - c30 x ∧ highL l - c30 x ≤ 2147483648 := by
  have h1 := high_in l
  have h2 := c30_in x
  omega
end Sf
section
variable (w : World) (A : Option Addr) (n c : Nat) (zs : List Int)
set_option maxRecDepth 100000 in
set_option maxHeartbeats 3200000 in
theorem ref12_weights (hz : zs.length = n) (hm : n ≤ 4096) (hA : KIn .i64 w A zs) :
    Calls Tryd.prog 13 #[.slice A n c] w (RowSays w (fun v => v) (weightsL zs)) := by
  have HA := Lib.hid hA
  have HZL := Lib.hid hz
  obtain ⟨i0, hi, hz0, hz1, hz2⟩ := info_parts info_int
  have HI := Lib.hid hi
  have HZ0 := Lib.hid hz0
  have HZ1 := Lib.hid hz1
  have HZ2 := Lib.hid hz2
  have HLR := Lib.hid ((weightsL_length zs).trans hz)
  have HAT := Lib.hid (fun i (h : i < n) => weightsL_at zs i (by omega))
  have HHS := Lib.hid (high_sub' zs)
  have HHA := Lib.hid (fun i (h : i < n) => hiK_all zs i n (by omega) (by omega))
  have HHN := Lib.hid (fun a k (h : k < n) => hiK_next zs a k (by omega))
  clear hA hi hz0 hz1 hz2 hz
  generalize weightsL zs = R at HLR HAT ⊢
  generalize highL zs = hh at HAT HHS HHA
  go_enter Tryd.func13, Tryd.ntmps13
  go_wp2_with (refine wpList_buildNone rfl 22 3 rfl i0 Tryd.underlying22 HI.out ?_)
  have HB0 := Lib.hid ((Below.refl w.heap.size w).alloc (Nat.le_refl _) (.cells #[] 3))
  have HO0 := Lib.hid (Own.new w w.heap.size (Nat.le_refl _))
  go_loopw [3, 4] (fun l i wr => ∃ (j : Nat) (G : Option Addr) (q : Nat), i = .int .i64 (j : Int) ∧ j ≤ n ∧ l = .slice G j q ∧ Own wr w.heap.size l (R.take j) ∧ Below w.heap.size w wr) (fun _ i _ => match i with | .int _ k => n - k.toNat | _ => 0)
  case atStart => exact ⟨0, _, 0, rfl, Nat.zero_le _, rfl, HO0.out, HB0.out⟩
  case round =>
    clear HB0 HO0
    obtain ⟨j, G, cg, rfl, hj, rfl, ho, hb⟩ := hrel
    have HO := Lib.hid ho
    have HB := Lib.hid hb
    clear ho hb
    have x2 : 0 ≤ (j : Int) := by omega
    by_cases hlt : j < n
    · have x0 : (j : Int) < (n : Int) := by omega
      have x1 : decide ((j : Int) < (n : Int)) = true := decide_eq_true x0
      have HJ := Lib.hid (show j + 1 ≤ n by omega)
      have HMJ := Lib.hid (app_small HJ.out hm)
      have HRN := Lib.hid (take_more R j (by rw [HLR.out]; exact hlt))
      have HXJ := Lib.hid (HAT.out j hlt)
      have HOL := Lib.hid (show (R.take j).length = j by rw [List.length_take, HLR.out]; omega)
      have HAB := Lib.hid (HA.out.below HB.out (Nat.le_refl _))
      have HHJ := Lib.hid (HHA.out j hlt)
      have HNJ := Lib.hid (HHN.out (zs.getD j 0))
      have HS0 := Lib.hid (show hiK zs (zs.getD j 0) 0 = c30 (zs.getD j 0) from rfl)
      obtain ⟨pa, oa, rfl, hc⟩ := HAB.out.at (show j < zs.length by rw [HZL.out]; exact hlt)
      generalize hzj : zs.getD j 0 = z at hc HHJ HNJ HS0
      have HZJ := Lib.hid hzj
      rw [hzj] at HXJ
      clear hzj
      generalize wr = wo at HO HB HAB hc ⊢
      go_wp2_with (fail)
      refine (ref12_clamp z wo).mono ?_
      rintro e w1 ⟨rfl, rfl⟩
      go_wp2_with (fail)
      go_loopw [5, 6] (fun h i wr => ∃ k : Nat, i = .int .i64 (k : Int) ∧ k ≤ n ∧ h = .int .i64 (hiK zs z k) ∧ wo = wr) (fun _ i _ => match i with | .int _ k => n - k.toNat | _ => 0)
      case atStart => exact ⟨0, rfl, Nat.zero_le _, by rw [HS0.out], rfl⟩
      case round =>
        clear HS0
        obtain ⟨k, rfl, hk, rfl, rfl⟩ := hrel
        have y2 : 0 ≤ (k : Int) := by omega
        by_cases hkn : k < n
        · have y0 : (k : Int) < (n : Int) := by omega
          have y1 : decide ((k : Int) < (n : Int)) = true := decide_eq_true y0
          have HK := Lib.hid (show k + 1 ≤ n by omega)
          obtain ⟨_, _, e2, hcq⟩ := HAB.out.at (show k < zs.length by rw [HZL.out]; exact hkn)
          injection e2 with e2
          injection e2 with e2 e3 _
          subst e2 e3
          have HKN := Lib.hid (HNJ.out k hkn)
          generalize zs.getD k 0 = z2 at hcq HKN
          generalize hiK zs z k = h at HKN ⊢
          have x3 := IntWalk.wrap64_in ((k : Int) + 1) (by omega)
          go_wp2_with (fail)
          refine (ref12_clamp z2 wo).mono ?_
          rintro e w1 ⟨rfl, rfl⟩
          generalize c30 z2 = y at HKN ⊢
          go_wp2_with (fail)
          exact ⟨⟨k + 1, rfl, HK.out, by rw [HKN.out, ite_max], by trivial⟩, vc_less k n hkn⟩
        · have hke : k = n := by omega
          have y0 : ¬ (k : Int) < (n : Int) := by omega
          have y1 : decide ((k : Int) < (n : Int)) = false := decide_eq_false y0
          rw [hke, HHJ.out]
          have hs := HHS.out z
          have W1 := Lib.hid (show wrap64 (hh - c30 z) = hh - c30 z from IntWalk.wrap64_in _ (by omega))
          have HEX := Lib.hid (ref12_exp (hh - c30 z) wo (by omega))
          have HCL := Lib.hid (ref12_clamp z wo)
          clear hs HNJ HHN HAT HHS HHA
          generalize c30 z = y at W1 HEX HXJ HCL
          go_wp2_with (fail)
          refine HCL.out.mono ?_
          rintro e w1 ⟨rfl, rfl⟩
          go_wp2_with (fail)
          rw [W1.out]
          refine HEX.out.mono ?_
          rintro e w4 ⟨rfl, b4⟩
          rw [← HXJ.out]
          have HB4 := Lib.hid (HB.out.trans (b4.mono HB.out.size))
          have HO4 := Lib.hid (HO.out.below b4 (Nat.le_refl _))
          have HW4 := Lib.hid (Own.at HO4.out HOL.out)
          clear b4 HB HO HCL HEX HXJ
          generalize R.getD j 0 = z at HRN ⊢
          go_wp2_with (at_builtin; refine wpList_append_lies _ rfl (.tmp 32) (.tmp 41) 22 rfl w.heap.size 3 i0 _ 1 8 Tryd.underlying22 HI.out HZ0.out HZ1.out HZ2.out rfl Nat.one_pos (.slice G j cg) j _ rfl (HW4.out.alloc _) ⟨w4.heap.size, 0, none⟩ 1 1 [.int .i64 z] rfl rfl (one_src w4 z) (one_one z) Nat.one_pos HMJ.out.1 HMJ.out.2 (base_le HB4.out rfl _) _ rfl ?_; intro gg cap wz hownz hgrow hat hltz)
          have HON := Lib.hid (Own.grew HOL.out hownz)
          have HBN := Lib.hid (below_grew HB4.out rfl HO4.out _ hgrow)
          rw [← HRN.out] at HON
          clear hownz hgrow hat hltz
          have x3 := IntWalk.wrap64_in ((j : Int) + 1) (by omega)
          go_wp2_with (fail)
          exact ⟨⟨j + 1, _, cap, rfl, HJ.out, rfl, HON.out, HBN.out⟩, vc_less j n hlt⟩
    · have hke : j = n := by omega
      have x0 : ¬ (j : Int) < (n : Int) := by omega
      have x1 : decide ((j : Int) < (n : Int)) = false := decide_eq_false x0
      have HT := Lib.hid (show R.take j = R from List.take_of_length_le (by rw [HLR.out]; omega))
      rw [HT.out] at HO
      go_wp2_with (fail)
      refine bodyPost_ret (results_tmp rfl _ _ _) rfl ?_
      refine ⟨G, cg, ?_, Own.kin HO.out, HB.out⟩
      rw [HLR.out, ← hke]
      rfl
end
end Go.Proofs.YtghlapaoebelpaaDoor
