/-
  Law 12's SoftExact: it answers true, whatever the numbers are. Conditions: the numbers are there; the table lies where the program looks.
-/
import Derived.Test.YtghlapaoebelpaaDoorSfAwake12
import Derived.Test.YtghlapaoebelpaaDoorSf8
import Derived.Test.YtghlapaoebelpaaDoorSf9
namespace Go.Proofs.YtghlapaoebelpaaDoor.softExact
open Go.ChangeShapes Go.WideShapes Go.ChangeAt Go.RowKit Nm Vc Sf

set_option maxRecDepth 100000 in
set_option maxHeartbeats 3200000 in
theorem walk (w : World) (A : Option Addr) (n c : Nat) (zs : List Int) (draw below : Int) (hbl : below ≤ 9223372036854775807) (hz : zs.length = n) (hA : KIn .i64 w A zs) (hp : POn w) :
    Calls Tryd.prog 3 #[.slice A n c, .int .i64 draw, .int .i64 below] w fun e w' => e = .returned (.bool true) ∧ Below w.heap.size w w' := by
  have HA := Lib.hid hA
  have HP := Lib.hid hp
  have HZ := Lib.hid hz
  clear hA hp hz
  by_cases h70 : 70 < n
  · have t0 : 70 < (n : Int) := by omega
    have t1 : decide (70 < (n : Int)) = true := decide_eq_true t0
    go_enter Tryd.func3, Tryd.ntmps3
    go_wp2_with (fail)
    refine (awake12 _ HP.out).mono ?_
    rintro e w1 ⟨rfl, b1⟩
    have B1 := Lib.hid b1
    clear b1
    go_wp2_with (fail)
    refine bodyPost_ret (results_tmp rfl _ _ _) rfl ?_
    exact ⟨rfl, B1.out⟩
  · have t0 : ¬ 70 < (n : Int) := by omega
    have t1 : decide (70 < (n : Int)) = false := decide_eq_false t0
    have HM := Lib.hid (show n ≤ 1000000 by omega)
    have HM4 := Lib.hid (show n ≤ 4096 by omega)
    have HLR := Lib.hid ((weightsL_length zs).trans HZ.out)
    go_enter Tryd.func3, Tryd.ntmps3
    go_wp2_with (fail)
    refine (awake12 _ HP.out).mono ?_
    rintro e w1 ⟨rfl, b1⟩
    have B1 := Lib.hid b1
    clear b1
    go_wp2_with (fail)
    refine (soft_exp below w1 hbl (HP.out.below B1.out (Nat.le_refl _))).mono ?_
    rintro e w2 ⟨rfl, rfl⟩
    go_wp2_with (fail)
    refine (ref12_exp below w1 hbl).mono ?_
    rintro e w2 ⟨rfl, b2⟩
    have B2 := Lib.hid (B1.out.trans (b2.mono B1.out.size))
    clear b2 B1
    generalize expZ below = x
    go_wp2_with (fail)
    refine (soft_weights w2 A n c zs HZ.out HM.out (HA.out.below B2.out (Nat.le_refl _)) (HP.out.below B2.out (Nat.le_refl _))).mono ?_
    rintro e w3 ⟨R3, c3, rfl, k3, b3⟩
    have B3 := Lib.hid (B2.out.trans (b3.mono B2.out.size))
    have K3 := Lib.hid k3
    clear b3 k3 B2
    rw [HLR.out]
    go_wp2_with (fail)
    refine (ref12_weights w3 A n c zs HZ.out HM4.out (HA.out.below B3.out (Nat.le_refl _))).mono ?_
    rintro e w4 ⟨R4, c4, rfl, k4, b4⟩
    have B4 := Lib.hid (B3.out.trans (b4.mono B3.out.size))
    have K4 := Lib.hid k4
    have K3 := Lib.hid (K3.out.below b4 (Nat.le_refl _))
    clear b4 k4 B3
    rw [HLR.out]
    go_wp2_with (fail)
    refine (ints_same w4 R3 n c3 R4 c4 _ HLR.out HM.out K3.out K4.out).mono ?_
    rintro e w5 ⟨rfl, d5, rfl⟩
    have B5 := Lib.hid (below_drewN B4.out d5)
    clear K3 K4 B4
    generalize w4.drewN d5 = w5 at B5 ⊢
    go_wp2_with (fail)
    refine (soft_choose w5 draw A n c zs HZ.out HM.out (HA.out.below B5.out (Nat.le_refl _))).mono ?_
    rintro e w6 ⟨rfl, rfl⟩
    go_wp2_with (fail)
    refine (ref12_choose w5 draw A n c zs HZ.out HM.out (HA.out.below B5.out (Nat.le_refl _))).mono ?_
    rintro e w6 ⟨rfl, rfl⟩
    generalize chooseL draw zs = y
    go_wp2_with (fail)
    refine (soft_best w5 A n c zs HZ.out HM.out (HA.out.below B5.out (Nat.le_refl _))).mono ?_
    rintro e w6 ⟨rfl, rfl⟩
    go_wp2_with (fail)
    refine (ref12_best w5 A n c zs HZ.out HM.out (HA.out.below B5.out (Nat.le_refl _))).mono ?_
    rintro e w6 ⟨rfl, d6, rfl⟩
    have B6 := Lib.hid (below_drewN B5.out d6)
    generalize bestL zs = z
    go_wp2_with (fail)
    refine bodyPost_ret (results_tmp rfl _ _ _) rfl ?_
    exact ⟨rfl, B6.out⟩
end Go.Proofs.YtghlapaoebelpaaDoor.softExact
