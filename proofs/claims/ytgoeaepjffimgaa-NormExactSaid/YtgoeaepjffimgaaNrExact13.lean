/-
  Law 13's NormExact: it answers true, whatever the gains and the row are. Conditions: the numbers are there.
-/
import Derived.Test.YtgoeaepjffimgaaNrAwake13
import Derived.Test.YtgoeaepjffimgaaNr3
namespace Go.Proofs.Ytgoeaepjffimgaa.normExact
open Go.ChangeShapes Go.WideShapes Go.ChangeAt Go.RowKit Nm Vc Nr

set_option maxRecDepth 100000 in
set_option maxHeartbeats 800000 in
theorem walk_out (w : World) (G : Option Addr) (m d : Nat) (A : Option Addr) (n c : Nat) (h : 64 < n ∨ 64 < m) :
    Calls Try.prog 3 #[.slice G m d, .slice A n c] w fun e w' => e = .returned (.bool true) ∧ Below w.heap.size w w' := by
  by_cases h1 : 64 < n
  · have t0 : 64 < (n : Int) := by omega
    have t1 : decide (64 < (n : Int)) = true := decide_eq_true t0
    clear h
    go_enter Try.func3, Try.ntmps3
    go_wp2_with (fail)
    refine (awake13 _).mono ?_
    rintro e w1 ⟨rfl, b1⟩
    have B1 := Lib.hid b1
    clear b1
    go_wp2_with (fail)
    refine bodyPost_ret (results_tmp rfl _ _ _) rfl ?_
    exact ⟨rfl, B1.out⟩
  have t0 : ¬ 64 < (n : Int) := by omega
  have t1 : decide (64 < (n : Int)) = false := decide_eq_false t0
  have t2 : 64 < (m : Int) := by omega
  have t3 : decide (64 < (m : Int)) = true := decide_eq_true t2
  clear h h1
  go_enter Try.func3, Try.ntmps3
  go_wp2_with (fail)
  refine (awake13 _).mono ?_
  rintro e w1 ⟨rfl, b1⟩
  have B1 := Lib.hid b1
  clear b1
  go_wp2_with (fail)
  refine bodyPost_ret (results_tmp rfl _ _ _) rfl ?_
  exact ⟨rfl, B1.out⟩
set_option maxRecDepth 100000 in
set_option maxHeartbeats 3200000 in
theorem walk_in (w : World) (G : Option Addr) (m d : Nat) (gs : List Int) (A : Option Addr) (n c : Nat) (zs : List Int) (hg : gs.length = m) (hz : zs.length = n) (hG : KIn .i64 w G gs) (hA : KIn .i64 w A zs) (hn : n ≤ 64) (hm : m ≤ 64) :
    Calls Try.prog 3 #[.slice G m d, .slice A n c] w fun e w' => e = .returned (.bool true) ∧ Below w.heap.size w w' := by
  have HA := Lib.hid hA
  have HG := Lib.hid hG
  have HZ := Lib.hid hz
  have HGL := Lib.hid hg
  have t0 : ¬ 64 < (n : Int) := by omega
  have t1 : decide (64 < (n : Int)) = false := decide_eq_false t0
  have t2 : ¬ 64 < (m : Int) := by omega
  have t3 : decide (64 < (m : Int)) = false := decide_eq_false t2
  have HM := Lib.hid (show n ≤ 1000000 by omega)
  have HM4 := Lib.hid (show n ≤ 4096 by omega)
  obtain ⟨i0, hi, hz0, hz1, hz2⟩ := info_parts info_int
  have HI := Lib.hid hi
  have HZ0 := Lib.hid hz0
  have HZ1 := Lib.hid hz1
  have HZ2 := Lib.hid hz2
  clear hi hz0 hz1 hz2 hA hG hg hz
  go_enter Try.func3, Try.ntmps3
  go_wp2_with (fail)
  refine (awake13 _).mono ?_
  rintro e w1 ⟨rfl, b1⟩
  have B1 := Lib.hid b1
  clear b1
  go_wp2_with (at_make; refine wpList_make_row _ rfl _ _ 22 rfl 3 i0 (.int .i64 0) Try.underlying22 HI.out HZ0.out HZ1.out rfl .i64 .i64 n rfl rfl (by rw [HZ2.out]; omega) (by omega) ?_)
  have Z0 := Lib.hid (kin_zero (World.rowIs_made w1 (.int .i64 0) n 3))
  have B2 := Lib.hid (B1.out.alloc B1.out.size (.cells (madeCells #[.int .i64 0] n) 3))
  generalize w1.alloc (.cells (madeCells #[.int .i64 0] n) 3) = w2 at Z0 B2 ⊢
  generalize (some ⟨w1.heap.size, 0, none⟩ : Option Addr) = Z at Z0 ⊢
  clear B1
  refine (norm_root w2 A n c zs HZ.out HM.out (HA.out.below B2.out (Nat.le_refl _))).mono ?_
  rintro e w3 ⟨rfl, b3⟩
  have B3 := Lib.hid (B2.out.trans (b3.mono B2.out.size))
  have Z1 := Lib.hid (Z0.out.below b3 (Nat.le_refl _))
  clear b3 B2 Z0
  go_wp2_with (fail)
  refine (ref13_root w3 A n c zs HZ.out HM.out (HA.out.below B3.out (Nat.le_refl _))).mono ?_
  rintro e w4 ⟨rfl, rfl⟩
  generalize rootL zs = r
  go_wp2_with (fail)
  refine (norm_of w3 G m d gs A n c zs HGL.out HZ.out HM.out (HG.out.below B3.out (Nat.le_refl _)) (HA.out.below B3.out (Nat.le_refl _))).mono ?_
  rintro e w4 ⟨R4, c4, rfl, k4, b4⟩
  have B4 := Lib.hid (B3.out.trans (b4.mono B3.out.size))
  have K4 := Lib.hid k4
  have Z4 := Lib.hid (Z1.out.below b4 (Nat.le_refl _))
  clear b4 k4 B3 Z1
  have HRF := Lib.hid (ref13_of w4 G m d gs A n c zs HGL.out HZ.out HM4.out (HG.out.below B4.out (Nat.le_refl _)) (HA.out.below B4.out (Nat.le_refl _)))
  have HLL := Lib.hid (show (ofL gs zs).length ≤ 1000000 by
    unfold ofL
    split
    · rw [normL_length, HZ.out]; exact HM.out
    · exact Nat.zero_le _)
  generalize ofL gs zs = L at K4 HRF HLL ⊢
  go_wp2_with (fail)
  refine HRF.out.mono ?_
  rintro e w5 ⟨R5, c5, rfl, k5, b5⟩
  have B5 := Lib.hid (B4.out.trans (b5.mono B4.out.size))
  have K5 := Lib.hid k5
  have Z5 := Lib.hid (Z4.out.below b5 (Nat.le_refl _))
  have K45 := Lib.hid (K4.out.below b5 (Nat.le_refl _))
  clear b5 k5 B4 K4 Z4 HRF
  generalize hll : L.length = l at HLL ⊢
  go_wp2_with (fail)
  refine (ints_same w5 R4 l c4 R5 c5 L hll HLL.out K45.out K5.out).mono ?_
  rintro e w6 ⟨rfl, d6, rfl⟩
  have B6 := Lib.hid (below_drewN B5.out d6)
  have Z6 := Lib.hid (Z5.out.drewN d6)
  clear K45 K5 B5 Z5 hll HLL
  generalize w5.drewN d6 = w6 at B6 Z6 ⊢
  go_wp2_with (fail)
  refine (norm_plain w6 A n c zs HZ.out HM.out (HA.out.below B6.out (Nat.le_refl _))).mono ?_
  rintro e w7 ⟨R7, c7, rfl, k7, b7⟩
  have B7 := Lib.hid (B6.out.trans (b7.mono B6.out.size))
  have K7 := Lib.hid k7
  have Z7 := Lib.hid (Z6.out.below b7 (Nat.le_refl _))
  clear b7 k7 B6 Z6
  have HRF := Lib.hid (fun d => ref13_of w7 Z n d (zeroL n) A n c zs (zeroL_length n) HZ.out HM4.out Z7.out (HA.out.below B7.out (Nat.le_refl _)))
  have HEQ : ofL (zeroL n) zs = plain zs := by
    rw [ofL_same (by rw [zeroL_length, HZ.out])]
    unfold plain
    rw [HZ.out]
  have HPL := Lib.hid ((plain_length zs).trans HZ.out)
  rw [HEQ] at HRF
  clear HEQ
  generalize plain zs = P at HRF HPL K7 ⊢
  rw [HPL.out]
  go_wp2_with (fail)
  refine (HRF.out _).mono ?_
  rintro e w8 ⟨R8, c8, rfl, k8, b8⟩
  have B8 := Lib.hid (B7.out.trans (b8.mono B7.out.size))
  have K8 := Lib.hid k8
  have K78 := Lib.hid (K7.out.below b8 (Nat.le_refl _))
  clear b8 k8 B7 K7 HRF
  rw [HPL.out]
  go_wp2_with (fail)
  refine (ints_same w8 R7 n c7 R8 c8 P HPL.out HM.out K78.out K8.out).mono ?_
  rintro e w9 ⟨rfl, d9, rfl⟩
  have B9 := Lib.hid (below_drewN B8.out d9)
  clear K78 K8 B8
  generalize w8.drewN d9 = w9 at B9 ⊢
  go_wp2_with (fail)
  refine bodyPost_ret (results_tmp rfl _ _ _) rfl ?_
  exact ⟨rfl, B9.out⟩
theorem walk (w : World) (G : Option Addr) (m d : Nat) (gs : List Int) (A : Option Addr) (n c : Nat) (zs : List Int) (hg : gs.length = m) (hz : zs.length = n) (hG : KIn .i64 w G gs) (hA : KIn .i64 w A zs) :
    Calls Try.prog 3 #[.slice G m d, .slice A n c] w fun e w' => e = .returned (.bool true) ∧ Below w.heap.size w w' := by
  by_cases h : 64 < n ∨ 64 < m
  · exact walk_out w G m d A n c h
  · exact walk_in w G m d gs A n c zs hg hz hG hA (by omega) (by omega)
end Go.Proofs.Ytgoeaepjffimgaa.normExact
