/-
  What layer 12's statements ask first: some answers by number. Conditions: the table lies where the program looks.
-/
import Derived.Test.YtghlapaoebelpaaDoorSf3
import Derived.Test.YtghlapaoebelpaaDoorSf4
import Derived.Test.YtghlapaoebelpaaDoorSf6
import Derived.Test.YtghlapaoebelpaaDoorVcInts
namespace Go.Proofs.YtghlapaoebelpaaDoor
open Go.ChangeShapes Go.WideShapes Go.ChangeAt Go.RowKit Nm Vc Sf

namespace Sf
theorem ex_weights : weightsL [5, 5, -3] = [65536, 65536, 32768] := by decide +kernel
theorem ex_mixL : mixL [1, 3] [[0, 8], [4, -8]] 2 = [3, -4] := by decide +kernel
theorem ex_mix : mixR [1, 3] [[0, 8], [4, -8]] = [3, -4] := by
  rw [mixR_ok]
  · exact ex_mixL
  · refine ⟨inW_iff.2 (by decide), by decide, rfl, fun i hi => ?_⟩
    match i, hi with
    | 0, _ => rfl
    | 1, _ => rfl
theorem ex_choose1 : chooseL 5 [3, 0, 4] = 2 := by decide +kernel
theorem ex_choose2 : chooseL (-1) [3, 4] = 1 := by decide +kernel
theorem ex_best : bestL [1, 7, 7] = 1 := by decide +kernel
theorem ex_best0 : bestL [] = -1 := by decide +kernel
theorem ex_even : ∀ i, i < 2 → (([[0, 8], [4, -8]] : List (List Int)).getD i []).length ≤ 1000000 := fun i hi => by
  match i, hi with
  | 0, _ => show 2 ≤ 1000000; omega
  | 1, _ => show 2 ≤ 1000000; omega
end Sf
set_option maxRecDepth 100000 in
set_option maxHeartbeats 1600000 in
theorem awake12 (w : World) (hp : POn w) : Calls Tryd.prog 8 #[] w fun e w' => e = .returned (.bool true) ∧ Below w.heap.size w w' := by
  have HP := Lib.hid hp
  have HWE := Lib.hid (fun (W : World) (A : Option Addr) (c : Nat) (hA : KIn .i64 W A [5, 5, -3]) (h : POn W) =>
    show Calls Tryd.prog 12 #[.slice A 3 c] W (fun e w' => ∃ R c, e = .returned (.slice R 3 c) ∧ KIn .i64 w' R [65536, 65536, 32768] ∧ Below W.heap.size W w') from by
      have := soft_weights W A 3 c [5, 5, -3] rfl (by omega) hA h
      rw [ex_weights] at this
      exact this)
  have HMX := Lib.hid (fun (W : World) (A : Option Addr) (c : Nat) (E : Option Addr) (ce : Nat) (B : Nat → Option Addr) (C : Nat → Nat) (hA : KIn .i64 W A [1, 3]) (hE : LIn W E B C [[0, 8], [4, -8]]) =>
    show Calls Tryd.prog 18 #[.slice A 2 c, .slice E 2 ce] W (fun e w' => ∃ R c, e = .returned (.slice R 2 c) ∧ KIn .i64 w' R [3, -4] ∧ Below W.heap.size W w') from by
      have := soft_mix W A c [1, 3] E ce B C [[0, 8], [4, -8]] 2 2 rfl (by omega) rfl (by omega) hA hE ex_even
      rw [ex_mix] at this
      exact this)
  have HC1 := Lib.hid (fun (W : World) (A : Option Addr) (c : Nat) (hA : KIn .i64 W A [3, 0, 4]) => ex_choose1 ▸ soft_choose W 5 A 3 c [3, 0, 4] rfl (by omega) hA)
  have HC2 := Lib.hid (fun (W : World) (A : Option Addr) (c : Nat) (hA : KIn .i64 W A [3, 4]) => ex_choose2 ▸ soft_choose W (-1) A 2 c [3, 4] rfl (by omega) hA)
  have HB1 := Lib.hid (fun (W : World) (A : Option Addr) (c : Nat) (hA : KIn .i64 W A [1, 7, 7]) => ex_best ▸ soft_best W A 3 c [1, 7, 7] rfl (by omega) hA)
  have HB2 := Lib.hid (fun (W : World) (A : Option Addr) (c : Nat) => ex_best0 ▸ soft_best W A 0 c [] rfl (by omega) (KIn.nil _ _ _))
  clear hp
  go_enter Tryd.func8, Tryd.ntmps8
  go_wp2_with (fail)
  have b0 := (Below.refl w.heap.size w).alloc (Nat.le_refl _) (.cells #[.int .i64 5, .int .i64 5, .int .i64 (-3)] 3)
  refine (HWE.out _ _ 3 (kin3 w _ 5 5 (-3) rfl) (HP.out.below b0 (Nat.le_refl _))).mono ?_
  rintro e w1 ⟨R1, c1, rfl, k1, b1⟩
  have H1 := Lib.hid (b0.trans (b1.mono b0.size))
  have K1 := Lib.hid k1
  clear b0 b1 k1 HWE HP
  go_wp2_with (fail)
  refine (ints_same _ R1 3 c1 _ 3 [65536, 65536, 32768] rfl (by omega) (K1.out.alloc _) (kin3 w1 _ 65536 65536 32768 rfl)).mono ?_
  rintro e w2 ⟨rfl, d2, rfl⟩
  have H2 := Lib.hid (below_drewN (H1.out.alloc H1.out.size (.cells #[.int .i64 65536, .int .i64 65536, .int .i64 32768] 3)) d2)
  clear H1 K1
  generalize (w1.alloc (.cells #[.int .i64 65536, .int .i64 65536, .int .i64 32768] 3)).drewN d2 = w2 at H2 ⊢
  go_wp2_with (fail)
  have l3 := lin2 (c := 2) (d := 2) (w := ((w2.alloc (.cells #[.int .i64 1, .int .i64 3] 3)).alloc (.cells #[.int .i64 0, .int .i64 8] 3)).alloc (.cells #[.int .i64 4, .int .i64 (-8)] 3)) (w2.heap.size + 1 + 1 + 1) (by simp) (n := 2) (m := 2) (zs := [0, 8]) (us := [4, -8]) rfl rfl ((kin2 (w2.alloc (.cells #[.int .i64 1, .int .i64 3] 3)) (w2.heap.size + 1) 0 8 (by simp)).alloc _) (kin2 _ (w2.heap.size + 1 + 1) 4 (-8) (by simp))
  have k3 := (((kin2 w2 _ 1 3 rfl).alloc (.cells #[.int .i64 0, .int .i64 8] 3)).alloc (.cells #[.int .i64 4, .int .i64 (-8)] 3)).alloc (.cells #[.slice (some ⟨w2.heap.size + 1, 0, none⟩) 2 2, .slice (some ⟨w2.heap.size + 1 + 1, 0, none⟩) 2 2] 22)
  refine (HMX.out _ _ 2 _ 2 _ _ k3 l3).mono ?_
  rintro e w4 ⟨P, cp, rfl, kp, b4⟩
  have b5 := ((((Below.refl w2.heap.size w2).alloc (Nat.le_refl _) (.cells #[.int .i64 1, .int .i64 3] 3)).alloc (by simp) (.cells #[.int .i64 0, .int .i64 8] 3)).alloc (by simp; omega) (.cells #[.int .i64 4, .int .i64 (-8)] 3)).alloc (by simp; omega) (.cells #[.slice (some ⟨w2.heap.size + 1, 0, none⟩) 2 2, .slice (some ⟨w2.heap.size + 1 + 1, 0, none⟩) 2 2] 22)
  have H4 := Lib.hid (H2.out.trans ((b5.trans (b4.mono b5.size)).mono H2.out.size))
  have K4 := Lib.hid kp
  clear b5 b4 kp k3 l3 H2 HMX
  go_wp2_with (fail)
  refine (ints_same _ P 2 cp _ 2 [3, -4] rfl (by omega) (K4.out.alloc _) (kin2 w4 _ 3 (-4) rfl)).mono ?_
  rintro e w5 ⟨rfl, d5, rfl⟩
  have H5 := Lib.hid (below_drewN (H4.out.alloc H4.out.size (.cells #[.int .i64 3, .int .i64 (-4)] 3)) d5)
  clear H4 K4
  generalize (w4.alloc (.cells #[.int .i64 3, .int .i64 (-4)] 3)).drewN d5 = w5 at H5 ⊢
  go_wp2_with (fail)
  refine (HC1.out _ _ 3 (kin3 w5 _ 3 0 4 rfl)).mono ?_
  rintro e w6 ⟨rfl, rfl⟩
  have H6 := Lib.hid (H5.out.alloc H5.out.size (.cells #[.int .i64 3, .int .i64 0, .int .i64 4] 3))
  clear H5 HC1
  generalize w5.alloc (.cells #[.int .i64 3, .int .i64 0, .int .i64 4] 3) = w6 at H6 ⊢
  go_wp2_with (fail)
  refine (HC2.out _ _ 2 (kin2 w6 _ 3 4 rfl)).mono ?_
  rintro e w7 ⟨rfl, rfl⟩
  have H7 := Lib.hid (H6.out.alloc H6.out.size (.cells #[.int .i64 3, .int .i64 4] 3))
  clear H6 HC2
  generalize w6.alloc (.cells #[.int .i64 3, .int .i64 4] 3) = w7 at H7 ⊢
  go_wp2_with (fail)
  refine (HB1.out _ _ 3 (kin3 w7 _ 1 7 7 rfl)).mono ?_
  rintro e w8 ⟨rfl, rfl⟩
  have H8 := Lib.hid (H7.out.alloc H7.out.size (.cells #[.int .i64 1, .int .i64 7, .int .i64 7] 3))
  clear H7 HB1
  generalize w7.alloc (.cells #[.int .i64 1, .int .i64 7, .int .i64 7] 3) = w8 at H8 ⊢
  go_wp2_with (fail)
  refine (HB2.out _ _ _).mono ?_
  rintro e w9 ⟨rfl, rfl⟩
  go_wp2_with (fail)
  refine bodyPost_ret (results_tmp rfl _ _ _) rfl ?_
  exact ⟨rfl, H8.out⟩
end Go.Proofs.YtghlapaoebelpaaDoor
