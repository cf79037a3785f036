/-
  What layer 13's statements ask first: some answers by number. No conditions.
-/
import Derived.Test.YtgoeaepjffimgaaNr2
import Derived.Test.YtgoeaepjffimgaaVcInts
import Derived.Test.YtgoeaepjffimgaaVcKin
namespace Go.Proofs.Ytgoeaepjffimgaa
open Go.ChangeShapes Go.WideShapes Go.ChangeAt Go.RowKit Nm Vc Nr

namespace Nr
theorem sqrt_small (n s : Int) (h0 : 0 ≤ s) (h1 : s * s ≤ n) (h2 : n < (s + 1) * (s + 1)) : sqrt n + 1 = s + 1 := by rw [sqrt_only n s h0 h1 h2]
theorem ex_root2 : rootL [300, -300] = 301 := (sqrt_small _ 300 (by omega) (by decide +kernel) (by decide +kernel))
theorem ex_root34 : rootL [3, 4] = 4 := (sqrt_small _ 3 (by omega) (by decide +kernel) (by decide +kernel))
theorem ex_root8 : rootL [8] = 9 := (sqrt_small _ 8 (by omega) (by decide +kernel) (by decide +kernel))
theorem ex_of : ofL [0, 0] [300, -300] = [63, -63] := by
  rw [ofL_same (show ([0, 0] : List Int).length = ([300, -300] : List Int).length from rfl)]
  unfold normL
  rw [ex_root2]
  decide +kernel
theorem ex_plain : plain [8] = [56] := by
  unfold plain normL
  rw [ex_root8]
  decide +kernel
end Nr
set_option maxRecDepth 100000 in
set_option maxHeartbeats 1600000 in
theorem awake13 (w : World) : Calls Try.prog 6 #[] w fun e w' => e = .returned (.bool true) ∧ Below w.heap.size w w' := by
  have HOF := Lib.hid (fun (W : World) (G : Option Addr) (d : Nat) (A : Option Addr) (c : Nat) (hG : KIn .i64 W G [0, 0]) (hA : KIn .i64 W A [300, -300]) =>
    show Calls Try.prog 10 #[.slice G 2 d, .slice A 2 c] W (fun e w' => ∃ R c, e = .returned (.slice R 2 c) ∧ KIn .i64 w' R [63, -63] ∧ Below W.heap.size W w') from by
      have := norm_of W G 2 d [0, 0] A 2 c [300, -300] rfl rfl (by omega) hG hA
      rw [ex_of] at this
      exact this)
  have HR0 := Lib.hid (fun (W : World) => root_nil ▸ norm_root W none 0 0 [] rfl (by omega) (KIn.nil _ _ _))
  have HR2 := Lib.hid (fun (W : World) (A : Option Addr) (c : Nat) (hA : KIn .i64 W A [3, 4]) => ex_root34 ▸ norm_root W A 2 c [3, 4] rfl (by omega) hA)
  have HPL := Lib.hid (fun (W : World) (A : Option Addr) (c : Nat) (hA : KIn .i64 W A [8]) =>
    show Calls Try.prog 12 #[.slice A 1 c] W (fun e w' => ∃ R c, e = .returned (.slice R 1 c) ∧ KIn .i64 w' R [56] ∧ Below W.heap.size W w') from by
      have := norm_plain W A 1 c [8] rfl (by omega) hA
      rw [ex_plain] at this
      exact this)
  go_enter Try.func6, Try.ntmps6
  go_wp2_with (fail)
  have b0 := ((Below.refl w.heap.size w).alloc (Nat.le_refl _) (.cells #[.int .i64 0, .int .i64 0] 3)).alloc (by simp) (.cells #[.int .i64 300, .int .i64 (-300)] 3)
  refine (HOF.out _ _ 2 _ 2 ((kin2 w _ 0 0 rfl).alloc _) (kin2 _ (w.heap.size + 1) 300 (-300) (by simp))).mono ?_
  rintro e w1 ⟨R1, c1, rfl, k1, b1⟩
  have H1 := Lib.hid (b0.trans (b1.mono b0.size))
  have K1 := Lib.hid k1
  clear b0 b1 k1 HOF
  go_wp2_with (fail)
  refine (ints_same _ R1 2 c1 _ 2 [63, -63] rfl (by omega) (K1.out.alloc _) (kin2 w1 _ 63 (-63) rfl)).mono ?_
  rintro e w2 ⟨rfl, d2, rfl⟩
  have H2 := Lib.hid (below_drewN (H1.out.alloc H1.out.size (.cells #[.int .i64 63, .int .i64 (-63)] 3)) d2)
  clear H1 K1
  generalize (w1.alloc (.cells #[.int .i64 63, .int .i64 (-63)] 3)).drewN d2 = w2 at H2 ⊢
  go_wp2_with (fail)
  refine (HR0.out _).mono ?_
  rintro e w3 ⟨rfl, b3⟩
  have H3 := Lib.hid (H2.out.trans (b3.mono H2.out.size))
  clear H2 b3 HR0
  go_wp2_with (fail)
  refine (HR2.out _ _ 2 (kin2 w3 _ 3 4 rfl)).mono ?_
  rintro e w4 ⟨rfl, b4⟩
  have b5 := (Below.refl w3.heap.size w3).alloc (Nat.le_refl _) (.cells #[.int .i64 3, .int .i64 4] 3)
  have H4 := Lib.hid (H3.out.trans ((b5.trans (b4.mono b5.size)).mono H3.out.size))
  clear H3 b4 b5 HR2
  go_wp2_with (fail)
  refine (HPL.out _ _ 1 (kin1 w4 _ 8 rfl)).mono ?_
  rintro e w6 ⟨R6, c6, rfl, k6, b6⟩
  have b5 := (Below.refl w4.heap.size w4).alloc (Nat.le_refl _) (.cells #[.int .i64 8] 3)
  have H6 := Lib.hid (H4.out.trans ((b5.trans (b6.mono b5.size)).mono H4.out.size))
  have K6 := Lib.hid k6
  clear H4 b6 b5 HPL k6
  go_wp2_with (fail)
  refine (ints_same _ R6 1 c6 _ 1 [56] rfl (by omega) (K6.out.alloc _) (kin1 w6 _ 56 rfl)).mono ?_
  rintro e w7 ⟨rfl, d7, rfl⟩
  have H7 := Lib.hid (below_drewN (H6.out.alloc H6.out.size (.cells #[.int .i64 56] 3)) d7)
  clear H6 K6
  generalize (w6.alloc (.cells #[.int .i64 56] 3)).drewN d7 = w7 at H7 ⊢
  go_wp2_with (fail)
  refine bodyPost_ret (results_tmp rfl _ _ _) rfl ?_
  exact ⟨rfl, H7.out⟩
end Go.Proofs.Ytgoeaepjffimgaa
