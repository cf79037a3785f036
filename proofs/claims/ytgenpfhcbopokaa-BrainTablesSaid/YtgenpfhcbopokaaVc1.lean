/-
  Package vecs: fits and Good; the reference's Good. No conditions.
-/
import Derived.Test.YtgenpfhcbopokaaVcSpec
namespace Go.Proofs.Ytgenpfhcbopokaa
open Go.ChangeShapes Go.WideShapes Go.ChangeAt Go.RowKit Nm Vc

theorem vecs_fits (x : Int) (w : World) : Calls Try.prog 26 #[.int .i64 x] w fun e w' => e = .returned (.bool (fitB x)) ∧ w = w' := by
  by_cases h1 : 1 ≤ x
  · have t1 : decide (1 ≤ x) = true := decide_eq_true h1
    have HF := Lib.hid (show fitB x = decide (x ≤ 64) by unfold fitB; rw [t1, Bool.true_and])
    go_enter Try.func26, Try.ntmps26
    go_wp2_with (fail)
    refine bodyPost_ret (results_tmp rfl _ _ _) rfl ?_
    rw [HF.out]
    exact ⟨rfl, rfl⟩
  · have t1 : decide (1 ≤ x) = false := decide_eq_false h1
    have HF := Lib.hid (show fitB x = false by unfold fitB; rw [t1, Bool.false_and])
    go_enter Try.func26, Try.ntmps26
    go_wp2_with (fail)
    refine bodyPost_ret (results_tmp rfl _ _ _) rfl ?_
    rw [HF.out]
    exact ⟨rfl, rfl⟩
set_option maxRecDepth 100000 in
set_option maxHeartbeats 800000 in
theorem vecs_good (x y : Int) (A : Option Addr) (n c : Nat) (w : World) : Calls Try.prog 33 #[tbV x y A n c] w fun e w' => e = .returned (.bool (goodB x y n)) ∧ Below w.heap.size w w' := by
  have HB := Lib.hid ((Below.refl w.heap.size w).alloc (Nat.le_refl _) (tbO x y A n c))
  unfold tbV tbA
  by_cases hx : fitB x = true
  · by_cases hy : fitB y = true
    · have hs := sides (fitB_iff.1 hx) (fitB_iff.1 hy)
      have HG := Lib.hid (show goodB x y n = ((n : Int) == x * y) by unfold goodB; rw [hx, hy, Bool.true_and, Bool.true_and]; rfl)
      have e1 := IntWalk.wrap64_in (x * y) (by omega)
      have e2 : IntKind.i64.wrap (x * y) = x * y := IntWalk.i64_in _ (by omega)
      generalize hq : x * y = q at e1 e2 HG hs
      go_enter Try.func33, Try.ntmps33
      go_wp2_with (go_at_call 26; refine (vecs_fits _ _).mono ?_; rintro e w' ⟨rfl, rfl⟩)
      refine bodyPost_ret (results_tmp rfl _ _ _) rfl ?_
      rw [HG.out]
      exact ⟨rfl, HB.out⟩
    · have hy' : fitB y = false := by simpa using hy
      have HG := Lib.hid (show goodB x y n = false by unfold goodB; rw [hx, hy']; rfl)
      clear hy
      go_enter Try.func33, Try.ntmps33
      go_wp2_with (go_at_call 26; refine (vecs_fits _ _).mono ?_; rintro e w' ⟨rfl, rfl⟩)
      refine bodyPost_ret (results_tmp rfl _ _ _) rfl ?_
      rw [HG.out]
      exact ⟨rfl, HB.out⟩
  · have hx' : fitB x = false := by simpa using hx
    have HG := Lib.hid (show goodB x y n = false by unfold goodB; rw [hx']; rfl)
    clear hx
    go_enter Try.func33, Try.ntmps33
    go_wp2_with (go_at_call 26; refine (vecs_fits _ _).mono ?_; rintro e w' ⟨rfl, rfl⟩)
    refine bodyPost_ret (results_tmp rfl _ _ _) rfl ?_
    rw [HG.out]
    exact ⟨rfl, HB.out⟩
end Go.Proofs.Ytgenpfhcbopokaa
