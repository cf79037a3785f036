/-
  Package vecs: fits and Good; the reference's Good. No conditions.
-/
import Derived.Test.YtclobdeaocjnoaaVcSpec
namespace Go.Proofs.Ytclobdeaocjnoaa
open Go.ChangeShapes Go.WideShapes Go.ChangeAt Go.RowKit Nm Vc

theorem vecs_fits (x : Int) (w : World) : Calls Try.prog 19 #[.int .i64 x] w fun e w' => e = .returned (.bool (fitB x)) ∧ w = w' := by
  by_cases h1 : 1 ≤ x
  · have t1 : decide (1 ≤ x) = true := decide_eq_true h1
    have HF := Lib.hid (show fitB x = decide (x ≤ 64) by unfold fitB; rw [t1, Bool.true_and])
    go_enter Try.func19, Try.ntmps19
    go_wp2_with (fail)
    refine bodyPost_ret (results_tmp rfl _ _ _) rfl ?_
    rw [HF.out]
    exact ⟨rfl, rfl⟩
  · have t1 : decide (1 ≤ x) = false := decide_eq_false h1
    have HF := Lib.hid (show fitB x = false by unfold fitB; rw [t1, Bool.false_and])
    go_enter Try.func19, Try.ntmps19
    go_wp2_with (fail)
    refine bodyPost_ret (results_tmp rfl _ _ _) rfl ?_
    rw [HF.out]
    exact ⟨rfl, rfl⟩
set_option maxRecDepth 100000 in
set_option maxHeartbeats 800000 in
theorem vecs_good (x y : Int) (A : Option Addr) (n c : Nat) (w : World) : Calls Try.prog 9 #[tbV x y A n c] w fun e w' => e = .returned (.bool (goodB x y n)) ∧ Below w.heap.size w w' := by
  have HB := Lib.hid ((Below.refl w.heap.size w).alloc (Nat.le_refl _) (tbO x y A n c))
  unfold tbV tbA
  by_cases hx : fitB x = true
  · by_cases hy : fitB y = true
    · have hs := sides (fitB_iff.1 hx) (fitB_iff.1 hy)
      have HG := Lib.hid (show goodB x y n = ((n : Int) == x * y) by unfold goodB; rw [hx, hy, Bool.true_and, Bool.true_and]; rfl)
      have e1 := IntWalk.wrap64_in (x * y) (by omega)
      have e2 : IntKind.i64.wrap (x * y) = x * y := IntWalk.i64_in _ (by omega)
      generalize hq : x * y = q at e1 e2 HG hs
      go_enter Try.func9, Try.ntmps9
      go_wp2_with (go_at_call 19; refine (vecs_fits _ _).mono ?_; rintro e w' ⟨rfl, rfl⟩)
      refine bodyPost_ret (results_tmp rfl _ _ _) rfl ?_
      rw [HG.out]
      exact ⟨rfl, HB.out⟩
    · have hy' : fitB y = false := by simpa using hy
      have HG := Lib.hid (show goodB x y n = false by unfold goodB; rw [hx, hy']; rfl)
      clear hy
      go_enter Try.func9, Try.ntmps9
      go_wp2_with (go_at_call 19; refine (vecs_fits _ _).mono ?_; rintro e w' ⟨rfl, rfl⟩)
      refine bodyPost_ret (results_tmp rfl _ _ _) rfl ?_
      rw [HG.out]
      exact ⟨rfl, HB.out⟩
  · have hx' : fitB x = false := by simpa using hx
    have HG := Lib.hid (show goodB x y n = false by unfold goodB; rw [hx']; rfl)
    clear hx
    go_enter Try.func9, Try.ntmps9
    go_wp2_with (go_at_call 19; refine (vecs_fits _ _).mono ?_; rintro e w' ⟨rfl, rfl⟩)
    refine bodyPost_ret (results_tmp rfl _ _ _) rfl ?_
    rw [HG.out]
    exact ⟨rfl, HB.out⟩
theorem ref11_good (x y : Int) (n : Nat) (w : World) : Calls Try.prog 7 #[.int .i64 x, .int .i64 y, .int .i64 n] w fun e w' => e = .returned (.bool (goodB x y n)) ∧ w = w' := by
  have fin : ∀ a b : Bool, fitB x = a → fitB y = b → goodB x y n = (a && (b && ((n : Int) == x * y))) := fun a b h1 h2 => by unfold goodB; rw [h1, h2]; rfl
  have HF := Lib.hid fin
  clear fin
  by_cases h1 : 1 ≤ x
  · have t1 : decide (1 ≤ x) = true := decide_eq_true h1
    by_cases h2 : x ≤ 64
    · have t2 : decide (x ≤ 64) = true := decide_eq_true h2
      have HX := Lib.hid (fitB_iff.2 ⟨h1, h2⟩)
      by_cases h3 : 1 ≤ y
      · have t3 : decide (1 ≤ y) = true := decide_eq_true h3
        by_cases h4 : y ≤ 64
        · have t4 : decide (y ≤ 64) = true := decide_eq_true h4
          have hs := sides ⟨h1, h2⟩ ⟨h3, h4⟩
          have HG := Lib.hid (HF.out _ _ HX.out (fitB_iff.2 ⟨h3, h4⟩))
          have e1 := IntWalk.wrap64_in (x * y) (by omega)
          have e2 : IntKind.i64.wrap (x * y) = x * y := IntWalk.i64_in _ (by omega)
          generalize hq : x * y = q at e1 e2 HG hs
          go_enter Try.func7, Try.ntmps7
          go_wp2_with (fail)
          refine bodyPost_ret (results_tmp rfl _ _ _) rfl ?_
          rw [HG.out]
          exact ⟨rfl, rfl⟩
        · have t4 : decide (y ≤ 64) = false := decide_eq_false h4
          have HG := Lib.hid (HF.out _ _ HX.out (show fitB y = false by unfold fitB; rw [t4, Bool.and_false]))
          go_enter Try.func7, Try.ntmps7
          go_wp2_with (fail)
          refine bodyPost_ret (results_tmp rfl _ _ _) rfl ?_
          rw [HG.out]
          exact ⟨rfl, rfl⟩
      · have t3 : decide (1 ≤ y) = false := decide_eq_false h3
        have HG := Lib.hid (HF.out _ _ HX.out (show fitB y = false by unfold fitB; rw [t3, Bool.false_and]))
        go_enter Try.func7, Try.ntmps7
        go_wp2_with (fail)
        refine bodyPost_ret (results_tmp rfl _ _ _) rfl ?_
        rw [HG.out]
        exact ⟨rfl, rfl⟩
    · have t2 : decide (x ≤ 64) = false := decide_eq_false h2
      have HG := Lib.hid (HF.out _ _ (show fitB x = false by unfold fitB; rw [t2, Bool.and_false]) rfl)
      go_enter Try.func7, Try.ntmps7
      go_wp2_with (fail)
      refine bodyPost_ret (results_tmp rfl _ _ _) rfl ?_
      rw [HG.out]
      exact ⟨rfl, rfl⟩
  · have t1 : decide (1 ≤ x) = false := decide_eq_false h1
    have HG := Lib.hid (HF.out _ _ (show fitB x = false by unfold fitB; rw [t1, Bool.false_and]) rfl)
    go_enter Try.func7, Try.ntmps7
    go_wp2_with (fail)
    refine bodyPost_ret (results_tmp rfl _ _ _) rfl ?_
    rw [HG.out]
    exact ⟨rfl, rfl⟩
end Go.Proofs.Ytclobdeaocjnoaa
