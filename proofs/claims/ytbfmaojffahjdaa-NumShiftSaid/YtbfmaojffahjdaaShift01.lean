/-
  Proved: NumShift: for every two numbers the law answers true. No conditions.
-/
import Derived.Test.YtbfmaojffahjdaaAwake01
namespace Go.Proofs.Ytbfmaojffahjdaa.numShift
open Go.ChangeShapes Go.WideShapes Go.ChangeAt Go.RowKit Nm

/-- By how much the law shifts. -/
theorem small (r : Int) : ∃ k : Nat, wrap64 ((IntKind.u64.wrap r).tmod 61) = (k : Int) ∧ k ≤ 60 := by
  have h1 : 0 ≤ IntKind.u64.wrap r := by rw [IntKind.wrap_u64]; omega
  rw [Int.tmod_eq_emod_of_nonneg h1, IntWalk.wrap64_in _ ⟨by omega, by omega⟩]
  exact ⟨(IntKind.u64.wrap r % 61).toNat, by omega, by omega⟩

theorem pow_bounds (m : Nat) (h : m ≤ 59) : (1 : Int) ≤ 2 ^ m ∧ (2 : Int) ^ m ≤ 576460752303423488 := by
  have h1 : 2 ^ m ≤ 2 ^ 59 := Nat.pow_le_pow_right (by omega) h
  have h2 : 0 < 2 ^ m := Nat.pow_pos (by omega)
  have e : ((2 ^ m : Nat) : Int) = (2 : Int) ^ m := by simp
  omega

theorem twice (x : Int) (m : Nat) (h : m ≤ 59) : shift (2 * x) ((m : Int) + 1 + 1) = shift x ((m : Int) + 1) := by
  unfold shift
  rw [if_neg (by omega), if_neg (by omega), if_neg (by omega), if_neg (by omega), show ((m : Int) + 1 + 1).toNat = m + 1 + 1 by omega, show ((m : Int) + 1).toNat = m + 1 by omega]
  simp only [Nat.add_sub_cancel]
  have hp := pow_bounds m h
  have e : 2 * x + 2 ^ (m + 1) = 2 * (x + 2 ^ m) := by rw [Int.pow_succ]; omega
  have e2 : (2 : Int) ^ (m + 1 + 1) = 2 * 2 ^ (m + 1) := by rw [Int.pow_succ, Int.mul_comm]
  rw [e, e2, Int.mul_ediv_mul_of_pos _ _ (by omega)]

/-- What is left over. -/
theorem left_over (x : Int) (m : Nat) (h : m ≤ 59) (h1 : x ≤ 1152921504606846976) (h2 : -1152921504606846976 ≤ x) :
    ∃ z d : Int, wrap64 (shift x ((m : Int) + 1) * 2 ^ (m + 1)) = z ∧ wrap64 (2 ^ (m + 1)) = d ∧ wrap64 (-2 ^ (m + 1)) = -d ∧ 2 ≤ d ∧ d ≤ 1152921504606846976 ∧ -d ≤ 2 * (x - z) ∧ 2 * (x - z) < d := by
  have hp := pow_bounds m h
  have e : (2 : Int) ^ (m + 1) = 2 * 2 ^ m := by rw [Int.pow_succ, Int.mul_comm]
  have hs : shift x ((m : Int) + 1) = (x + 2 ^ m) / (2 * 2 ^ m) := by
    unfold shift
    rw [if_neg (by omega), if_neg (by omega), show ((m : Int) + 1).toNat = m + 1 by omega]
    simp only [Nat.add_sub_cancel]
    rw [e]
  rw [hs, e]
  generalize (2 : Int) ^ m = d at *
  have g := Int.mul_ediv_add_emod (x + d) (2 * d)
  have g1 := Int.emod_nonneg (x + d) (show 2 * d ≠ 0 by omega)
  have g2 := Int.emod_lt_of_pos (x + d) (show 0 < 2 * d by omega)
  rw [Int.mul_comm] at g
  generalize (x + d) / (2 * d) * (2 * d) = z at *
  exact ⟨z, 2 * d, IntWalk.wrap64_in _ ⟨by omega, by omega⟩, IntWalk.wrap64_in _ ⟨by omega, by omega⟩, IntWalk.wrap64_in _ ⟨by omega, by omega⟩, by omega, by omega, by omega, by omega⟩

set_option maxHeartbeats 400000 in
theorem walk_more (x r : Int) (w : World) (k K : Nat) (hK : K = k + 1) (hk : wrap64 ((IntKind.u64.wrap r).tmod 61) = (K : Int)) (hk2 : k ≤ 59) (h1 : x ≤ 1152921504606846976) (h2 : -1152921504606846976 ≤ x) :
    Calls Try.prog 4 #[.int .i64 x, .int .i64 r] w fun e w' => e = .returned (.bool true) ∧ Below w.heap.size w w' := by
  have d1 : decide (1152921504606846976 < x) = false := decide_eq_false (by omega)
  have d2 : decide (x < -1152921504606846976) = false := decide_eq_false (by omega)
  have eK : (K : Int) = (k : Int) + 1 := by omega
  obtain ⟨z, d, e1, e2, e3, l1, l2, l3, l4⟩ := left_over x k hk2 h1 h2
  obtain ⟨y, hy⟩ : ∃ y, y = shift x ((k : Int) + 1) := ⟨_, rfl⟩
  rw [← hy, ← hK] at e1
  rw [← hK] at e2 e3
  have H1 : ∀ W, Calls Try.prog 12 #[.int .i64 x, .int .i64 (K : Int)] W fun e w' => e = .returned (.int .i64 y) ∧ ∃ k, w' = W.drewN k := fun W => as_val (shift_any x _ W (by unfold Fits; omega)) (by rw [hy, eK])
  have H2 : ∀ W, Calls Try.prog 12 #[.int .i64 (2 * x), .int .i64 ((K : Int) + 1)] W fun e w' => e = .returned (.int .i64 y) ∧ ∃ k, w' = W.drewN k := fun W => as_val (shift_any _ _ W (by unfold Fits; omega)) (by rw [hy, eK, twice x k hk2])
  have K1 := Lib.hid H1
  have K2 := Lib.hid H2
  have hK1 : 1 ≤ K := by omega
  have hK2 : K ≤ 60 := by omega
  have d3 : ((K : Int) == 0) = false := beq_eq_false_iff_ne.2 (by omega)
  have d4 : decide (2 * (x - z) < d) = true := decide_eq_true l4
  have d5 : decide (-d ≤ 2 * (x - z)) = true := decide_eq_true l3
  have d6 : decide ((0 : Int) < (K : Int)) = true := decide_eq_true (by omega)
  clear H1 H2 hy eK hK hk2
  go_enter Try.func4, Try.ntmps4
  go_wp2_with (fail)
  refine (awake_any _).mono ?_; rintro e w' ⟨rfl, hw⟩
  go_wp2_with (fail)
  refine (K1.out _).mono ?_; rintro e w' ⟨rfl, n, rfl⟩
  go_wp2_with (fail)
  refine (K2.out _).mono ?_; rintro e w' ⟨rfl, n, rfl⟩
  go_wp2
  go_ret
  exact ⟨rfl, below_drewN hw _⟩

theorem walk_none (x r : Int) (w : World) (hk : wrap64 ((IntKind.u64.wrap r).tmod 61) = 0) (h1 : x ≤ 1152921504606846976) (h2 : -1152921504606846976 ≤ x) :
    Calls Try.prog 4 #[.int .i64 x, .int .i64 r] w fun e w' => e = .returned (.bool true) ∧ Below w.heap.size w w' := by
  have d1 : decide (1152921504606846976 < x) = false := decide_eq_false (by omega)
  have d2 : decide (x < -1152921504606846976) = false := decide_eq_false (by omega)
  have K1 := Lib.hid fun W => as_val (v' := .int .i64 x) (shift_any x 0 W (by unfold Fits; omega)) rfl
  have hx : shift (2 * x) 1 = x := by unfold shift; rw [if_neg (by omega), if_neg (by omega)]; show (2 * x + 1) / 2 = x; omega
  have K2 := Lib.hid fun W => as_val (v' := .int .i64 x) (shift_any (2 * x) 1 W (by unfold Fits; omega)) (by rw [hx])
  clear hx
  go_enter Try.func4, Try.ntmps4
  go_wp2_with (fail)
  refine (awake_any _).mono ?_; rintro e w' ⟨rfl, hw⟩
  go_wp2_with (fail)
  refine (K1.out _).mono ?_; rintro e w' ⟨rfl, n, rfl⟩
  go_wp2_with (fail)
  refine (K2.out _).mono ?_; rintro e w' ⟨rfl, n, rfl⟩
  go_wp2_with (fail)
  refine (K2.out _).mono ?_; rintro e w' ⟨rfl, n, rfl⟩
  go_wp2
  go_ret
  exact ⟨rfl, below_drewN hw _⟩

theorem walk_far (x r : Int) (w : World) (h : 1152921504606846976 < x ∨ (x ≤ 1152921504606846976 ∧ x < -1152921504606846976)) :
    Calls Try.prog 4 #[.int .i64 x, .int .i64 r] w fun e w' => e = .returned (.bool true) ∧ Below w.heap.size w w' := by
  rcases h with h | h
  · have d1 : decide (1152921504606846976 < x) = true := decide_eq_true (by omega)
    go_enter Try.func4, Try.ntmps4
    go_wp2_with (go_at_call 7; refine (awake_any _).mono ?_; rintro e w' ⟨rfl, hw⟩)
    go_ret
    exact ⟨rfl, hw⟩
  · have d1 : decide (1152921504606846976 < x) = false := decide_eq_false (by omega)
    have d2 : decide (x < -1152921504606846976) = true := decide_eq_true (by omega)
    go_enter Try.func4, Try.ntmps4
    go_wp2_with (go_at_call 7; refine (awake_any _).mono ?_; rintro e w' ⟨rfl, hw⟩)
    go_ret
    exact ⟨rfl, hw⟩

theorem walk (x r : Int) (_ : Fits x) (_ : Fits r) (w : World) :
    Calls Try.prog 4 #[.int .i64 x, .int .i64 r] w fun e w' => e = .returned (.bool true) ∧ Below w.heap.size w w' := by
  obtain ⟨k, hk, hk2⟩ := small r
  by_cases h : 1152921504606846976 < x ∨ (x ≤ 1152921504606846976 ∧ x < -1152921504606846976)
  · exact walk_far x r w h
  cases k with
  | zero => exact walk_none x r w (by simpa using hk) (by omega) (by omega)
  | succ k => exact walk_more x r w k (k + 1) rfl hk (by omega) (by omega) (by omega)
end Go.Proofs.Ytbfmaojffahjdaa.numShift
