/-
  Proved: NumRoot: for every two numbers the law answers true. No conditions.
-/
import Derived.Test.YtbfmaojffahjdaaAwake01
namespace Go.Proofs.Ytbfmaojffahjdaa.numRoot
open Go.ChangeShapes Go.WideShapes Go.ChangeAt Go.RowKit Nm

/-- The number that the law squares. -/
theorem small (r : Int) : ∃ k, wrap64 ((IntKind.u64.wrap r).tmod 1073741824) = k ∧ 0 ≤ k ∧ k ≤ 1073741823 := by
  refine ⟨_, rfl, ?_⟩
  have h1 : 0 ≤ IntKind.u64.wrap r := by rw [IntKind.wrap_u64]; omega
  rw [Int.tmod_eq_emod_of_nonneg h1, IntWalk.wrap64_in _ ⟨by omega, by omega⟩]
  omega
theorem sqrt_of_sq (k : Int) (h0 : 0 ≤ k) (h1 : k ≤ 1073741823) (W : World) : Calls Try.prog 16 #[.int .i64 (k * k)] W fun e w' => e = .returned (.int .i64 k) ∧ W = w' := by
  have := sq_bound k 1073741823 h0 h1
  exact as_val (sqrt_any (k * k) W (by unfold Fits; omega)) (by rw [sqrt_sq k h0])
theorem sqrt_low (n : Int) (h1 : n ≤ 0) (hn : Fits n) (W : World) : Calls Try.prog 16 #[.int .i64 n] W fun e w' => e = .returned (.int .i64 0) ∧ W = w' :=
  as_val (sqrt_any n W hn) (by unfold sqrt; rw [show n.toNat = 0 by omega]; rfl)

theorem walk_low (n r : Int) (hn : Fits n) (w : World) (h : n < 0) :
    Calls Try.prog 5 #[.int .i64 n, .int .i64 r] w fun e w' => e = .returned (.bool true) ∧ Below w.heap.size w w' := by
  have d1 : decide (n < 0) = true := decide_eq_true (by omega)
  have d2 : decide (0 < n) = false := decide_eq_false (by omega)
  obtain ⟨k, hk, k0, k1⟩ := small r
  have hs := sq_bound k 1073741823 k0 k1
  have HK := Lib.hid (sqrt_of_sq k k0 k1)
  have HL := Lib.hid (sqrt_low n (by omega) hn)
  clear hn
  go_enter Try.func5, Try.ntmps5
  go_wp2_with (fail)
  refine (awake_any _).mono ?_; rintro e w' ⟨rfl, hw⟩
  go_wp2_with (fail)
  refine (HK.out _).mono ?_; rintro e w' ⟨rfl, rfl⟩
  go_wp2_with (fail)
  refine (HL.out _).mono ?_; rintro e w' ⟨rfl, rfl⟩
  go_wp2
  go_ret
  exact ⟨rfl, hw⟩
theorem walk_high (n r : Int) (w : World) (h : 1152921504606846976 < n) :
    Calls Try.prog 5 #[.int .i64 n, .int .i64 r] w fun e w' => e = .returned (.bool true) ∧ Below w.heap.size w w' := by
  have d1 : decide (n < 0) = false := decide_eq_false (by omega)
  have d2 : decide (1152921504606846976 < n) = true := decide_eq_true (by omega)
  have d3 : decide (0 < n) = true := decide_eq_true (by omega)
  obtain ⟨k, hk, k0, k1⟩ := small r
  have hs := sq_bound k 1073741823 k0 k1
  have HK := Lib.hid (sqrt_of_sq k k0 k1)
  go_enter Try.func5, Try.ntmps5
  go_wp2_with (fail)
  refine (awake_any _).mono ?_; rintro e w' ⟨rfl, hw⟩
  go_wp2_with (fail)
  refine (HK.out _).mono ?_; rintro e w' ⟨rfl, rfl⟩
  go_wp2
  go_ret
  exact ⟨rfl, hw⟩
theorem walk_mid (n r : Int) (w : World) (h1 : 0 ≤ n) (h2 : n ≤ 1152921504606846976) :
    Calls Try.prog 5 #[.int .i64 n, .int .i64 r] w fun e w' => e = .returned (.bool true) ∧ Below w.heap.size w w' := by
  have d1 : decide (n < 0) = false := decide_eq_false (by omega)
  have d2 : decide (1152921504606846976 < n) = false := decide_eq_false (by omega)
  obtain ⟨k, hk, k0, k1⟩ := small r
  have hs := sq_bound k 1073741823 k0 k1
  have HK := Lib.hid (sqrt_of_sq k k0 k1)
  obtain ⟨s, e⟩ : ∃ s, s = sqrt n := ⟨_, rfl⟩
  have HS : ∀ W, Calls Try.prog 16 #[.int .i64 n] W fun e w' => e = .returned (.int .i64 s) ∧ W = w' := fun W => as_val (sqrt_any n W (by unfold Fits; omega)) (by rw [e])
  have HN := Lib.hid HS
  clear HS
  have h3 := sqrt_spec n h1
  have h4 := sqrt_le n 1073741824 (by omega) (by omega)
  rw [← e] at h3 h4
  have h5 := sq_bound s 1073741824 h3.1 h4
  have h6 := sq_bound (s + 1) 1073741825 (by omega) (by omega)
  have d3 : decide (0 ≤ s) = true := decide_eq_true (by omega)
  have d4 : decide (s * s ≤ n) = true := decide_eq_true (by omega)
  have d5 : decide (n < (s + 1) * (s + 1)) = true := decide_eq_true (by omega)
  clear e
  go_enter Try.func5, Try.ntmps5
  go_wp2_with (fail)
  refine (awake_any _).mono ?_; rintro e w' ⟨rfl, hw⟩
  go_wp2_with (fail)
  refine (HN.out _).mono ?_; rintro e w' ⟨rfl, rfl⟩
  go_wp2_with (fail)
  refine (HK.out _).mono ?_; rintro e w' ⟨rfl, rfl⟩
  go_wp2
  go_ret
  exact ⟨rfl, hw⟩
theorem walk (n r : Int) (hn : Fits n) (_ : Fits r) (w : World) :
    Calls Try.prog 5 #[.int .i64 n, .int .i64 r] w fun e w' => e = .returned (.bool true) ∧ Below w.heap.size w w' := by
  by_cases h : n < 0
  · exact walk_low n r hn w h
  by_cases h' : 1152921504606846976 < n
  · exact walk_high n r w h'
  · exact walk_mid n r w (by omega) (by omega)
end Go.Proofs.Ytbfmaojffahjdaa.numRoot
