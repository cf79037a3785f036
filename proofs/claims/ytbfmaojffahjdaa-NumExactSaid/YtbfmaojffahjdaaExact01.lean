/-
  Proved: NumExact: for every four numbers the law answers true. No conditions.
-/
import Derived.Test.YtbfmaojffahjdaaAwake01
import Derived.Test.YtbfmaojffahjdaaNumMul
import Derived.Test.YtbfmaojffahjdaaRef01
namespace Go.Proofs.Ytbfmaojffahjdaa.numExact
open Go.ChangeShapes Go.WideShapes Go.ChangeAt Go.RowKit Nm

set_option maxHeartbeats 1000000 in
theorem walk (a b c n : Int) (ha : Fits a) (_ : Fits b) (_ : Fits c) (_ : Fits n) (w : World) :
    Calls Try.prog 3 #[.int .i64 a, .int .i64 b, .int .i64 c, .int .i64 n] w fun e w' => e = .returned (.bool true) ∧ Below w.heap.size w w' := by
  have H1 := Lib.hid ha
  clear ha
  go_enter Try.func3, Try.ntmps3
  go_wp2_with (fail)
  refine (awake_any _).mono ?_; rintro e w' ⟨rfl, hw⟩
  go_wp2_with (fail)
  refine (clamp_any _ _ _ _).mono ?_; rintro e w' ⟨rfl, rfl⟩
  go_wp2_with (fail)
  refine (rclamp_any _ _ _ _).mono ?_; rintro e w' ⟨rfl, rfl⟩
  go_wp2_with (fail)
  refine (sat_any _ _).mono ?_; rintro e w' ⟨rfl, rfl⟩
  go_wp2_with (fail)
  refine (rsat_any _ _).mono ?_; rintro e w' ⟨rfl, rfl⟩
  go_wp2_with (fail)
  refine (shift_any _ _ _ H1.out).mono ?_; rintro e w' ⟨rfl, k1, rfl⟩
  go_wp2_with (fail)
  refine (rshift_any _ _ _ H1.out).mono ?_; rintro e w' ⟨rfl, rfl⟩
  go_wp2_with (fail)
  refine (mul_any _ _ _ _).mono ?_; rintro e w' ⟨rfl, k2, rfl⟩
  go_wp2_with (fail)
  refine (rmul_any _ _ _ _).mono ?_; rintro e w' ⟨rfl, rfl⟩
  go_wp2_with (fail)
  refine (sqrt_any _ _ H1.out).mono ?_; rintro e w' ⟨rfl, rfl⟩
  go_wp2_with (fail)
  refine (rsqrt_any _ _ H1.out).mono ?_; rintro e w' ⟨rfl, rfl⟩
  go_wp2_with (fail)
  refine (div_any _ _ _ H1.out).mono ?_; rintro e w' ⟨rfl, rfl⟩
  go_wp2_with (fail)
  refine (rdiv_any _ _ _ H1.out).mono ?_; rintro e w' ⟨rfl, rfl⟩
  go_wp2
  go_ret
  exact ⟨rfl, below_drewN hw _⟩
end Go.Proofs.Ytbfmaojffahjdaa.numExact
