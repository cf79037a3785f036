/-
  The program's whole numbers (package num): Mul: what it comes to. Conditions: numbers are such as an int holds.
-/
import Derived.Test.YtclobdeaocjnoaaNumPlus
namespace Go.Proofs.Ytclobdeaocjnoaa
open Go.ChangeShapes Go.WideShapes Go.ChangeAt Go.RowKit Nm

theorem mul_any (a b n : Int) (w : World) :
    Calls Try.prog 26 #[.int .i64 a, .int .i64 b, .int .i64 n] w fun e w' => e = .returned (.int .i64 (mul a b n)) ∧ ∃ k, w' = w.drewN k := by
  have hp : Fits (prod a b) := prod_fits a b
  go_enter Try.func26, Try.ntmps26
  go_wp2_with (first | (go_at_call 32; refine (product_any _ _ _).mono ?_; rintro e w' ⟨rfl, rfl⟩) | (go_at_call 21; refine (shift_any _ _ _ hp).mono ?_; rintro e w' ⟨rfl, k, rfl⟩) | (go_at_call 20; refine (sat_any _ _).mono ?_; rintro e w' ⟨rfl, rfl⟩))
  go_ret
  exact ⟨ret_i rfl, _, rfl⟩
end Go.Proofs.Ytclobdeaocjnoaa
