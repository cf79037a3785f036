/-
  The program's whole numbers (package num): Mul: what it comes to. Conditions: numbers are such as an int holds.
-/
import Derived.Test.YtfpdlcblaodflaaDoorNumPlus
namespace Go.Proofs.YtfpdlcblaodflaaDoor
open Go.ChangeShapes Go.WideShapes Go.ChangeAt Go.RowKit Nm

theorem mul_any (a b n : Int) (w : World) :
    Calls Tryd.prog 20 #[.int .i64 a, .int .i64 b, .int .i64 n] w fun e w' => e = .returned (.int .i64 (mul a b n)) ∧ ∃ k, w' = w.drewN k := by
  have hp : Fits (prod a b) := prod_fits a b
  go_enter Tryd.func20, Tryd.ntmps20
  go_wp2_with (first | (go_at_call 25; refine (product_any _ _ _).mono ?_; rintro e w' ⟨rfl, rfl⟩) | (go_at_call 24; refine (shift_any _ _ _ hp).mono ?_; rintro e w' ⟨rfl, k, rfl⟩) | (go_at_call 23; refine (sat_any _ _).mono ?_; rintro e w' ⟨rfl, rfl⟩))
  go_ret
  exact ⟨ret_i rfl, _, rfl⟩
end Go.Proofs.YtfpdlcblaodflaaDoor
