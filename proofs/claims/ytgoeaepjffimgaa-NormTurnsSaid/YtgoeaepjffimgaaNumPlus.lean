/-
  The program's whole numbers (package num): product and plus: what it comes to. Conditions: numbers are such as an int holds.
-/
import Derived.Test.YtgoeaepjffimgaaNum
namespace Go.Proofs.Ytgoeaepjffimgaa
open Go.ChangeShapes Go.WideShapes Go.ChangeAt Go.RowKit Nm

theorem plus_any (t x : Int) (w : World) (h1 : -4611686018427387904 ≤ t) (h2 : t ≤ 4611686018427387904) :
    Calls Try.prog 22 #[.int .i64 t, .int .i64 x] w fun e w' => e = .returned (.int .i64 (plus t x)) ∧ w = w' := by
  have h3 := clamp_lo x (-2305843009213693952) 2305843009213693952 (by omega)
  have h4 := clamp_hi x (-2305843009213693952) 2305843009213693952 (by omega)
  go_enter Try.func22, Try.ntmps22
  go_wp2_with (go_at_call 18; refine (clamp_any _ _ _ _).mono ?_; rintro e w' ⟨rfl, rfl⟩)
  go_ret
  exact ⟨ret_i rfl, rfl⟩
end Go.Proofs.Ytgoeaepjffimgaa
