/-
  The program's whole numbers (package num): product and plus: what it comes to. Conditions: numbers are such as an int holds.
-/
import Derived.Test.YtclobdeaocjnoaaNum
namespace Go.Proofs.Ytclobdeaocjnoaa
open Go.ChangeShapes Go.WideShapes Go.ChangeAt Go.RowKit Nm

theorem product_any (a b : Int) (w : World) :
    Calls Try.prog 32 #[.int .i64 a, .int .i64 b] w fun e w' => e = .returned (.int .i64 (prod a b)) ∧ w = w' := by
  have h1 := clamp_lo a (-1073741824) 1073741824 (by omega)
  have h2 := clamp_hi a (-1073741824) 1073741824 (by omega)
  have h3 := clamp_lo b (-1073741824) 1073741824 (by omega)
  have h4 := clamp_hi b (-1073741824) 1073741824 (by omega)
  have h5 := prod_lo a b
  have h6 := prod_hi a b
  unfold prod at *
  go_enter Try.func32, Try.ntmps32
  go_wp2_with (go_at_call 30; refine (clamp_any _ _ _ _).mono ?_; rintro e w' ⟨rfl, rfl⟩)
  go_ret
  exact ⟨ret_i rfl, rfl⟩

theorem plus_any (t x : Int) (w : World) (h1 : -4611686018427387904 ≤ t) (h2 : t ≤ 4611686018427387904) :
    Calls Try.prog 31 #[.int .i64 t, .int .i64 x] w fun e w' => e = .returned (.int .i64 (plus t x)) ∧ w = w' := by
  have h3 := clamp_lo x (-2305843009213693952) 2305843009213693952 (by omega)
  have h4 := clamp_hi x (-2305843009213693952) 2305843009213693952 (by omega)
  go_enter Try.func31, Try.ntmps31
  go_wp2_with (go_at_call 30; refine (clamp_any _ _ _ _).mono ?_; rintro e w' ⟨rfl, rfl⟩)
  go_ret
  exact ⟨ret_i rfl, rfl⟩
end Go.Proofs.Ytclobdeaocjnoaa
