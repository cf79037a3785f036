/-
  The program's whole numbers (package num): product and plus: what it comes to. Conditions: numbers are such as an int holds.
-/
import Derived.Test.YtfpdlcblaodflaaDoorNum
namespace Go.Proofs.YtfpdlcblaodflaaDoor
open Go.ChangeShapes Go.WideShapes Go.ChangeAt Go.RowKit Nm

theorem product_any (a b : Int) (w : World) :
    Calls Tryd.prog 25 #[.int .i64 a, .int .i64 b] w fun e w' => e = .returned (.int .i64 (prod a b)) ∧ w = w' := by
  have h1 := clamp_lo a (-1073741824) 1073741824 (by omega)
  have h2 := clamp_hi a (-1073741824) 1073741824 (by omega)
  have h3 := clamp_lo b (-1073741824) 1073741824 (by omega)
  have h4 := clamp_hi b (-1073741824) 1073741824 (by omega)
  have h5 := prod_lo a b
  have h6 := prod_hi a b
  unfold prod at *
  go_enter Tryd.func25, Tryd.ntmps25
  go_wp2_with (go_at_call 14; refine (clamp_any _ _ _ _).mono ?_; rintro e w' ⟨rfl, rfl⟩)
  go_ret
  exact ⟨ret_i rfl, rfl⟩

end Go.Proofs.YtfpdlcblaodflaaDoor
