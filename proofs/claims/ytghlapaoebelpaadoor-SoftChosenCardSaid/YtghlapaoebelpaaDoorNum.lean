/-
  The program's whole numbers (package num), call by call: what each comes to. No conditions but that numbers are such as an int holds.
-/
import Derived.Test.YtghlapaoebelpaaDoorBase
import Derived.Test.YtghlapaoebelpaaDoorNumMath
namespace Go.Proofs.YtghlapaoebelpaaDoor
open Go.ChangeShapes Go.WideShapes Go.ChangeAt Go.RowKit Nm

theorem ret_i {a b : Int} (h : a = b) : Ending.returned (.int .i64 a) = .returned (.int .i64 b) := by rw [h]

theorem clamp_any (x lo hi : Int) (w : World) :
    Calls Tryd.prog 28 #[.int .i64 x, .int .i64 lo, .int .i64 hi] w fun e w' => e = .returned (.int .i64 (clamp x lo hi)) ∧ w = w' := by
  by_cases h1 : x < lo
  · go_enter Tryd.func28, Tryd.ntmps28
    go_wp2
    go_ret
    exact ⟨ret_i (by unfold clamp; rw [if_pos (by omega)]), rfl⟩
  by_cases h2 : hi < x
  · go_enter Tryd.func28, Tryd.ntmps28
    go_wp2
    go_ret
    exact ⟨ret_i (by unfold clamp; rw [if_neg (by omega), if_pos (by omega)]), rfl⟩
  · go_enter Tryd.func28, Tryd.ntmps28
    go_wp2
    go_ret
    exact ⟨ret_i (by unfold clamp; rw [if_neg (by omega), if_neg (by omega)]), rfl⟩

theorem sat_any (x : Int) (w : World) :
    Calls Tryd.prog 25 #[.int .i64 x] w fun e w' => e = .returned (.int .i64 (sat x)) ∧ w = w' := by
  go_enter Tryd.func25, Tryd.ntmps25
  go_wp2_with (go_at_call 28; refine (clamp_any _ _ _ _).mono ?_; rintro e w' ⟨rfl, rfl⟩)
  go_ret
  exact ⟨ret_i rfl, rfl⟩

end Go.Proofs.YtghlapaoebelpaaDoor
