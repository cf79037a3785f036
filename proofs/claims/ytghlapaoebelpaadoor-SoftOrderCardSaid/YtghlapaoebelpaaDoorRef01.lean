/-
  The document's answers for layer 1, call by call: what each comes to. Conditions: numbers are such as an int holds.
-/
import Derived.Test.YtghlapaoebelpaaDoorNum
namespace Go.Proofs.YtghlapaoebelpaaDoor
open Go.ChangeShapes Go.WideShapes Go.ChangeAt Go.RowKit Nm

theorem rclamp_any (x lo hi : Int) (w : World) :
    Calls Tryd.prog 29 #[.int .i64 x, .int .i64 lo, .int .i64 hi] w fun e w' => e = .returned (.int .i64 (clamp x lo hi)) ∧ w = w' := by
  by_cases h1 : x < lo
  · go_enter Tryd.func29, Tryd.ntmps29
    go_wp2
    go_ret
    exact ⟨ret_i (by unfold clamp; rw [if_pos (by omega)]), rfl⟩
  by_cases h2 : hi < x
  · go_enter Tryd.func29, Tryd.ntmps29
    go_wp2
    go_ret
    exact ⟨ret_i (by unfold clamp; rw [if_neg (by omega), if_pos (by omega)]), rfl⟩
  · go_enter Tryd.func29, Tryd.ntmps29
    go_wp2
    go_ret
    exact ⟨ret_i (by unfold clamp; rw [if_neg (by omega), if_neg (by omega)]), rfl⟩

theorem rsat_any (x : Int) (w : World) :
    Calls Tryd.prog 27 #[.int .i64 x] w fun e w' => e = .returned (.int .i64 (sat x)) ∧ w = w' := by
  go_enter Tryd.func27, Tryd.ntmps27
  go_wp2_with (go_at_call 29; refine (rclamp_any _ _ _ _).mono ?_; rintro e w' ⟨rfl, rfl⟩)
  go_ret
  exact ⟨ret_i rfl, rfl⟩

end Go.Proofs.YtghlapaoebelpaaDoor
