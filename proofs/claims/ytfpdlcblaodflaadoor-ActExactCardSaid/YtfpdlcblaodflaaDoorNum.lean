/-
  The program's whole numbers (package num), call by call: what each comes to. No conditions but that numbers are such as an int holds.
-/
import Derived.Test.YtfpdlcblaodflaaDoorBase
import Derived.Test.YtfpdlcblaodflaaDoorNumMath
namespace Go.Proofs.YtfpdlcblaodflaaDoor
open Go.ChangeShapes Go.WideShapes Go.ChangeAt Go.RowKit Nm

theorem ret_i {a b : Int} (h : a = b) : Ending.returned (.int .i64 a) = .returned (.int .i64 b) := by rw [h]

theorem clamp_any (x lo hi : Int) (w : World) :
    Calls Tryd.prog 14 #[.int .i64 x, .int .i64 lo, .int .i64 hi] w fun e w' => e = .returned (.int .i64 (clamp x lo hi)) ∧ w = w' := by
  by_cases h1 : x < lo
  · go_enter Tryd.func14, Tryd.ntmps14
    go_wp2
    go_ret
    exact ⟨ret_i (by unfold clamp; rw [if_pos (by omega)]), rfl⟩
  by_cases h2 : hi < x
  · go_enter Tryd.func14, Tryd.ntmps14
    go_wp2
    go_ret
    exact ⟨ret_i (by unfold clamp; rw [if_neg (by omega), if_pos (by omega)]), rfl⟩
  · go_enter Tryd.func14, Tryd.ntmps14
    go_wp2
    go_ret
    exact ⟨ret_i (by unfold clamp; rw [if_neg (by omega), if_neg (by omega)]), rfl⟩

theorem sat_any (x : Int) (w : World) :
    Calls Tryd.prog 23 #[.int .i64 x] w fun e w' => e = .returned (.int .i64 (sat x)) ∧ w = w' := by
  go_enter Tryd.func23, Tryd.ntmps23
  go_wp2_with (go_at_call 14; refine (clamp_any _ _ _ _).mono ?_; rintro e w' ⟨rfl, rfl⟩)
  go_ret
  exact ⟨ret_i rfl, rfl⟩

theorem shift_any (x n : Int) (w : World) (hx : Fits x) :
    Calls Tryd.prog 24 #[.int .i64 x, .int .i64 n] w fun e w' => e = .returned (.int .i64 (shift x n)) ∧ ∃ k, w' = w.drewN k := by
  by_cases h1 : n ≤ 0
  · go_enter Tryd.func24, Tryd.ntmps24
    go_wp2
    go_ret
    exact ⟨ret_i (by unfold shift; rw [if_pos (by omega)]), 0, rfl⟩
  by_cases h2 : 63 ≤ n
  · go_enter Tryd.func24, Tryd.ntmps24
    go_wp2
    go_ret
    exact ⟨ret_i (by unfold shift; rw [if_neg (by omega), if_pos (by omega)]), 0, rfl⟩
  have HS := Lib.hid (shift_way x n hx (by omega) (by omega))
  clear hx
  go_enter Tryd.func24, Tryd.ntmps24
  go_wp2
  go_quiet (fail)
  go_wp2
  go_ret
  exact ⟨ret_i HS.out, _, rfl⟩
end Go.Proofs.YtfpdlcblaodflaaDoor
