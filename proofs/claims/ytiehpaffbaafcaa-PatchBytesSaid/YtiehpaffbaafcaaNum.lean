/-
  The program's whole numbers (package num), call by call: what each comes to. No conditions but that numbers are such as an int holds.
-/
import Derived.Test.YtiehpaffbaafcaaBase
import Derived.Test.YtiehpaffbaafcaaNumMath
namespace Go.Proofs.Ytiehpaffbaafcaa
open Go.ChangeShapes Go.WideShapes Go.ChangeAt Go.RowKit Nm

theorem ret_i {a b : Int} (h : a = b) : Ending.returned (.int .i64 a) = .returned (.int .i64 b) := by rw [h]

end Go.Proofs.Ytiehpaffbaafcaa
