/-
  The program's whole numbers (package num): product and plus: what it comes to. Conditions: numbers are such as an int holds.
-/
import Derived.Test.YtiehpaffbaafcaaNum
namespace Go.Proofs.Ytiehpaffbaafcaa
open Go.ChangeShapes Go.WideShapes Go.ChangeAt Go.RowKit Nm

end Go.Proofs.Ytiehpaffbaafcaa
