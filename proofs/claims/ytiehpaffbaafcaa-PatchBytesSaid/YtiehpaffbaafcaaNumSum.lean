/-
  The program's whole numbers (package num): Sum: what it comes to. Conditions: numbers are such as an int holds, and cells hold what is said.
-/
import Derived.Test.YtiehpaffbaafcaaNumPlus
import Derived.Test.YtiehpaffbaafcaaNumRows
namespace Go.Proofs.Ytiehpaffbaafcaa
open Go.ChangeShapes Go.WideShapes Go.ChangeAt Go.RowKit Nm

end Go.Proofs.Ytiehpaffbaafcaa
