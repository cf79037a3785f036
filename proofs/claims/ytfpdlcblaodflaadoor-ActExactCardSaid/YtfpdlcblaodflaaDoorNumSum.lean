/-
  The program's whole numbers (package num): Sum: what it comes to. Conditions: numbers are such as an int holds, and cells hold what is said.
-/
import Derived.Test.YtfpdlcblaodflaaDoorNumPlus
import Derived.Test.YtfpdlcblaodflaaDoorNumRows
namespace Go.Proofs.YtfpdlcblaodflaaDoor
open Go.ChangeShapes Go.WideShapes Go.ChangeAt Go.RowKit Nm

end Go.Proofs.YtfpdlcblaodflaaDoor
