/-
  The program's whole numbers (package num): Mul: what it comes to. Conditions: numbers are such as an int holds.
-/
import Derived.Test.YtghlapaoebelpaaDoorNumPlus
namespace Go.Proofs.YtghlapaoebelpaaDoor
open Go.ChangeShapes Go.WideShapes Go.ChangeAt Go.RowKit Nm

end Go.Proofs.YtghlapaoebelpaaDoor
