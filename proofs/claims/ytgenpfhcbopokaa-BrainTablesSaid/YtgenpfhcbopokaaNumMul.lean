/-
  The program's whole numbers (package num): Mul: what it comes to. Conditions: numbers are such as an int holds.
-/
import Derived.Test.YtgenpfhcbopokaaNumPlus
namespace Go.Proofs.Ytgenpfhcbopokaa
open Go.ChangeShapes Go.WideShapes Go.ChangeAt Go.RowKit Nm

end Go.Proofs.Ytgenpfhcbopokaa
