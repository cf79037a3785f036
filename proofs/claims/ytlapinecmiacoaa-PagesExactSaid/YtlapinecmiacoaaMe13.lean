/-
  The document's answers for layer 1, call by call: what each comes to. Conditions: numbers are such as an int holds.
-/
import Derived.Test.YtlapinecmiacoaaMe6
set_option maxRecDepth 100000
namespace Go.Proofs.Ytlapinecmiacoaa
open Go.ChangeShapes Go.WideShapes Go.ChangeAt Go.RowKit Nm

end Go.Proofs.Ytlapinecmiacoaa
