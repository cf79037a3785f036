/-
  Package vecs: fits and Good; the reference's Good. No conditions.
-/
import Derived.Test.YtfpdlcblaodflaaDoorVcSpec
namespace Go.Proofs.YtfpdlcblaodflaaDoor
open Go.ChangeShapes Go.WideShapes Go.ChangeAt Go.RowKit Nm Vc

end Go.Proofs.YtfpdlcblaodflaaDoor
