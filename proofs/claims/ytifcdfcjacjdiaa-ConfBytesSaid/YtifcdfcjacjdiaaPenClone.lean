/-
  The library's strings.Clone, which the program calls, by its contract at this translation. No conditions of ours but a text's size.
-/
import Derived.Shelf.Pu.Clone
import Derived.Test.YtifcdfcjacjdiaaBase
namespace Go.Proofs.Ytifcdfcjacjdiaa
open Go.Shelf Go.RowKit

end Go.Proofs.Ytifcdfcjacjdiaa
