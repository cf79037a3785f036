/-
  The library's strings.Clone, which the program calls, by its contract at this translation. No conditions of ours but a text's size.
-/
import Derived.Shelf.Pu.Clone
import Derived.Test.YtgenpfhcbopokaaBase
namespace Go.Proofs.Ytgenpfhcbopokaa
open Go.Shelf Go.RowKit

end Go.Proofs.Ytgenpfhcbopokaa
