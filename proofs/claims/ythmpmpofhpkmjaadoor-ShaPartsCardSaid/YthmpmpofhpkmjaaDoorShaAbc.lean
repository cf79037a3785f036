/-
  The document's own examples of layer 2, reckoned: the sums of "abc" and of nothing. No program here. No conditions.
-/
import Derived.Test.YthmpmpofhpkmjaaDoorShaText
namespace Go.Proofs.YthmpmpofhpkmjaaDoor
namespace Sh
theorem t1 : wAt (word (byteAt (padded [97, 98, 99]))) 63 = 0x12b1edeb := by decide +kernel
theorem abc_text : textOf (sumByte (sumSt [97, 98, 99])) 32 = [98, 97, 55, 56, 49, 54, 98, 102, 56, 102, 48, 49, 99, 102, 101, 97, 52, 49, 52, 49, 52, 48, 100, 101, 53, 100, 97, 101, 50, 50, 50, 51, 98, 48, 48, 51, 54, 49, 97, 51, 57, 54, 49, 55, 55, 97, 57, 99, 98, 52, 49, 48, 102, 102, 54, 49, 102, 50, 48, 48, 49, 53, 97, 100] := by decide +kernel
theorem nil_text : textOf (sumByte (sumSt [])) 32 = [101, 51, 98, 48, 99, 52, 52, 50, 57, 56, 102, 99, 49, 99, 49, 52, 57, 97, 102, 98, 102, 52, 99, 56, 57, 57, 54, 102, 98, 57, 50, 52, 50, 55, 97, 101, 52, 49, 101, 52, 54, 52, 57, 98, 57, 51, 52, 99, 97, 52, 57, 53, 57, 57, 49, 98, 55, 56, 53, 50, 98, 56, 53, 53] := by decide +kernel
end Sh
end Go.Proofs.YthmpmpofhpkmjaaDoor
