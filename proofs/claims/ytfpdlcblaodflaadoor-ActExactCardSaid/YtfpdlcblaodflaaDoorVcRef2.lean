/-
  The reference of layer 11: Scale. Conditions: the row's numbers are there, at most 4096.
-/
import Derived.Test.YtfpdlcblaodflaaDoorVcRef
namespace Go.Proofs.YtfpdlcblaodflaaDoor
open Go.ChangeShapes Go.WideShapes Go.ChangeAt Go.RowKit Nm Vc

theorem take_more (R : List Int) (j : Nat) (h : j < R.length) : R.take (j + 1) = R.take j ++ [R.getD j 0] := by
  rw [List.take_succ_eq_append_getElem h, List.getD_eq_getElem?_getD, List.getElem?_eq_getElem h]
  rfl
end Go.Proofs.YtfpdlcblaodflaaDoor
