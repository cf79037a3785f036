/-
  Package vecs: a table's Row. Conditions: the table's numbers are there.
-/
import Derived.Test.YtiehpaffbaafcaaVc1
import Derived.Deep.OwnRows
namespace Go.Proofs.Ytiehpaffbaafcaa
open Go.ChangeShapes Go.WideShapes Go.ChangeAt Go.RowKit Nm Vc

section
variable (w : World) (x y at_ : Int) (A : Option Addr) (n c : Nat)
end
theorem vc_less (a b : Nat) (h : a < b) : b - ((a : Int) + 1).toNat < b - (a : Int).toNat := by omega
theorem vc_add_i (a b : Nat) (h : a + b < 1000000) : IntKind.i64.wrap ((a : Int) + (b : Int)) = ((a + b : Nat) : Int) := (IntWalk.i64_in _ (by omega)).trans (Int.natCast_add a b).symm
theorem vc_add_w (a b : Nat) (h : a + b < 1000000) : wrap64 ((a : Int) + (b : Int)) = ((a + b : Nat) : Int) := (IntWalk.wrap64_in _ (by omega)).trans (Int.natCast_add a b).symm
theorem vc_mul_i (a b : Nat) (h : a * b < 1000000) : IntKind.i64.wrap ((a : Int) * (b : Int)) = ((a * b : Nat) : Int) := (IntWalk.i64_in _ (by rw [← Int.natCast_mul]; omega)).trans (Int.natCast_mul a b).symm
theorem vc_mul_w (a b : Nat) (h : a * b < 1000000) : wrap64 ((a : Int) * (b : Int)) = ((a * b : Nat) : Int) := (IntWalk.wrap64_in _ (by rw [← Int.natCast_mul]; omega)).trans (Int.natCast_mul a b).symm
section
variable (w : World) (x y k : Nat) (A : Option Addr) (n c : Nat) (D : List Int)
end
end Go.Proofs.Ytiehpaffbaafcaa
