/-
  The reference of layer 11: Times. Conditions: the table's numbers and the row's are there.
-/
import Derived.Test.YtfpdlcblaodflaaDoorVcRef2
namespace Go.Proofs.YtfpdlcblaodflaaDoor
open Go.ChangeShapes Go.WideShapes Go.ChangeAt Go.RowKit Nm Vc

theorem app_small {k n : Nat} (h : k + 1 ≤ n) (hn : n ≤ 4096) : k + 1 ≤ maxLen ∧ (k + 1) * 8 ≤ 140737488355328 := by unfold maxLen; omega
theorem base_le {B : Nat} {w0 w : World} (h : Below B w0 w) (hB : w0.heap.size = B) (o : Obj) : B ≤ (w.alloc o).heap.size := by have := h.size; simp; omega
theorem idx_lt {j x k y n : Nat} (hj : j < x) (hk : k < y) (hn : n = x * y) (hx : x ≤ 64) (hy : y ≤ 64) : j * y + k < n ∧ n ≤ 4096 := by
  have h1 : (j + 1) * y ≤ x * y := Nat.mul_le_mul_right _ hj
  have h2 : x * y ≤ 64 * 64 := Nat.mul_le_mul hx hy
  rw [Nat.succ_mul] at h1
  omega
end Go.Proofs.YtfpdlcblaodflaaDoor
