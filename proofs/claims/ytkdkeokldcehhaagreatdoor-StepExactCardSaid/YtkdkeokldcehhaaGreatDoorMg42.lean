/-
  Numbers that come in are such as an int holds. No conditions.
-/
import Derived.Test.YtkdkeokldcehhaaGreatDoorMg5
import GoSem.ClaimData
set_option maxRecDepth 100000
namespace Go.Proofs.YtkdkeokldcehhaaGreatDoor
open Nm
theorem int_hi {z : Int} (h : (Lit.int .i64 z).wf = true) : z ≤ 9223372036854775807 := by
  simp [Lit.wf, IntKind.min, IntKind.max, IntKind.bits, IntKind.signed] at h
  omega
theorem int_fits {z : Int} (h : (Lit.int .i64 z).wf = true) : Fits z := by
  simp [Lit.wf, IntKind.min, IntKind.max, IntKind.bits, IntKind.signed] at h
  unfold Fits
  omega
end Go.Proofs.YtkdkeokldcehhaaGreatDoor
