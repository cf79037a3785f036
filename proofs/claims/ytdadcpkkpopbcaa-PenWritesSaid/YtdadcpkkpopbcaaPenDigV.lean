/-
  A sum's 32 bytes as values. No program's function here. No conditions.
-/
import Derived.Test.YtdadcpkkpopbcaaPenSpec
namespace Go.Proofs.Ytdadcpkkpopbcaa
open Go.ChangeShapes Go.WideShapes Go.ChangeAt Go.RowKit Pn

/-- 32 bytes as the program hands them on. -/
def dgV (f : Nat → UInt8) : Array Value := vals 32 fun j => .int .u8 ((f j).toNat : Int)
theorem dgI (f : Nat → UInt8) : (Try.prog.info? 29).map (·.size) = some (dgV f).size := info_vals _ (by kernel_rfl)
theorem dgO (f : Nat → UInt8) : (dgV f).all (·.oneCell') = true := vals_one fun _ => rfl
theorem dgZ (f g : Nat → UInt8) : (dgV f).size = (dgV g).size := by unfold dgV; rw [vals_size, vals_size]
end Go.Proofs.Ytdadcpkkpopbcaa
