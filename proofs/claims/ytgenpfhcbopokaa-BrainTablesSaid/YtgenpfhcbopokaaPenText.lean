/-
  Package pen's pen: texts and bytes are written. Conditions: the pen stands in a block of its own; the texts stand where it looks, each of at most a million bytes; fewer than 2^40 bytes.
-/
import Derived.Test.YtgenpfhcbopokaaPenNum
import Derived.Deep.Cut
namespace Go.Proofs.Ytgenpfhcbopokaa
open Go.ChangeShapes Go.WideShapes Go.ChangeAt Go.RowKit Pn

namespace Pn
def textL (s : ByteArray) : List UInt8 := numL (s.size : Int) ++ s.data.toList
def textsL (ss : Nat → ByteArray) (n : Nat) : List UInt8 := (List.range n).flatMap fun k => textL (ss k)
theorem textsL_next (ss : Nat → ByteArray) (n : Nat) : textsL ss (n + 1) = textsL ss n ++ textL (ss n) := by
  unfold textsL; rw [List.range_succ, List.flatMap_append]; simp
theorem textL_length (s : ByteArray) : (textL s).length = 4 + s.size := by
  unfold textL
  rw [List.length_append, numL_length]
  rfl
theorem textsL_le (ss : Nat → ByteArray) (n : Nat) (h : ∀ k, k < n → (ss k).size ≤ 1000000) : (textsL ss n).length ≤ 1000004 * n := by
  induction n with
  | zero => exact Nat.zero_le _
  | succ n ih =>
    rw [textsL_next, List.length_append, textL_length]
    have := ih fun k hk => h k (by omega)
    have := h n (by omega)
    omega
end Pn

end Go.Proofs.Ytgenpfhcbopokaa
