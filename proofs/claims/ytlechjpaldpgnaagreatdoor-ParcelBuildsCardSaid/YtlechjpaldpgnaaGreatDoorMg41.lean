/-
  Package vecs: fits and Good; the reference's Good. No conditions.
  Package vecs: a table's Row. Conditions: the table's numbers are there.
  Package vecs: Plus. Conditions: the list's rows are there, at most 4096 rows of at most 4096 numbers.
-/
import Derived.Test.YtlechjpaldpgnaaGreatDoorMg17
import Derived.Deep.OwnRows
set_option maxRecDepth 100000
namespace Go.Proofs.YtlechjpaldpgnaaGreatDoor
open Go.ChangeShapes Go.WideShapes Go.ChangeAt Go.RowKit Nm Vc

end Go.Proofs.YtlechjpaldpgnaaGreatDoor
namespace Go.Proofs.YtlechjpaldpgnaaGreatDoor
open Go.ChangeShapes Go.WideShapes Go.ChangeAt Go.RowKit Nm Vc

section
variable (w : World) (x y at_ : Int) (A : Option Addr) (n c : Nat)
end
theorem vc_less (a b : Nat) (h : a < b) : b - ((a : Int) + 1).toNat < b - (a : Int).toNat := by omega
theorem vc_add_i (a b : Nat) (h : a + b < 1000000) : IntKind.i64.wrap ((a : Int) + (b : Int)) = ((a + b : Nat) : Int) := (IntWalk.i64_in _ (by omega)).trans (Int.natCast_add a b).symm
theorem vc_add_w (a b : Nat) (h : a + b < 1000000) : wrap64 ((a : Int) + (b : Int)) = ((a + b : Nat) : Int) := (IntWalk.wrap64_in _ (by omega)).trans (Int.natCast_add a b).symm
theorem vc_mul_i (a b : Nat) (h : a * b < 1000000) : IntKind.i64.wrap ((a : Int) * (b : Int)) = ((a * b : Nat) : Int) := (IntWalk.i64_in _ (by rw [← Int.natCast_mul]; omega)).trans (Int.natCast_mul a b).symm
theorem vc_mul_w (a b : Nat) (h : a * b < 1000000) : wrap64 ((a : Int) * (b : Int)) = ((a * b : Nat) : Int) := (IntWalk.wrap64_in _ (by rw [← Int.natCast_mul]; omega)).trans (Int.natCast_mul a b).symm
section
variable (w : World) (x y k : Nat) (A : Option Addr) (n c : Nat) (D : List Int)
end
end Go.Proofs.YtlechjpaldpgnaaGreatDoor
namespace Go.Proofs.YtlechjpaldpgnaaGreatDoor
open Go.ChangeShapes Go.WideShapes Go.ChangeAt Go.RowKit Nm Vc

namespace Vc
/-- Rows of numbers behind a slice: where each is, how many it may hold. -/
def LIn (w : World) (A : Option Addr) (B : Nat → Option Addr) (C : Nat → Nat) (L : List (List Int)) : Prop :=
  0 < L.length → ∃ pb po, A = some ⟨pb, po, none⟩ ∧ ∀ i, i < L.length → w.cell? ⟨pb, po + i, none⟩ = some (.slice (B i) (L.getD i []).length (C i)) ∧ KIn .i64 w (B i) (L.getD i [])
theorem LIn.below {w w' : World} {A : Option Addr} {B : Nat → Option Addr} {C : Nat → Nat} {L : List (List Int)} {N : Nat} (h : LIn w A B C L) (hb : Below N w w') (hN : w.heap.size ≤ N) : LIn w' A B C L := fun h0 => by
  obtain ⟨pb, po, e, hc⟩ := h h0
  exact ⟨pb, po, e, fun i hi => ⟨(hb.cell (p := ⟨pb, po + i, none⟩) (Nat.lt_of_lt_of_le (block_lt_of_cell (hc i hi).1) hN)).trans (hc i hi).1, (hc i hi).2.below hb hN⟩⟩
theorem LIn.at {w : World} {A : Option Addr} {B : Nat → Option Addr} {C : Nat → Nat} {L : List (List Int)} (h : LIn w A B C L) {i : Nat} (hi : i < L.length) :
    ∃ pb po, A = some ⟨pb, po, none⟩ ∧ w.cell? ⟨pb, po + i, none⟩ = some (.slice (B i) (L.getD i []).length (C i)) ∧ KIn .i64 w (B i) (L.getD i []) := by
  obtain ⟨pb, po, e, hc⟩ := h (by omega)
  exact ⟨pb, po, e, hc i hi⟩
/-- Whether the first k rows have as many numbers as the first. -/
def evenTo (L : List (List Int)) (k : Nat) : Prop := ∀ i, i < k → (L.getD i []).length = (L.getD 0 []).length
end Vc
section
variable (w : World) (A : Option Addr) (c : Nat) (B : Nat → Option Addr) (C : Nat → Nat) (L : List (List Int)) (n : Nat)
end
end Go.Proofs.YtlechjpaldpgnaaGreatDoor
