/-
  Package vecs: Plus. Conditions: the list's rows are there, at most 4096 rows of at most 4096 numbers.
-/
import Derived.Test.YtiehpaffbaafcaaVc4
namespace Go.Proofs.Ytiehpaffbaafcaa
open Go.ChangeShapes Go.WideShapes Go.ChangeAt Go.RowKit Nm Vc

namespace Vc
/-- Rows of numbers behind a slice: where each is, how many it may hold. -/
def LIn (w : World) (A : Option Addr) (B : Nat → Option Addr) (C : Nat → Nat) (L : List (List Int)) : Prop :=
  0 < L.length → ∃ pb po, A = some ⟨pb, po, none⟩ ∧ ∀ i, i < L.length → w.cell? ⟨pb, po + i, none⟩ = some (.slice (B i) (L.getD i []).length (C i)) ∧ KIn .i64 w (B i) (L.getD i [])
theorem LIn.below {w w' : World} {A : Option Addr} {B : Nat → Option Addr} {C : Nat → Nat} {L : List (List Int)} {N : Nat} (h : LIn w A B C L) (hb : Below N w w') (hN : w.heap.size ≤ N) : LIn w' A B C L := fun h0 => by
  obtain ⟨pb, po, e, hc⟩ := h h0
  exact ⟨pb, po, e, fun i hi => ⟨(hb.cell (p := ⟨pb, po + i, none⟩) (Nat.lt_of_lt_of_le (block_lt_of_cell (hc i hi).1) hN)).trans (hc i hi).1, (hc i hi).2.below hb hN⟩⟩
theorem LIn.at {w : World} {A : Option Addr} {B : Nat → Option Addr} {C : Nat → Nat} {L : List (List Int)} (h : LIn w A B C L) {i : Nat} (hi : i < L.length) :
    ∃ pb po, A = some ⟨pb, po, none⟩ ∧ w.cell? ⟨pb, po + i, none⟩ = some (.slice (B i) (L.getD i []).length (C i)) ∧ KIn .i64 w (B i) (L.getD i []) := by
  obtain ⟨pb, po, e, hc⟩ := h (by omega)
  exact ⟨pb, po, e, hc i hi⟩
/-- Whether the first k rows have as many numbers as the first. -/
def evenTo (L : List (List Int)) (k : Nat) : Prop := ∀ i, i < k → (L.getD i []).length = (L.getD 0 []).length
end Vc
section
variable (w : World) (A : Option Addr) (c : Nat) (B : Nat → Option Addr) (C : Nat → Nat) (L : List (List Int)) (n : Nat)
end
end Go.Proofs.Ytiehpaffbaafcaa
