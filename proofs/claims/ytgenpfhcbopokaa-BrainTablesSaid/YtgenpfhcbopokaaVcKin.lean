/-
  Short rows of numbers, and lists of one or two rows, made for a call. No program's function here. No conditions.
-/
import Derived.Test.YtgenpfhcbopokaaVc7
namespace Go.Proofs.Ytgenpfhcbopokaa
open Go.ChangeShapes Go.WideShapes Go.ChangeAt Go.RowKit Nm Vc

namespace Vc
theorem KIn.alloc {kd : IntKind} {w : World} {A : Option Addr} {zs : List Int} (h : KIn kd w A zs) (o : Obj) : KIn kd (w.alloc o) A zs := h.below ((Below.refl _ _).alloc (Nat.le_refl _) o) (Nat.le_refl _)
/-- A row of two numbers, made now. -/
theorem kin2 (w : World) (b : Nat) (x y : Int) (hb : w.heap.size = b) : KIn .i64 (w.alloc (.cells #[.int .i64 x, .int .i64 y] 3)) (some ⟨b, 0, none⟩) [x, y] := fun _ =>
  ⟨_, _, rfl, fun i hi => by
    subst hb
    rw [cell_of_row _ _ _ _ _ _ (heap_alloc_new w _), Nat.zero_add]
    match i, hi with
    | 0, _ => rfl
    | 1, _ => rfl⟩
/-- One of two. -/
def two {α : Type} (a b : α) (i : Nat) : α := if i = 0 then a else b
/-- A list of two rows, made now. -/
theorem lin2 {w : World} {A B : Option Addr} {n m c d : Nat} {zs us : List Int} (b : Nat) (hb : w.heap.size = b) (hz : zs.length = n) (hu : us.length = m) (hA : KIn .i64 w A zs) (hB : KIn .i64 w B us) :
    LIn (w.alloc (.cells #[.slice A n c, .slice B m d] 50)) (some ⟨b, 0, none⟩) (two A B) (two c d) [zs, us] := fun _ =>
  ⟨_, _, rfl, fun i hi => by
    subst hb
    rw [cell_of_row _ _ _ _ _ _ (heap_alloc_new w _), Nat.zero_add]
    match i, hi with
    | 0, _ => exact ⟨by rw [← hz]; rfl, hA.alloc _⟩
    | 1, _ => exact ⟨by rw [← hu]; rfl, hB.alloc _⟩⟩
/-- A row of one number, and of three, made now. -/
theorem kin1 (w : World) (b : Nat) (x : Int) (hb : w.heap.size = b) : KIn .i64 (w.alloc (.cells #[.int .i64 x] 3)) (some ⟨b, 0, none⟩) [x] := fun _ =>
  ⟨_, _, rfl, fun i hi => by
    subst hb
    rw [cell_of_row _ _ _ _ _ _ (heap_alloc_new w _), Nat.zero_add]
    match i, hi with
    | 0, _ => rfl⟩
theorem kin3 (w : World) (b : Nat) (x y z : Int) (hb : w.heap.size = b) : KIn .i64 (w.alloc (.cells #[.int .i64 x, .int .i64 y, .int .i64 z] 3)) (some ⟨b, 0, none⟩) [x, y, z] := fun _ =>
  ⟨_, _, rfl, fun i hi => by
    subst hb
    rw [cell_of_row _ _ _ _ _ _ (heap_alloc_new w _), Nat.zero_add]
    match i, hi with
    | 0, _ => rfl
    | 1, _ => rfl
    | 2, _ => rfl⟩
/-- A list of one row, made now. -/
theorem lin1 {w : World} {A : Option Addr} {n c : Nat} {zs : List Int} (b : Nat) (hb : w.heap.size = b) (hz : zs.length = n) (hA : KIn .i64 w A zs) :
    LIn (w.alloc (.cells #[.slice A n c] 50)) (some ⟨b, 0, none⟩) (fun _ => A) (fun _ => c) [zs] := fun _ =>
  ⟨_, _, rfl, fun i hi => by
    subst hb
    rw [cell_of_row _ _ _ _ _ _ (heap_alloc_new w _), Nat.zero_add]
    match i, hi with
    | 0, _ => exact ⟨by rw [← hz]; rfl, hA.alloc _⟩⟩
end Vc
end Go.Proofs.Ytgenpfhcbopokaa
