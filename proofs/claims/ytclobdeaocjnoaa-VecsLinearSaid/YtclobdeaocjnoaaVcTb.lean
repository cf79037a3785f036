/-
  A table in a block, kept over calls; lists of two rows. No program's function here. No conditions.
-/
import Derived.Test.YtclobdeaocjnoaaVc7
import Derived.Test.YtclobdeaocjnoaaVc5
import Derived.Test.YtclobdeaocjnoaaVcInts
namespace Go.Proofs.Ytclobdeaocjnoaa
open Go.ChangeShapes Go.WideShapes Go.ChangeAt Go.RowKit Nm Vc

namespace Vc
/-- A table lies in the block T, and its numbers are there; what was there at w0 is as it was. -/
structure Tb (w0 w : World) (T : Nat) (x y : Int) (A : Option Addr) (n c : Nat) (D : List Int) : Prop where
  below : Below w0.heap.size w0 w
  blk : w.heap[T]? = some (tbO x y A n c)
  nums : KIn .i8 w A D
section
variable {w0 w w' : World} {T : Nat} {x y : Int} {A : Option Addr} {n c : Nat} {D : List Int}
theorem Tb.lt (h : Tb w0 w T x y A n c D) : T < w.heap.size := (Array.getElem?_eq_some_iff.1 h.blk).1
theorem Tb.step (h : Tb w0 w T x y A n c D) (b : Below w.heap.size w w') : Tb w0 w' T x y A n c D := ⟨h.below.trans (b.mono h.below.size), (b.block T h.lt).trans h.blk, h.nums.below b (Nat.le_refl _)⟩
theorem Tb.alloc (h : Tb w0 w T x y A n c D) (o : Obj) : Tb w0 (w.alloc o) T x y A n c D := h.step ((Below.refl _ _).alloc (Nat.le_refl _) o)
theorem Tb.drewN (h : Tb w0 w T x y A n c D) (k : Nat) : Tb w0 (w.drewN k) T x y A n c D := h.step (below_drewN (Below.refl _ _) k)
/-- A table's own block, made now. -/
theorem Tb.new (hb : Below w0.heap.size w0 w) (hA : KIn .i8 w A D) (x y : Int) (n c : Nat) : Tb w0 (w.alloc (tbO x y A n c)) w.heap.size x y A n c D :=
  ⟨hb.alloc hb.size _, heap_alloc_new w _, hA.below ((Below.refl _ _).alloc (Nat.le_refl _) _) (Nat.le_refl _)⟩
end
theorem KIn.alloc {kd : IntKind} {w : World} {A : Option Addr} {zs : List Int} (h : KIn kd w A zs) (o : Obj) : KIn kd (w.alloc o) A zs := h.below ((Below.refl _ _).alloc (Nat.le_refl _) o) (Nat.le_refl _)
/-- A row of two numbers, made now. -/
theorem kin2 (w : World) (b : Nat) (x y : Int) (hb : w.heap.size = b) : KIn .i64 (w.alloc (.cells #[.int .i64 x, .int .i64 y] 3)) (some ⟨b, 0, none⟩) [x, y] := fun _ =>
  ⟨_, _, rfl, fun i hi => by
    subst hb
    rw [cell_of_row _ _ _ _ _ _ (heap_alloc_new w _), Nat.zero_add]
    match i, hi with
    | 0, _ => rfl
    | 1, _ => rfl⟩
/-- One of two. -/
def two {α : Type} (a b : α) (i : Nat) : α := if i = 0 then a else b
/-- A list of two rows, made now. -/
theorem lin2 {w : World} {A B : Option Addr} {n m c d : Nat} {zs us : List Int} (b : Nat) (hb : w.heap.size = b) (hz : zs.length = n) (hu : us.length = m) (hA : KIn .i64 w A zs) (hB : KIn .i64 w B us) :
    LIn (w.alloc (.cells #[.slice A n c, .slice B m d] 30)) (some ⟨b, 0, none⟩) (two A B) (two c d) [zs, us] := fun _ =>
  ⟨_, _, rfl, fun i hi => by
    subst hb
    rw [cell_of_row _ _ _ _ _ _ (heap_alloc_new w _), Nat.zero_add]
    match i, hi with
    | 0, _ => exact ⟨by rw [← hz]; rfl, hA.alloc _⟩
    | 1, _ => exact ⟨by rw [← hu]; rfl, hB.alloc _⟩⟩
end Vc
end Go.Proofs.Ytclobdeaocjnoaa
