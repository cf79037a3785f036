/-
  A disk beside blocks that stay: a fuse is set; the power goes where it is away already. Conditions: the power is there ahead of a fuse; few bools.
-/
import Derived.Test.YtnmgkkjnjllpbaaGreatDoorMg21
import Derived.Test.YtnmgkkjnjllpbaaGreatDoorMg20
set_option maxRecDepth 100000
namespace Go.Proofs.YtnmgkkjnjllpbaaGreatDoor
open Go.ChangeShapes Go.WideShapes Go.ChangeAt Go.RowKit Dk

theorem disk_cut_away (K : Nat → Prop) (w : World) (D : Nat) (x : St) (h : DiskAt K w D x) (ha : x.away = true) (kv : Value) : Calls Tryz.prog 30 #[.pointer (some ⟨D, 0, none⟩), kv] w fun e w' => e = .returned (.tuple #[]) ∧ w = w' := by
  have hI := disk_isOn K w D x h
  rw [ha] at hI
  have HI := Lib.hid hI
  clear h hI ha
  go_enter Tryz.func30, Tryz.ntmps30
  go_wp2_with (fail)
  refine HI.out.mono ?_
  rintro e w1 ⟨rfl, rfl⟩
  go_wp2_with (fail)
  go_end0
  exact ⟨rfl, rfl⟩
namespace Zn
variable {w0 w w' : World} {D : Nat} {x : Dk.St} {fs : List (Nat × Obj)}
theorem fuse (h : Zn w0 w D x fs) (ha : x.away = false) (n : Nat) (hn : n < 9223372036854775808) (kv : Value) (kl : List Bool) (hkl : kl.length ≤ 1099511627776) (hk : ∀ W : World, (∀ j, j < w0.heap.size → W.heap[j]? = w0.heap[j]?) → BoolsAt W kv kl) :
    Calls Tryz.prog 28 #[.pointer (some ⟨D, 0, none⟩), .int .i64 (n : Int), kv] w fun e w' => e = .returned (.tuple #[]) ∧ Zn w0 w' D { x with fuse := some (n, kl) } fs := by
  have hD : w0.heap.size ≤ D := by obtain ⟨s, cs, t, ct, lv, fv, hh⟩ := h.disk; exact hh.kD.1
  exact (disk_fuse _ w D x h.disk ha n hn kv kl hkl h.new (fun v => hk _ fun j hj => (heap_setCell_other w ⟨D, 3, none⟩ j v (by show j ≠ D; omega)).trans (h.below.block j hj))).mono fun _ _ hs => h.says hs
end Zn
end Go.Proofs.YtnmgkkjnjllpbaaGreatDoor
