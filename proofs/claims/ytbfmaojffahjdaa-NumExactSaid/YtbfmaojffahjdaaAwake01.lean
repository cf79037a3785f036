/-
  The document's own examples of layer 1, which each statement of it asks first. No conditions.
-/
import Derived.Test.YtbfmaojffahjdaaNumDiv
import Derived.Test.YtbfmaojffahjdaaNumSqrt
import Derived.Test.YtbfmaojffahjdaaNumMax
import Derived.Test.YtbfmaojffahjdaaNumMin
import Derived.Test.YtbfmaojffahjdaaNumSum
import Derived.Test.YtbfmaojffahjdaaNumDot
namespace Go.Proofs.Ytbfmaojffahjdaa
open Go.ChangeShapes Go.WideShapes Go.ChangeAt Go.RowKit Nm

theorem holds2 (w : World) (b : Nat) (x y : Int) (hb : b = w.heap.size) : Holds (w.alloc (.cells #[.int .i64 x, .int .i64 y] 3)) b 0 [x, y] := by
  subst hb
  intro i hi
  match i, hi with
  | 0, _ => simp
  | 1, _ => simp
theorem holds3 (w : World) (b : Nat) (x y z : Int) (hb : b = w.heap.size) : Holds (w.alloc (.cells #[.int .i64 x, .int .i64 y, .int .i64 z] 3)) b 0 [x, y, z] := by
  subst hb
  intro i hi
  match i, hi with
  | 0, _ => simp
  | 1, _ => simp
  | 2, _ => simp
theorem Holds.later {w w' : World} {b off : Nat} {zs : List Int} (h : Holds w b off zs) (hb : Below w.heap.size w w') (hlt : b < w.heap.size) : Holds w' b off zs :=
  fun i hi => (hb.cell (p := ⟨b, off + i, none⟩) hlt).trans (h i hi)
theorem awake_any (w : World) : Calls Try.prog 7 #[] w fun e w' => e = .returned (.bool true) ∧ Below w.heap.size w w' := by
  go_enter Try.func7, Try.ntmps7
  go_wp2_with (fail)
  refine (as_val (v' := .int .i64 2) (shift_any 3 1 _ (by unfold Fits; omega)) rfl).mono ?_
  rintro e w' ⟨rfl, k, rfl⟩
  go_wp2_with (fail)
  refine (as_val (v' := .int .i64 (-1)) (shift_any (-3) 1 _ (by unfold Fits; omega)) rfl).mono ?_
  rintro e w' ⟨rfl, k2, rfl⟩
  go_wp2_with (fail)
  refine (as_val (v' := .int .i64 (-2)) (div_any (-3) 2 _ (by unfold Fits; omega)) rfl).mono ?_
  rintro e w' ⟨rfl, rfl⟩
  go_wp2_with (fail)
  refine (as_val (v' := .int .i64 3) (sqrt_any 15 _ (by unfold Fits; omega)) rfl).mono ?_
  rintro e w' ⟨rfl, rfl⟩
  go_wp2_with (fail)
  refine (as_val (v' := .int .i64 5) (max_any 2 _ 0 2 2 [5, 3] _ rfl (by decide) (holds2 _ _ _ _ rfl)) rfl).mono ?_
  rintro e w' ⟨rfl, rfl⟩
  go_wp2_with (fail)
  refine (as_val (v' := .int .i64 2) (min_nil 2 _) rfl).mono ?_
  rintro e w' ⟨rfl, rfl⟩
  go_wp2_with (fail)
  refine (as_val (v' := .int .i64 3) (sum_any _ 0 2 2 [1, 2] _ rfl (by decide) (holds2 _ _ _ _ (by simp))) rfl).mono ?_
  rintro e w' ⟨rfl, rfl⟩
  go_wp2_with (fail)
  refine (as_val (v' := .int .i64 11) (dot_any _ 0 2 2 _ 0 3 3 [1, 2] [3, 4, 5] _ rfl rfl (by decide) (by decide)
    ((holds2 _ _ _ _ (by simp)).later ((Below.refl _ _).alloc (Nat.le_refl _) _) (by simp)) (holds3 _ _ _ _ _ (by simp))) rfl).mono ?_
  rintro e w' ⟨rfl, n, rfl⟩
  go_wp2
  go_ret
  refine ⟨rfl, ?_⟩
  repeat (first | exact Below.refl _ _ | (apply below_drewN) | (refine Below.alloc ?_ (by simp; try omega) _))
end Go.Proofs.Ytbfmaojffahjdaa
