/-
  A row of numbers cut: where the piece lies. No program's function here. No conditions but the bounds.
-/
import Derived.Test.YtfpdlcblaodflaaDoorVcSpec
import Derived.Laws.Slices
namespace Go.Proofs.YtfpdlcblaodflaaDoor
open Go.ChangeShapes Go.WideShapes Go.ChangeAt Go.RowKit Nm

namespace Vc
theorem elem_ints : Tryd.prog.elem 22 = 3 := by kernel_rfl
theorem under_ints : Tryd.prog.underlying 22 = some (.slice (Tryd.prog.elem 22)) := by kernel_rfl
theorem size_ints (W : World) : (sizeOf (Tryd.prog.elem 22)).run Tryd.prog W = .ok 1 W := by
  obtain ⟨i0, hi, _, hz1, _⟩ := info_parts info_int
  rw [elem_ints]
  simp [sizeOf, typeInfo, hi, hz1]
section
variable (pa oa n c i j : Nat) (I J : Int)
theorem cut_lh (hI : I = (i : Int)) (hJ : J = (j : Int)) (h1 : i ≤ j) (h2 : j ≤ c) (h3 : i < c) (d : Nat) (hd : d = j - i) (W : World) :
    (Instr.slice 22 (.slice (some ⟨pa, oa, none⟩) n c) (some (.int .i64 I)) (some (.int .i64 J)) none).run Tryd.prog W = .ok (.slice (some ⟨pa, oa + i, none⟩) d (c - i)) W := by
  subst hI hJ hd
  rw [run_slice_lh (P := Tryd.prog) (w := W) 22 _ n c under_ints .i64 .i64 (i : Int) (j : Int) (by omega) (by omega) (by omega), size_ints]
  have e : ¬ c = i := by omega
  simp [Result.andThen, sliced, Addr.add, e]
theorem cut_to (A : Option Addr) (hJ : J = (j : Int)) (h2 : j ≤ c) (W : World) :
    (Instr.slice 22 (.slice A n c) none (some (.int .i64 J)) none).run Tryd.prog W = .ok (.slice A j c) W := by
  subst hJ
  rw [run_slice_h (P := Tryd.prog) (w := W) 22 _ n c under_ints .i64 (j : Int) (by omega) (by omega), size_ints]
  cases A <;> simp [Result.andThen, sliced, Addr.add]
/-- The rest: where the row ends, it stands where it stood. -/
def fromA (A : Option Addr) (c i : Nat) : Option Addr := if c = i then A else A.map (·.add i)
theorem cut_from (A : Option Addr) (hI : I = (i : Int)) (h1 : i ≤ n) (W : World) :
    (Instr.slice 22 (.slice A n c) (some (.int .i64 I)) none none).run Tryd.prog W = .ok (.slice (fromA A c i) (n - i) (c - i)) W := by
  subst hI
  rw [run_slice_l (P := Tryd.prog) (w := W) 22 _ n c under_ints .i64 (i : Int) (by omega) (by omega), size_ints]
  simp only [Result.andThen, sliced, Int.toNat_natCast, Nat.mul_one, fromA]
end
theorem KIn.take {kd : IntKind} {w : World} {A : Option Addr} {zs : List Int} (h : KIn kd w A zs) (k : Nat) : KIn kd w A (zs.take k) := fun h0 => by
  rw [List.length_take] at h0
  obtain ⟨pb, po, rfl, hc⟩ := h (by omega)
  refine ⟨pb, po, rfl, fun i hi => ?_⟩
  rw [List.length_take] at hi
  rw [hc i (by omega), List.getD_eq_getElem?_getD, List.getD_eq_getElem?_getD, List.getElem?_take_of_lt (by omega)]
theorem KIn.from {kd : IntKind} {w : World} {A : Option Addr} {zs : List Int} (h : KIn kd w A zs) {c : Nat} (hc : zs.length ≤ c) (k : Nat) : KIn kd w (fromA A c k) (zs.drop k) := fun h0 => by
  rw [List.length_drop] at h0
  obtain ⟨pb, po, rfl, hx⟩ := h (by omega)
  refine ⟨pb, po + k, ?_, fun i hi => ?_⟩
  · unfold fromA
    rw [if_neg (by omega)]
    simp [Addr.add]
  rw [List.length_drop] at hi
  rw [Nat.add_assoc, hx (k + i) (by omega), List.getD_eq_getElem?_getD, List.getD_eq_getElem?_getD, List.getElem?_drop]
end Vc
end Go.Proofs.YtfpdlcblaodflaaDoor
