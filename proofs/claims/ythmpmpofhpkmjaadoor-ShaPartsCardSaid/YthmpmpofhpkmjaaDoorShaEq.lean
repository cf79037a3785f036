/-
  Two sums, compared: the same, or not. No conditions.
-/
import Derived.Test.YthmpmpofhpkmjaaDoorShaText
import Derived.ChangeKeysEq
import Derived.Laws.StructEq
namespace Go.Proofs.YthmpmpofhpkmjaaDoor
open Go.ChangeShapes Go.WideShapes Go.ChangeAt Go.RowKit Sh

theorem run_part5 (f : Nat → UInt8) (i : Nat) (h : i < 32) (w : World) : (part 5 (digF f) (i * 1)).run Tryd.prog w = .ok (.int .u8 ((f i).toNat : Int)) w := by
  have hg : (digF f)[i]? = some (.int .u8 ((f i).toNat : Int)) := vals_get _ _ i h
  simp [part, go_sem, hg]
theorem byte_beq (a b : UInt8) : ((a.toNat : Int) == (b.toNat : Int)) = (a == b) := by
  rw [Bool.eq_iff_iff, beq_iff_eq, beq_iff_eq]
  constructor
  · intro h; exact UInt8.toNat_inj.1 (by omega)
  · intro h; rw [h]
theorem run_items (f g : Nat → UInt8) (w : World) : ∀ is : List Nat, (∀ i ∈ is, i < 32) → (Op.eqItems 9999 5 1 (digF f) (digF g) is).run Tryd.prog w = .ok (is.all fun i => f i == g i) w := by
  intro is
  induction is with
  | nil => intro _; rfl
  | cons i is ih =>
    intro h
    have hi := h i (by simp)
    have h2 := ih fun j hj => h j (by simp [hj])
    have h3 := run_equalIn_int (P := Tryd.prog) (w := w) 9998 5 .u8 .u8 ((f i).toNat : Int) ((g i).toNat : Int) Tryd.underlying5
    rw [byte_beq] at h3
    simp only [Op.eqItems, Sem.run_bind, run_part5 f i hi, run_part5 g i hi, Result.andThen_ok, h3]
    cases hb : (f i == g i)
    · simp [hb]
    · simp [hb, h2]
/-- Whether 32 bytes are the same. -/
def same (f g : Nat → UInt8) : Bool := (List.range 32).all fun i => f i == g i
theorem same_refl (f : Nat → UInt8) : same f f = true := by unfold same; simp
theorem same_iff (f g : Nat → UInt8) : same f g = true ↔ ∀ i, i < 32 → f i = g i := by unfold same; simp
theorem same_dig {f g : Nat → UInt8} (h : same f g = true) : digF f = digF g := vals_congr fun i hi => by rw [(same_iff f g).1 h i hi]
theorem run_eql_dig (f g : Nat → UInt8) (w : World) : (binOp .eql 25 (.agg (digF f)) (.agg (digF g))).run Tryd.prog w = .ok (.bool (same f g)) w := by
  obtain ⟨i0, hi, _⟩ := info_parts info5
  rw [run_eql_struct, run_equalIn_array (P := Tryd.prog) (w := w) 9999 (digF f) (digF g) Tryd.underlying25 hi]
  have hc : Tryd.prog.cellsOf 5 = 1 := by kernel_rfl
  rw [hc, run_items f g w (List.range 32) (fun i hi => List.mem_range.1 hi)]
  rfl
theorem run_neq_dig (f g : Nat → UInt8) (w : World) : (binOp .neq 25 (.agg (digF f)) (.agg (digF g))).run Tryd.prog w = .ok (.bool (!same f g)) w := by
  obtain ⟨i0, hi, _⟩ := info_parts info5
  rw [run_neq_struct, run_equalIn_array (P := Tryd.prog) (w := w) 9999 (digF f) (digF g) Tryd.underlying25 hi]
  have hc : Tryd.prog.cellsOf 5 = 1 := by kernel_rfl
  rw [hc, run_items f g w (List.range 32) (fun i hi => List.mem_range.1 hi)]
  rfl
theorem digV_dig (l : List UInt8) : digV l = digF (sumByte (sumSt l)) := rfl
/-- The sum's bytes. -/
def sumF (l : List UInt8) : Nat → UInt8 := sumByte (sumSt l)
end Go.Proofs.YthmpmpofhpkmjaaDoor
