/-
  Two sums, compared: the same. No conditions.
-/
import Derived.Test.YtdadcpkkpopbcabPenDigV
import Derived.ChangeKeysEq
import Derived.Laws.StructEq
namespace Go.Proofs.Ytdadcpkkpopbcab
open Go.ChangeShapes Go.WideShapes Go.ChangeAt Go.RowKit Pn

theorem infoB' : (Try.prog.info? 5).map (fun i => (i.zero, i.size, i.bytes)) = some (some (.int .u8 0), 1, 1) := by kernel_rfl
theorem run_partB (f : Nat → UInt8) (i : Nat) (h : i < 32) (w : World) : (part 5 (dgV f) (i * 1)).run Try.prog w = .ok (.int .u8 ((f i).toNat : Int)) w := by
  have hg : (dgV f)[i]? = some (.int .u8 ((f i).toNat : Int)) := vals_get _ _ i h
  simp [part, go_sem, hg]
theorem run_itemsB (f : Nat → UInt8) (w : World) : ∀ is : List Nat, (∀ i ∈ is, i < 32) → (Op.eqItems 9999 5 1 (dgV f) (dgV f) is).run Try.prog w = .ok true w := by
  intro is
  induction is with
  | nil => intro _; rfl
  | cons i is ih =>
    intro h
    have hi := h i (by simp)
    have h2 := ih fun j hj => h j (by simp [hj])
    have h3 := run_equalIn_int (P := Try.prog) (w := w) 9998 5 .u8 .u8 ((f i).toNat : Int) ((f i).toNat : Int) Try.underlying5
    simp only [beq_self_eq_true] at h3
    simp only [Op.eqItems, Sem.run_bind, run_partB f i hi, Result.andThen_ok, h3]
    simp [h2]
theorem run_neq_dgV (f : Nat → UInt8) (w : World) : (binOp .neq 30 (.agg (dgV f)) (.agg (dgV f))).run Try.prog w = .ok (.bool false) w := by
  obtain ⟨i0, hi, _⟩ := info_parts infoB'
  rw [run_neq_struct, run_equalIn_array (P := Try.prog) (w := w) 9999 (dgV f) (dgV f) Try.underlying30 hi]
  have hc : Try.prog.cellsOf 5 = 1 := by kernel_rfl
  rw [hc, run_itemsB f w (List.range 32) (fun i hi => List.mem_range.1 hi)]
  rfl
theorem run_eql_dgV (f : Nat → UInt8) (w : World) : (binOp .eql 30 (.agg (dgV f)) (.agg (dgV f))).run Try.prog w = .ok (.bool true) w := by
  obtain ⟨i0, hi, _⟩ := info_parts infoB'
  rw [run_eql_struct, run_equalIn_array (P := Try.prog) (w := w) 9999 (dgV f) (dgV f) Try.underlying30 hi]
  have hc : Try.prog.cellsOf 5 = 1 := by kernel_rfl
  rw [hc, run_itemsB f w (List.range 32) (fun i hi => List.mem_range.1 hi)]
  rfl
end Go.Proofs.Ytdadcpkkpopbcab
