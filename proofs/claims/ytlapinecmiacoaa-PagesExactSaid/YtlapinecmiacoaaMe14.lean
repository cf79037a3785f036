/-
  A slice literal without elements. No program here. No conditions.
-/
import Derived.Test.YtlapinecmiacoaaMe1
import Derived.Great.BuildSlice
set_option maxRecDepth 100000
namespace Go.Proofs.Ytlapinecmiacoaa
open Go Go.RowKit

/-- '[]T{}': a new row of nothing. -/
theorem run_buildNone {P : Program} (w : World) (t e : TypeId) (ie : TypeInfo) (hu : P.underlying t = some (.slice e)) (hie : P.info? e = some ie) :
    (Instr.buildSlice t 0 #[]).run P w = .ok (.slice (some ⟨w.heap.size, 0, none⟩) 0 0) (w.alloc (.cells #[] e)) := by
  simp [Instr.buildSlice, run_underlying hu, sizeOf, typeInfo, hie, newRow, Instr.fill]
  congr
  apply Array.eq_empty_of_size_eq_zero
  simp
theorem wpList_buildNone {P : Program} {ops : Array Oper} {rest : List Oper} {o : Oper} {a : Act} {w : World} {Q : Exit → Act → World → Prop} (hg : o.guard = none) (t e : TypeId) (ho : o.op = .buildSlice t 0 #[]) (ie : TypeInfo)
    (hu : P.underlying t = some (.slice e)) (hie : P.info? e = some ie) (h : wpList P ops Q rest (a.put o.dst (.slice (some ⟨w.heap.size, 0, none⟩) 0 0)) (w.alloc (.cells #[] e))) : wpList P ops Q (o :: rest) a w :=
  wpList_plain hg fun _ hK => by
    unfold Oper.wp execOp
    have e : ((#[] : Array (Nat × Operand)).map fun (i, x) => (i, a.eval x)) = #[] := by simp
    simp only [ho, Sem.run_bind, e, run_buildNone w t _ ie hu hie, Result.andThen_ok]
    exact hK _ _ h
end Go.Proofs.Ytlapinecmiacoaa
