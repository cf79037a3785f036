/-
  Two layouts that are the same: == and !=. No conditions.
-/
import Derived.Test.YtnmgkkjnjllpbaaGreatDoorMg12
import Derived.Laws.StructEq
set_option maxRecDepth 100000
namespace Go.Proofs.YtnmgkkjnjllpbaaGreatDoor
open Go Go.ChangeShapes Go.WideShapes Go.ChangeAt Go.RowKit Ly

def fieldsLy : List (Bool × TypeId × Nat) := [(true, 3, 0), (true, 3, 1), (true, 3, 2)]
set_option maxRecDepth 100000 in
theorem fields_ly : (Tryz.prog.fieldsOf 23).toList.map (fun f => (f.name != "_", f.type, f.offset)) = fieldsLy := by kernel_rfl
theorem run_part_ly (r k c : Int) (w : World) : (part 3 (lyA r k c) 0).run Tryz.prog w = .ok (.int .i64 r) w ∧ (part 3 (lyA r k c) 1).run Tryz.prog w = .ok (.int .i64 k) w ∧ (part 3 (lyA r k c) 2).run Tryz.prog w = .ok (.int .i64 c) w := by
  refine ⟨?_, ?_, ?_⟩ <;> simp [part, go_sem, lyA]
set_option maxRecDepth 100000 in
theorem run_eqIn_ly (r k c : Int) (w : World) : (Op.equalIn 10000 23 (.agg (lyA r k c)) (.agg (lyA r k c))).run Tryz.prog w = .ok true w := by
  have ht : Tryz.prog.underlying 23 = some (.struct (Tryz.prog.fieldsOf 23)) := by kernel_rfl
  have hp : Tryz.prog.stoodInHeld 23 = false := by kernel_rfl
  have hf := fields_ly
  have h0 : ∀ (n : Int) w, (Op.equalIn 9999 3 (.int .i64 n) (.int .i64 n)).run Tryz.prog w = .ok true w := fun n w => by
    have h3 := run_equalIn_int (P := Tryz.prog) (w := w) 9998 3 .i64 .i64 n n Tryz.underlying3
    rwa [beq_self_eq_true] at h3
  rw [run_equalIn_struct (P := Tryz.prog) w 9999 _ _ _ ht hp]
  generalize (Tryz.prog.fieldsOf 23).toList = fs at hf
  unfold fieldsLy at hf
  obtain ⟨f0, fs, rfl, g0, hf⟩ := List.map_eq_cons_iff.1 hf
  obtain ⟨f1, fs, rfl, g1, hf⟩ := List.map_eq_cons_iff.1 hf
  obtain ⟨f2, fs, rfl, g2, hf⟩ := List.map_eq_cons_iff.1 hf
  obtain rfl := List.map_eq_nil_iff.1 hf
  simp only [Prod.mk.injEq, bne_iff_ne] at g0 g1 g2
  obtain ⟨a0, a1, a2⟩ := g0
  obtain ⟨b0, b1, b2⟩ := g1
  obtain ⟨c0, c1, c2⟩ := g2
  simp only [Op.eqFields, a0, a1, a2, b0, b1, b2, c0, c1, c2, ne_eq, not_false_eq_true, if_true, Sem.run_bind, (run_part_ly r k c _).1, (run_part_ly r k c _).2.1, (run_part_ly r k c _).2.2, Result.andThen_ok, h0, Bool.not_true, Bool.false_eq_true, if_false, Sem.run_pure]
theorem run_eql_ly (r k c : Int) (w : World) : (binOp .eql 23 (.agg (lyA r k c)) (.agg (lyA r k c))).run Tryz.prog w = .ok (.bool true) w := by
  rw [run_eql_struct, run_eqIn_ly]
  rfl
theorem run_neq_ly (r k c : Int) (w : World) : (binOp .neq 23 (.agg (lyA r k c)) (.agg (lyA r k c))).run Tryz.prog w = .ok (.bool false) w := by
  rw [run_neq_struct, run_eqIn_ly]
  rfl
end Go.Proofs.YtnmgkkjnjllpbaaGreatDoor
