/-
  Two deeds of the document's form, compared: the same. No conditions.
-/
import Derived.Test.YtiehpaffbaafcaaPtMem
import Derived.ChangeKeysEq
import Derived.Laws.StructEq
namespace Go.Proofs.Ytiehpaffbaafcaa
open Go Go.ChangeShapes Go.WideShapes Go.ChangeAt Go.RowKit Pt

def fieldsRop : List (Bool × TypeId × Nat) := [(true, 3, 0), (true, 3, 1), (true, 3, 2), (true, 9, 3)]
set_option maxRecDepth 100000 in
theorem fields_rop : (Try.prog.fieldsOf 38).toList.map (fun f => (f.name != "_", f.type, f.offset)) = fieldsRop := by kernel_rfl
def ropA (o : Deed) : Array Value := #[.int .i64 o.k, .int .i64 o.f, .int .i64 o.s, .string o.d]
theorem run_part_rop (o : Deed) (w : World) : (part 3 (ropA o) 0).run Try.prog w = .ok (.int .i64 o.k) w ∧ (part 3 (ropA o) 1).run Try.prog w = .ok (.int .i64 o.f) w ∧ (part 3 (ropA o) 2).run Try.prog w = .ok (.int .i64 o.s) w ∧ (part 9 (ropA o) 3).run Try.prog w = .ok (.string o.d) w := by
  refine ⟨?_, ?_, ?_, ?_⟩ <;> simp [part, go_sem, ropA]
set_option maxRecDepth 100000 in
theorem run_eqIn_rop (N : Nat) (o : Deed) (w : World) : (Op.equalIn (N + 2) 38 (.agg (ropA o)) (.agg (ropA o))).run Try.prog w = .ok true w := by
  have ht : Try.prog.underlying 38 = some (.struct (Try.prog.fieldsOf 38)) := by kernel_rfl
  have hp : Try.prog.stoodInHeld 38 = false := by kernel_rfl
  have hf := fields_rop
  have h0 : ∀ (n : Int) w, (Op.equalIn (N + 1) 3 (.int .i64 n) (.int .i64 n)).run Try.prog w = .ok true w := fun n w => by
    have h3 := run_equalIn_int (P := Try.prog) (w := w) N 3 .i64 .i64 n n Try.underlying3
    rwa [beq_self_eq_true] at h3
  have h1 : ∀ (d : ByteArray) w, (Op.equalIn (N + 1) 9 (.string d) (.string d)).run Try.prog w = .ok true w := fun d w => by
    rw [run_equalIn_string w N 9 d d Try.underlying9, beq_self_eq_true]
  rw [run_equalIn_struct (P := Try.prog) w (N + 1) _ _ _ ht hp]
  generalize (Try.prog.fieldsOf 38).toList = fs at hf
  unfold fieldsRop at hf
  obtain ⟨f0, fs, rfl, g0, hf⟩ := List.map_eq_cons_iff.1 hf
  obtain ⟨f1, fs, rfl, g1, hf⟩ := List.map_eq_cons_iff.1 hf
  obtain ⟨f2, fs, rfl, g2, hf⟩ := List.map_eq_cons_iff.1 hf
  obtain ⟨f3, fs, rfl, g3, hf⟩ := List.map_eq_cons_iff.1 hf
  obtain rfl := List.map_eq_nil_iff.1 hf
  simp only [Prod.mk.injEq, bne_iff_ne] at g0 g1 g2 g3
  obtain ⟨a0, a1, a2⟩ := g0
  obtain ⟨b0, b1, b2⟩ := g1
  obtain ⟨c0, c1, c2⟩ := g2
  obtain ⟨d0, d1, d2⟩ := g3
  have p0 := fun w => (run_part_rop o w).1
  have p1 := fun w => (run_part_rop o w).2.1
  have p2 := fun w => (run_part_rop o w).2.2.1
  have p3 := fun w => (run_part_rop o w).2.2.2
  simp only [Op.eqFields, a0, a1, a2, b0, b1, b2, c0, c1, c2, d0, d1, d2, ne_eq, not_false_eq_true, if_true, Sem.run_bind, p0, p1, p2, p3, Result.andThen_ok, h0, h1, Bool.not_true, Bool.false_eq_true, if_false, Sem.run_pure]
theorem run_neq_rop (o : Deed) (w : World) : (binOp .neq 38 (.agg #[.int .i64 o.k, .int .i64 o.f, .int .i64 o.s, .string o.d]) (.agg #[.int .i64 o.k, .int .i64 o.f, .int .i64 o.s, .string o.d])).run Try.prog w = .ok (.bool false) w := by
  rw [run_neq_struct]
  have := run_eqIn_rop 9998 o w
  unfold ropA at this
  rw [this]
  rfl
end Go.Proofs.Ytiehpaffbaafcaa
