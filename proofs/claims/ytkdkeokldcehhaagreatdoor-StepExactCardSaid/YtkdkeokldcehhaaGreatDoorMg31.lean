/-
  Package conf: Bytes, Parse. No conditions.
  Two shapes that are the same: == and !=, of both types. No conditions.
-/
import Derived.Test.YtkdkeokldcehhaaGreatDoorMg4
import Derived.Test.YtkdkeokldcehhaaGreatDoorMg30
import Derived.Test.YtkdkeokldcehhaaGreatDoorMg3
import Derived.Great.Walk
import Derived.Laws.StructEq
set_option maxRecDepth 100000
namespace Go.Proofs.YtkdkeokldcehhaaGreatDoor
open Go.ChangeShapes Go.WideShapes Go.ChangeAt Go.RowKit Pn Cf

theorem cf_calls {P : Program} {f : FuncId} {args : Array Value} {w : World} {Q : Ending → World → Prop} (R : World → Prop) (h0 : R w) (h : ∀ wr, R wr → Calls P f args wr Q) : Calls P f args w Q := h w h0
theorem sixInts (a b c d e f : Int) : Tryz.prog.builtSlice 3 6 [(0, .int .i64 a), (1, .int .i64 b), (2, .int .i64 c), (3, .int .i64 d), (4, .int .i64 e), (5, .int .i64 f)] = some #[.int .i64 a, .int .i64 b, .int .i64 c, .int .i64 d, .int .i64 e, .int .i64 f] := by kernel_rfl
/-- What Parse answers. -/
def parseV (t : ByteArray) : Value := if okT lim t = true then .tuple #[cfV (cfgT lim t), .int .i64 0] else .tuple #[cfV zeroC, .int .i64 5]
end Go.Proofs.YtkdkeokldcehhaaGreatDoor
namespace Go.Proofs.YtkdkeokldcehhaaGreatDoor
open Go Go.ChangeShapes Go.WideShapes Go.ChangeAt Go.RowKit Cf

def fieldsCf : List (Bool × TypeId × Nat) := [(true, 3, 0), (true, 3, 1), (true, 3, 2), (true, 3, 3), (true, 3, 4), (true, 3, 5)]
def fieldsSh : List (Bool × TypeId × Nat) := [(true, 23, 0)]
set_option maxRecDepth 100000 in
theorem fields_cf : (Tryz.prog.fieldsOf 23).toList.map (fun f => (f.name != "_", f.type, f.offset)) = fieldsCf := by kernel_rfl
set_option maxRecDepth 100000 in
theorem fields_sh : (Tryz.prog.fieldsOf 61).toList.map (fun f => (f.name != "_", f.type, f.offset)) = fieldsSh := by kernel_rfl
theorem run_part_cf (x : Cfg) (w : World) : (part 3 (cfA x) 0).run Tryz.prog w = .ok (.int .i64 x.v) w ∧ (part 3 (cfA x) 1).run Tryz.prog w = .ok (.int .i64 x.d) w ∧ (part 3 (cfA x) 2).run Tryz.prog w = .ok (.int .i64 x.h) w ∧
    (part 3 (cfA x) 3).run Tryz.prog w = .ok (.int .i64 x.b) w ∧ (part 3 (cfA x) 4).run Tryz.prog w = .ok (.int .i64 x.n) w ∧ (part 3 (cfA x) 5).run Tryz.prog w = .ok (.int .i64 x.c) w := by
  refine ⟨?_, ?_, ?_, ?_, ?_, ?_⟩ <;> simp [part, go_sem, cfA]
theorem run_part_sh (x : Cfg) (w : World) : (part 23 (cfA x) 0).run Tryz.prog w = .ok (.agg (cfA x)) w := by
  simp [part, go_sem, cfA]
set_option maxRecDepth 100000 in
theorem run_eqIn_cf (N : Nat) (x : Cfg) (w : World) : (Op.equalIn (N + 2) 23 (.agg (cfA x)) (.agg (cfA x))).run Tryz.prog w = .ok true w := by
  have ht : Tryz.prog.underlying 23 = some (.struct (Tryz.prog.fieldsOf 23)) := by kernel_rfl
  have hp : Tryz.prog.stoodInHeld 23 = false := by kernel_rfl
  have hf := fields_cf
  have h0 : ∀ (n : Int) w, (Op.equalIn (N + 1) 3 (.int .i64 n) (.int .i64 n)).run Tryz.prog w = .ok true w := fun n w => by
    have h3 := run_equalIn_int (P := Tryz.prog) (w := w) N 3 .i64 .i64 n n Tryz.underlying3
    rwa [beq_self_eq_true] at h3
  rw [run_equalIn_struct (P := Tryz.prog) w (N + 1) _ _ _ ht hp]
  generalize (Tryz.prog.fieldsOf 23).toList = fs at hf
  unfold fieldsCf at hf
  obtain ⟨f0, fs, rfl, g0, hf⟩ := List.map_eq_cons_iff.1 hf
  obtain ⟨f1, fs, rfl, g1, hf⟩ := List.map_eq_cons_iff.1 hf
  obtain ⟨f2, fs, rfl, g2, hf⟩ := List.map_eq_cons_iff.1 hf
  obtain ⟨f3, fs, rfl, g3, hf⟩ := List.map_eq_cons_iff.1 hf
  obtain ⟨f4, fs, rfl, g4, hf⟩ := List.map_eq_cons_iff.1 hf
  obtain ⟨f5, fs, rfl, g5, hf⟩ := List.map_eq_cons_iff.1 hf
  obtain rfl := List.map_eq_nil_iff.1 hf
  simp only [Prod.mk.injEq, bne_iff_ne] at g0 g1 g2 g3 g4 g5
  obtain ⟨a0, a1, a2⟩ := g0
  obtain ⟨b0, b1, b2⟩ := g1
  obtain ⟨c0, c1, c2⟩ := g2
  obtain ⟨d0, d1, d2⟩ := g3
  obtain ⟨e0, e1, e2⟩ := g4
  obtain ⟨f0', f1', f2'⟩ := g5
  obtain ⟨p0, p1, p2, p3, p4, p5⟩ := And.intro (fun w => (run_part_cf x w).1) (And.intro (fun w => (run_part_cf x w).2.1) (And.intro (fun w => (run_part_cf x w).2.2.1) (And.intro (fun w => (run_part_cf x w).2.2.2.1) (And.intro (fun w => (run_part_cf x w).2.2.2.2.1) (fun w => (run_part_cf x w).2.2.2.2.2)))))
  simp only [Op.eqFields, a0, a1, a2, b0, b1, b2, c0, c1, c2, d0, d1, d2, e0, e1, e2, f0', f1', f2', ne_eq, not_false_eq_true, if_true, Sem.run_bind, p0, p1, p2, p3, p4, p5, Result.andThen_ok, h0, Bool.not_true, Bool.false_eq_true, if_false, Sem.run_pure]
set_option maxRecDepth 100000 in
theorem run_eqIn_sh (x : Cfg) (w : World) : (Op.equalIn 10000 61 (.agg (cfA x)) (.agg (cfA x))).run Tryz.prog w = .ok true w := by
  have ht : Tryz.prog.underlying 61 = some (.struct (Tryz.prog.fieldsOf 61)) := by kernel_rfl
  have hp : Tryz.prog.stoodInHeld 61 = false := by kernel_rfl
  have hf := fields_sh
  have h0 := run_eqIn_cf 9997 x
  rw [run_equalIn_struct (P := Tryz.prog) w 9999 _ _ _ ht hp]
  generalize (Tryz.prog.fieldsOf 61).toList = fs at hf
  unfold fieldsSh at hf
  obtain ⟨f0, fs, rfl, g0, hf⟩ := List.map_eq_cons_iff.1 hf
  obtain rfl := List.map_eq_nil_iff.1 hf
  simp only [Prod.mk.injEq, bne_iff_ne] at g0
  obtain ⟨a0, a1, a2⟩ := g0
  simp only [Op.eqFields, a0, a1, a2, ne_eq, not_false_eq_true, if_true, Sem.run_bind, run_part_sh, Result.andThen_ok, h0, Bool.not_true, Bool.false_eq_true, if_false, Sem.run_pure]
theorem run_eql_cf (x : Cfg) (w : World) : (binOp .eql 23 (.agg (cfA x)) (.agg (cfA x))).run Tryz.prog w = .ok (.bool true) w := by
  rw [run_eql_struct, run_eqIn_cf 9998]
  rfl
theorem run_neq_cf (x : Cfg) (w : World) : (binOp .neq 23 (.agg (cfA x)) (.agg (cfA x))).run Tryz.prog w = .ok (.bool false) w := by
  rw [run_neq_struct, run_eqIn_cf 9998]
  rfl
theorem run_neq_sh (x : Cfg) (w : World) : (binOp .neq 61 (.agg (cfA x)) (.agg (cfA x))).run Tryz.prog w = .ok (.bool false) w := by
  rw [run_neq_struct, run_eqIn_sh]
  rfl
end Go.Proofs.YtkdkeokldcehhaaGreatDoor
