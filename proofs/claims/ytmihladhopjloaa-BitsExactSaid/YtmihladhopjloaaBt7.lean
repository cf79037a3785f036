/-
  Package bits: what Same answers: whether length and all numbers are the same. Conditions: the sets stand in their blocks, of at most 1024 numbers.
-/
import Derived.Test.YtmihladhopjloaaBt6
import Derived.ChangeKeysEq
import Derived.Laws.StructEq
namespace Go.Proofs.Ytmihladhopjloaa
open Go.ChangeShapes Go.WideShapes Go.ChangeAt Go.RowKit Bt

namespace Bt
/-- Whether two sets are the same. -/
def sameB (n : Nat) (u : Nat → Bool) (m : Nat) (v : Nat → Bool) : Bool := (n == m) && (List.range 128).all fun j => by8 u j == by8 v j
theorem sameB_self (n : Nat) (u : Nat → Bool) : sameB n u n u = true := by
  unfold sameB
  rw [beq_self_eq_true, Bool.true_and, List.all_eq_true]
  exact fun j _ => beq_self_eq_true _
theorem sameB_eq {n m : Nat} {u v : Nat → Bool} (hn : n ≤ 1024) (hu : Low n u) (hv : Low m v) (h : sameB n u m v = true) : n = m ∧ u = v := by
  unfold sameB at h
  rw [Bool.and_eq_true, List.all_eq_true, beq_iff_eq] at h
  obtain ⟨rfl, h⟩ := h
  refine ⟨rfl, ?_⟩
  funext k
  by_cases hk : k < n
  · have := by8_inj (beq_iff_eq.1 (h (k / 8) (List.mem_range.2 (by omega)))) (k % 8) (by omega)
    rwa [show 8 * (k / 8) + k % 8 = k by omega] at this
  · rw [hu.off (by omega), hv.off (by omega)]
theorem sameB_comm (n : Nat) (u : Nat → Bool) (m : Nat) (v : Nat → Bool) : sameB n u m v = sameB m v n u := by
  unfold sameB
  rw [Bool.beq_comm]
  congr 2
  funext j
  exact Bool.beq_comm
theorem sameB_not {n m : Nat} {u v : Nat → Bool} (h : n ≠ m) : sameB n u m v = false := by
  unfold sameB
  rw [beq_eq_false_iff_ne.2 h, Bool.false_and]
theorem info_u8B : (Try.prog.info? 5).map (fun i => (i.zero, i.size, i.bytes)) = some (some (.int .u8 0), 1, 1) := by kernel_rfl
def fieldsB : List (Bool × TypeId × Nat) := [(true, 3, 0), (true, 48, 1)]
set_option maxRecDepth 100000 in
theorem fields_set : (Try.prog.fieldsOf 50).toList.map (fun f => (f.name != "_", f.type, f.offset)) = fieldsB := by kernel_rfl
theorem run_part_n (n : Nat) (u : Nat → Bool) (w : World) : (part 3 (vals 129 (scell n u)) 0).run Try.prog w = .ok (.int .i64 (n : Int)) w := by
  have hg : (vals 129 (scell n u))[0]? = some (.int .i64 (n : Int)) := vals_get _ _ 0 (by omega)
  simp [part, go_sem, hg]
def rowB (u : Nat → Bool) : Array Value := vals 128 fun j => .int .u8 (by8 u j : Int)
theorem run_part_bytes (n : Nat) (u : Nat → Bool) (w : World) : (part 48 (vals 129 (scell n u)) 1).run Try.prog w = .ok (.agg (rowB u)) w := by
  have h1 : ∀ w, (isAgg 48).run Try.prog w = .ok true w := fun _ => by kernel_rfl
  have h2 : ∀ w, (Go.sizeOf 48).run Try.prog w = .ok 128 w := fun _ => by kernel_rfl
  have h3 : (vals 129 (scell n u)).extract 1 (1 + 128) = rowB u := by
    apply Array.ext (by simp [vals, rowB])
    intro j e1 e2
    have hj : j < 128 := by simpa [rowB, vals] using e2
    rw [Array.getElem_extract]
    have g1 := vals_get 129 (scell n u) (1 + j) (by omega)
    have g2 := vals_get 128 (fun j => Value.int .u8 (by8 u j : Int)) j hj
    rw [Array.getElem?_eq_getElem (by simpa [vals] using (show 1 + j < 129 by omega))] at g1
    rw [Array.getElem?_eq_getElem (by simpa [vals] using hj)] at g2
    refine (Option.some.inj g1).trans (Eq.trans ?_ (Option.some.inj g2).symm)
    unfold scell
    rw [if_neg (by omega), show 1 + j - 1 = j by omega]
  unfold part
  simp only [Sem.run_bind, h1, h2, Result.andThen_ok, if_true, Sem.run_pure, h3]
theorem run_part_byte (u : Nat → Bool) (i : Nat) (h : i < 128) (w : World) : (part 5 (rowB u) (i * 1)).run Try.prog w = .ok (.int .u8 (by8 u i : Int)) w := by
  have hg : (rowB u)[i]? = some (.int .u8 (by8 u i : Int)) := vals_get _ _ i h
  simp [part, go_sem, hg]
theorem nat_beq (a b : Nat) : ((a : Int) == (b : Int)) = (a == b) := by
  rw [Bool.eq_iff_iff, beq_iff_eq, beq_iff_eq]
  omega
theorem run_itemsB (u v : Nat → Bool) (w : World) : ∀ is : List Nat, (∀ i ∈ is, i < 128) → (Op.eqItems 9998 5 1 (rowB u) (rowB v) is).run Try.prog w = .ok (is.all fun i => by8 u i == by8 v i) w := by
  intro is
  induction is with
  | nil => intro _; rfl
  | cons i is ih =>
    intro h
    have hi := h i (by simp)
    have h2 := ih fun j hj => h j (by simp [hj])
    have h3 := run_equalIn_int (P := Try.prog) (w := w) 9997 5 .u8 .u8 (by8 u i : Int) (by8 v i : Int) Try.underlying5
    rw [nat_beq] at h3
    simp only [Op.eqItems, Sem.run_bind, run_part_byte u i hi, run_part_byte v i hi, Result.andThen_ok, h3]
    cases hb : (by8 u i == by8 v i)
    · simp [hb]
    · simp [hb, h2]
set_option maxRecDepth 100000 in
theorem run_eql_set (n : Nat) (u : Nat → Bool) (m : Nat) (v : Nat → Bool) (w : World) : (binOp .eql 50 (.agg (vals 129 (scell n u))) (.agg (vals 129 (scell m v)))).run Try.prog w = .ok (.bool (sameB n u m v)) w := by
  obtain ⟨i0, hi, _⟩ := info_parts info_u8B
  have hc : Try.prog.cellsOf 5 = 1 := by kernel_rfl
  have ht : Try.prog.underlying 50 = some (.struct (Try.prog.fieldsOf 50)) := by kernel_rfl
  have hp : Try.prog.stoodInHeld 50 = false := by kernel_rfl
  have hf := fields_set
  have h1 : ∀ w, (Op.equalIn 9999 48 (.agg (rowB u)) (.agg (rowB v))).run Try.prog w = .ok ((List.range 128).all fun i => by8 u i == by8 v i) w := fun w => by
    rw [run_equalIn_array (P := Try.prog) (w := w) 9998 (rowB u) (rowB v) Try.underlying48 hi, hc, run_itemsB u v w (List.range 128) (fun i hi => List.mem_range.1 hi)]
  have h0 : ∀ w, (Op.equalIn 9999 3 (.int .i64 (n : Int)) (.int .i64 (m : Int))).run Try.prog w = .ok (n == m) w := fun w => by
    have h3 := run_equalIn_int (P := Try.prog) (w := w) 9998 3 .i64 .i64 (n : Int) (m : Int) Try.underlying3
    rwa [nat_beq] at h3
  rw [run_eql_struct, run_equalIn_struct (P := Try.prog) w 9999 _ _ _ ht hp]
  generalize (Try.prog.fieldsOf 50).toList = fs at hf
  unfold fieldsB at hf
  obtain ⟨f0, fs, rfl, g0, hf⟩ := List.map_eq_cons_iff.1 hf
  obtain ⟨f1, fs, rfl, g1, hf⟩ := List.map_eq_cons_iff.1 hf
  obtain rfl := List.map_eq_nil_iff.1 hf
  simp only [Prod.mk.injEq, bne_iff_ne] at g0 g1
  obtain ⟨a0, a1, a2⟩ := g0
  obtain ⟨b0, b1, b2⟩ := g1
  unfold sameB
  simp only [Op.eqFields, a0, a1, a2, b0, b1, b2, ne_eq, not_false_eq_true, if_true, Sem.run_bind, run_part_n, Result.andThen_ok, h0]
  cases hb : (n == m)
  · simp
  · cases hall : ((List.range 128).all fun i => by8 u i == by8 v i) <;> simp [run_part_bytes, h1, hall]
theorem exec_eql_set (a : Act) (o : Oper) (x y : Operand) (z : TypeId) (ho : o.op = .binOp .eql 50 x y z) (n : Nat) (u : Nat → Bool) (m : Nat) (v : Nat → Bool) (hx : a.eval x = .agg (vals 129 (scell n u))) (hy : a.eval y = .agg (vals 129 (scell m v))) (W : World) :
    (execOp a.eval o).run Try.prog W = .ok (.value (.bool (sameB n u m v))) W := by
  have hn := run_eql_set n u m v W
  have hm : Try.prog.eqGuardType Try.prog.depth 50 = false := by kernel_rfl
  unfold execOp
  simp only [ho, hx, hy, Sem.run_bind, run_eqGuard_agg (P := Try.prog) (w := W) .eql _ x y _ _ hm, hn, Result.andThen_ok, Sem.run_pure]
theorem sobj_range {w : World} {b n : Nat} {u : Nat → Bool} (h : w.heap[b]? = some (sobj n u)) : w.rangeAt b 0 (vals 129 (scell n u)).toList := fun j v hj => by
  rw [Nat.zero_add, cell_of_row w b j _ _ _ h, ← hj]
  simp
/-- A load of many cells within a head that turns nothing. -/
theorem wpStill_load_midB {P : Program} {ops : Array Oper} {w : World} {Q : Act → Prop} {a : Act} {op : Oper} {rest : List Oper} (hw : Region.wanted op (yielded ops a.tmps) = true) (ty : TypeId) (x : Operand) (ho : op.op = .load ty x)
    (b o : Nat) (hx : a.eval x = .pointer (some ⟨b, o, none⟩)) (cs : List Value) (d : TypeDesc) (hc : w.rangeAt b o cs) (hu : P.underlying ty = some d) (hd : d.isRow = true) (hi : (P.info? ty).map (·.size) = some cs.length)
    (h : wpStill P ops w Q rest (a.put op.dst (.agg cs.toArray))) : wpStill P ops w Q (op :: rest) a := by
  refine wpStill_step (fun K hK => ?_)
  rw [if_pos hw]
  have hr : (execOp a.eval op).run P w = .ok (.value (.agg cs.toArray)) w := by
    unfold execOp
    simp only [ho, hx, Instr.loadAt, Instr.sureAddr, Sem.run_bind, Sem.run_pure, Result.andThen_ok, run_loadVar_mid w b o ty cs d hc hu hd hi]
  unfold Oper.still
  rw [hr]
  exact ⟨rfl, hK _ h⟩
/-- The comparison of two sets, at a plain region's list. -/
theorem wpList_eql_set {ops : Array Oper} {rest : List Oper} {o : Oper} {act : Act} {w : World} {Q : Exit → Act → World → Prop} (hg : o.guard = none) (x y : Operand) (z : TypeId) (ho : o.op = .binOp .eql 50 x y z) (n : Nat) (u : Nat → Bool) (m : Nat) (v : Nat → Bool)
    (hx : act.eval x = .agg (vals 129 (scell n u))) (hy : act.eval y = .agg (vals 129 (scell m v))) (h : wpList Try.prog ops Q rest (act.put o.dst (.bool (sameB n u m v))) w) : wpList Try.prog ops Q (o :: rest) act w :=
  wpList_plain hg fun K hK => by
    have he := exec_eql_set act o x y z ho n u m v hx hy w
    unfold Oper.wp Oper.upon
    rw [he]
    exact hK _ _ h
end Bt
theorem bits_same_nil (w : World) : Calls Try.prog 21 #[.pointer none, .pointer none] w fun e w' => e = .returned (.bool true) ∧ w = w' := by
  go_enter Try.func21, Try.ntmps21
  go_wp2
  refine bodyPost_ret (results_tmp rfl _ _ _) rfl ?_
  exact ⟨rfl, rfl⟩
theorem bits_same_none (w : World) (b : Nat) : Calls Try.prog 21 #[.pointer (some ⟨b, 0, none⟩), .pointer none] w fun e w' => e = .returned (.bool false) ∧ w = w' := by
  go_enter Try.func21, Try.ntmps21
  go_wp2
  refine bodyPost_ret (results_tmp rfl _ _ _) rfl ?_
  exact ⟨rfl, rfl⟩
set_option maxRecDepth 100000 in
theorem bits_same (w : World) (a b n m : Nat) (u v : Nat → Bool) (ha : w.heap[a]? = some (sobj n u)) (hb : w.heap[b]? = some (sobj m v)) :
    Calls Try.prog 21 #[.pointer (some ⟨a, 0, none⟩), .pointer (some ⟨b, 0, none⟩)] w fun e w' => e = .returned (.bool (sameB n u m v)) ∧ ∃ k, w' = w.drewN k := by
  have HA := Lib.hid (show w.drew.rangeAt a 0 (vals 129 (scell n u)).toList from sobj_range (w := w.drew) ha)
  have HB := Lib.hid (show w.drew.rangeAt b 0 (vals 129 (scell m v)).toList from sobj_range (w := w.drew) hb)
  have HI := Lib.hid (show ∀ f : Nat → Value, (Try.prog.info? 50).map (·.size) = some (vals 129 f).toList.length from fun f => by
    rw [Array.length_toList, vals_size]
    kernel_rfl)
  clear ha hb
  go_enter Try.func21, Try.ntmps21
  go_wp2_with (fail)
  refine wp_region_still_tail 6 (by kernel_rfl) (by kernel_rfl) ?_
  simp only [List.take_succ_cons, List.take_zero, List.drop_succ_cons, List.drop_zero]
  still_step
  still_step
  refine wpStill_load_midB (by rfl) 50 (.tmp 15) rfl a 0 rfl (vals 129 (scell n u)).toList _ HA.out Try.underlying50 rfl (HI.out _) ?_
  still_step
  still_step
  refine wpStill_load_midB (by rfl) 50 (.tmp 18) rfl b 0 rfl (vals 129 (scell m v)).toList _ HB.out Try.underlying50 rfl (HI.out _) ?_
  refine wpStill_nil ?_
  change wpList _ _ _ _ _ w.drew
  go_wp2_with (refine wpList_eql_set rfl (.tmp 16) (.tmp 19) _ rfl n u m v rfl rfl ?_)
  refine bodyPost_ret (results_tmp rfl _ _ _) rfl ?_
  exact ⟨rfl, 1, rfl⟩
end Go.Proofs.Ytmihladhopjloaa
