/-
  For the walk of ManifestCuts: a slice literal of none in a region that draws; Check where there is no such chunk; a row of sums without its first one. Conditions: each its own, said there.
-/
import Derived.Test.YtgdckpldbofgfaaDoorMg19
import Derived.Test.YtgdckpldbofgfaaDoorMg20
import Derived.Test.YtgdckpldbofgfaaDoorMg17
set_option maxRecDepth 100000
namespace Go.Proofs.YtgdckpldbofgfaaDoor
open Go.ChangeShapes Go.WideShapes Go.ChangeAt Go.RowKit Sh Pn Mf

theorem step_buildNone {P : Program} {w : World} {ops : Array Oper} {o : Oper} {a : Act} {K : Act → World → Prop} {Q : Exit → Act → World → Prop} {E : Prop} (hgd : o.guard = none) (t e : TypeId) (ho : o.op = .buildSlice t 0 #[]) (ie : TypeInfo)
    (hu : P.underlying t = some (.slice e)) (hie : P.info? e = some ie) (h : K (a.put o.dst (.slice (some ⟨w.heap.size, 0, none⟩) 0 0)) (w.alloc (.cells #[] e))) :
    if Region.wanted o (yielded ops a.tmps) = true then Oper.wp P o a w K Q else E := by
  have hw : Region.wanted o (yielded ops a.tmps) = true := by simp [Region.wanted, hgd]
  rw [if_pos hw]
  unfold Oper.wp execOp
  have e : ((#[] : Array (Nat × Operand)).map fun (i, x) => (i, a.eval x)) = #[] := by simp
  simp only [ho, Sem.run_bind, e, run_buildNone w t _ ie hu hie, Result.andThen_ok]
  exact h
set_option maxRecDepth 100000 in
set_option maxHeartbeats 1600000 in
theorem mf_check_none (w : World) (m : Man) (A : Option Addr) (k : Nat) (a : Int) (d : ByteArray) (h : lengthM m a = 0) :
    Calls Tryd.prog 16 #[.agg (manA m A k), .int .i64 a, .string d] w fun e w' => e = .returned (.int .i64 3) ∧ Below w.heap.size w w' := by
  have HN := Lib.hid (fun W => mf_length W m A k a)
  rw [h] at HN
  have HB := Lib.hid ((Below.refl w.heap.size w).alloc (Nat.le_refl _) (.cells (manA m A k) 26))
  have HA := Lib.hid (at_new w 26 m A k)
  have HI := Lib.hid (manI m A k)
  have t1 : (((0 : Nat) : Int) == 0) = true := rfl
  clear h
  go_enter Tryd.func16, Tryd.ntmps16
  go_wp2_with (with_reducible refine wpList_load_row rfl 26 _ rfl _ rfl 26 _ (0, 0) _ HA.out.cells Tryd.underlying26 rfl HI.out ?_)
  refine (HN.out _).mono ?_
  rintro e w1 ⟨rfl, b1⟩
  have HB1 := Lib.hid (HB.out.trans (b1.mono HB.out.size))
  clear b1
  go_wp2_with (fail)
  exact bodyPost_ret (results_tmp rfl _ _ _) rfl ⟨rfl, HB1.out⟩
theorem elem_digs : Tryd.prog.elem 22 = 24 := by kernel_rfl
theorem under_digs : Tryd.prog.underlying 22 = some (.slice (Tryd.prog.elem 22)) := by kernel_rfl
theorem size_digs (W : World) : (sizeOf (Tryd.prog.elem 22)).run Tryd.prog W = .ok 32 W := by
  obtain ⟨i0, hi, _, hz1, _⟩ := info_parts infoD
  rw [elem_digs]
  simp [sizeOf, typeInfo, hi, hz1]
theorem cut_digs (A : Option Addr) (n c : Nat) (h1 : 1 ≤ n) : ∃ B : Option Addr, ∀ W, (Instr.slice 22 (.slice A n c) (some (.int .i64 1)) none none).run Tryd.prog W = .ok (.slice B (n - 1) (c - 1)) W := by
  refine ⟨if c = 1 then A else A.map (·.add (1 * 32)), fun W => ?_⟩
  rw [run_slice_l (P := Tryd.prog) (w := W) 22 _ n c under_digs .i64 1 (by omega) (by omega), size_digs]
  simp [Result.andThen, sliced]
namespace Mf
theorem cut_one (x : Int) (n : Nat) (hn : 0 < n) (hn' : n ≤ 1000) : ∃ V j : Nat, (1 ≤ V ∧ V ≤ n) ∧ (IntKind.u64.wrap x).tmod (n : Int) = (j : Int) ∧ wrap64 (j : Int) = (j : Int) ∧ wrap64 (1 + (j : Int)) = (V : Int) ∧ wrap64 ((V : Int) + 1) = (V : Int) + 1 := by
  obtain ⟨j, hj, h⟩ := Sp.cut64 x n hn
  refine ⟨j + 1, j, ⟨by omega, by omega⟩, h, IntWalk.wrap64_in _ (by clear h; omega), ?_, IntWalk.wrap64_in _ (by clear h; omega)⟩
  rw [show (1 : Int) + (j : Int) = ((j + 1 : Nat) : Int) by clear h; omega]
  exact IntWalk.wrap64_in _ (by clear h; omega)
theorem count_other {m : Man} {n : Nat} (hc : countM m = n) (hn : 0 < n) (L : List (Nat → UInt8)) (hl : L.length ≠ n) : countM { m with sums := L } = 0 := by
  have h1 := countM_need m
  have h2 := countM_need { m with sums := L }
  have h3 : needM { m with sums := L } = needM m := rfl
  rw [h2, h3]
  by_cases he : needM m = m.sums.length
  · rw [if_pos he, hc] at h1
    rw [if_neg (show ¬ needM m = L.length by omega)]
  · rw [if_neg he] at h1
    omega
theorem count_sums {m : Man} {n : Nat} (hc : countM m = n) (hn : 0 < n) : m.sums.length = n := by
  have := (countM_good (m := m) (by omega)).2.2
  omega
end Mf
end Go.Proofs.YtgdckpldbofgfaaDoor
