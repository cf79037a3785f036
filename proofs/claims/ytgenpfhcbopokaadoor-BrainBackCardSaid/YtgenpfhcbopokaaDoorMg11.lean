/-
  Package conf: within, bounded, side, times. No conditions.
-/
import Derived.Test.YtgenpfhcbopokaaDoorMg2
import Derived.Test.YtgenpfhcbopokaaDoorMg1
set_option maxRecDepth 100000
namespace Go.Proofs.YtgenpfhcbopokaaDoor
open Go.ChangeShapes Go.WideShapes Go.ChangeAt Go.RowKit Cf

namespace Cf
/-- A shape's block, of either type. -/
def cfO (t : TypeId) (x : Cfg) : Obj := .cells (cfA x) t (0, 0)
section
variable {w : World} {b : Nat} {t : TypeId} {x : Cfg} (h : w.heap[b]? = some (cfO t x))
include h
theorem cell0 : w.cell? ⟨b, 0, none⟩ = some (.int .i64 x.v) := by rw [cell_of_row w b 0 _ _ _ h]; rfl
theorem cell1 : w.cell? ⟨b, 1, none⟩ = some (.int .i64 x.d) := by rw [cell_of_row w b 1 _ _ _ h]; rfl
theorem cell2 : w.cell? ⟨b, 2, none⟩ = some (.int .i64 x.h) := by rw [cell_of_row w b 2 _ _ _ h]; rfl
theorem cell3 : w.cell? ⟨b, 3, none⟩ = some (.int .i64 x.b) := by rw [cell_of_row w b 3 _ _ _ h]; rfl
theorem cell4 : w.cell? ⟨b, 4, none⟩ = some (.int .i64 x.n) := by rw [cell_of_row w b 4 _ _ _ h]; rfl
theorem cell5 : w.cell? ⟨b, 5, none⟩ = some (.int .i64 x.c) := by rw [cell_of_row w b 5 _ _ _ h]; rfl
end
theorem seven (b1 b2 b3 b4 b5 : Bool) : b1 = false ∨ (b1 = true ∧ b2 = false) ∨ (b1 = true ∧ b2 = true ∧ b3 = false) ∨ (b1 = true ∧ b2 = true ∧ b3 = true ∧ b4 = false) ∨ (b1 = true ∧ b2 = true ∧ b3 = true ∧ b4 = true ∧ b5 = false) ∨ (b1 = true ∧ b2 = true ∧ b3 = true ∧ b4 = true ∧ b5 = true) := by
  cases b1 <;> cases b2 <;> cases b3 <;> cases b4 <;> cases b5 <;> simp
end Cf
set_option maxRecDepth 100000 in
set_option maxHeartbeats 1600000 in
theorem conf_within (w : World) (n l m : Int) : Calls Tryd.prog 39 #[.int .i64 n, .int .i64 l, .int .i64 m] w fun e w' => e = .returned (.bool (withinZ n l m)) ∧ w = w' := by
  unfold withinZ
  by_cases h1 : l ≤ n
  · have t1 : decide (l ≤ n) = true := decide_eq_true h1
    cases h2 : decide (n ≤ m)
    all_goals
      go_enter Tryd.func39, Tryd.ntmps39
      go_wp2_with (fail)
      refine bodyPost_ret (results_tmp rfl _ _ _) rfl ?_
      exact ⟨by rw [t1]; rfl, rfl⟩
  · have t1 : decide (l ≤ n) = false := decide_eq_false h1
    go_enter Tryd.func39, Tryd.ntmps39
    go_wp2_with (fail)
    refine bodyPost_ret (results_tmp rfl _ _ _) rfl ?_
    exact ⟨rfl, rfl⟩
set_option maxRecDepth 100000 in
set_option maxHeartbeats 1600000 in
theorem conf_bounded (w : World) (x : Cfg) : Calls Tryd.prog 25 #[cfV x] w fun e w' => e = .returned (.bool (inZ x)) ∧ Below w.heap.size w w' := by
  have H1 := Lib.hid (fun W => conf_within W x.v 2 32)
  have H2 := Lib.hid (fun W => conf_within W x.d 1 16)
  have H3 := Lib.hid (fun W => conf_within W x.h 1 4)
  have H4 := Lib.hid (fun W => conf_within W x.b 1 3)
  have H5 := Lib.hid (fun W => conf_within W x.n 1 32)
  have H6 := Lib.hid (fun W => conf_within W x.c 1 32)
  have HB := Lib.hid ((Below.refl w.heap.size w).alloc (Nat.le_refl _) (cfO 23 x))
  unfold inZ
  unfold cfO at HB
  unfold cfV cfA at *
  generalize withinZ x.v 2 32 = b1 at H1 ⊢
  generalize withinZ x.d 1 16 = b2 at H2 ⊢
  generalize withinZ x.h 1 4 = b3 at H3 ⊢
  generalize withinZ x.b 1 3 = b4 at H4 ⊢
  generalize withinZ x.n 1 32 = b5 at H5 ⊢
  generalize withinZ x.c 1 32 = b6 at H6 ⊢
  rcases seven b1 b2 b3 b4 b5 with rfl | ⟨rfl, rfl⟩ | ⟨rfl, rfl, rfl⟩ | ⟨rfl, rfl, rfl, rfl⟩ | ⟨rfl, rfl, rfl, rfl, rfl⟩ | ⟨rfl, rfl, rfl, rfl, rfl⟩
  all_goals
    go_enter Tryd.func25, Tryd.ntmps25
    go_wp2_with (fail)
    try (refine (H1.out _).mono ?_; rintro e w1 ⟨rfl, rfl⟩; go_wp2_with (fail))
    try (refine (H2.out _).mono ?_; rintro e w1 ⟨rfl, rfl⟩; go_wp2_with (fail))
    try (refine (H3.out _).mono ?_; rintro e w1 ⟨rfl, rfl⟩; go_wp2_with (fail))
    try (refine (H4.out _).mono ?_; rintro e w1 ⟨rfl, rfl⟩; go_wp2_with (fail))
    try (refine (H5.out _).mono ?_; rintro e w1 ⟨rfl, rfl⟩; go_wp2_with (fail))
    try (refine (H6.out _).mono ?_; rintro e w1 ⟨rfl, rfl⟩; go_wp2_with (fail))
    exact bodyPost_ret (results_tmp rfl _ _ _) rfl ⟨rfl, HB.out⟩
/-- How many rows and columns: for each part, and for none. -/
theorem side_cases (x : Cfg) (p : Int) : (p = 0 ∧ rowsZ x p = x.v ∧ colsZ x p = x.d) ∨ (p = 1 ∧ rowsZ x p = x.c ∧ colsZ x p = x.d) ∨ ((p = 2 ∨ p = 7 ∨ p = 11) ∧ rowsZ x p = 1 ∧ colsZ x p = x.d) ∨ ((p = 3 ∨ p = 4 ∨ p = 5 ∨ p = 6) ∧ rowsZ x p = x.d ∧ colsZ x p = x.d) ∨ ((p = 8 ∨ p = 9) ∧ rowsZ x p = x.n ∧ colsZ x p = x.d) ∨ (p = 10 ∧ rowsZ x p = x.d ∧ colsZ x p = x.n) ∨
    ((p == 0) = false ∧ (p == 1) = false ∧ (p == 2) = false ∧ (p == 3) = false ∧ (p == 4) = false ∧ (p == 5) = false ∧ (p == 6) = false ∧ (p == 7) = false ∧ (p == 8) = false ∧ (p == 9) = false ∧ (p == 10) = false ∧ (p == 11) = false ∧ rowsZ x p = 0 ∧ colsZ x p = 0) := by
  by_cases h : 0 ≤ p ∧ p ≤ 11
  · rcases part_cases h.1 h.2 with rfl | rfl | rfl | rfl | rfl | rfl | rfl | rfl | rfl | rfl | rfl | rfl <;> simp [rowsZ, colsZ]
  · refine .inr (.inr (.inr (.inr (.inr (.inr ⟨?_, ?_, ?_, ?_, ?_, ?_, ?_, ?_, ?_, ?_, ?_, ?_, rows_out x (by omega), cols_out x (by omega)⟩)))))
    all_goals exact beq_eq_false_iff_ne.2 (by omega)
set_option maxRecDepth 100000 in
set_option maxHeartbeats 6400000 in
theorem conf_side (w : World) (x : Cfg) (p : Int) : Calls Tryd.prog 37 #[cfV x, .int .i64 p] w fun e w' => e = .returned (.tuple #[.int .i64 (rowsZ x p), .int .i64 (colsZ x p)]) ∧ Below w.heap.size w w' := by
  have HB := Lib.hid ((Below.refl w.heap.size w).alloc (Nat.le_refl _) (cfO 36 x))
  have HH := heap_alloc_new w (cfO 36 x)
  have e0 := cell0 HH
  have e1 := cell1 HH
  have e4 := cell4 HH
  have e5 := cell5 HH
  unfold cfO at HB e0 e1 e4 e5
  have hc := side_cases x p
  clear HH
  generalize rowsZ x p = R at hc ⊢
  generalize colsZ x p = C at hc ⊢
  unfold cfV cfA at *
  rcases hc with ⟨rfl, rfl, rfl⟩ | ⟨rfl, rfl, rfl⟩ | ⟨rfl | rfl | rfl, rfl, rfl⟩ | ⟨rfl | rfl | rfl | rfl, rfl, rfl⟩ | ⟨rfl | rfl, rfl, rfl⟩ | ⟨rfl, rfl, rfl⟩ | ⟨n0, n1, n2, n3, n4, n5, n6, n7, n8, n9, na, nb, rfl, rfl⟩
  case inr.inr.inr.inr.inr.inr =>
    go_enter Tryd.func37, Tryd.ntmps37
    go_wp2_with (fail)
    exact bodyPost_ret (results_tmp2 rfl _ _ _) rfl ⟨rfl, HB.out⟩
  all_goals
    go_enter Tryd.func37, Tryd.ntmps37
    go_wp2_with (fail)
    go_quiet (fail)
    have HQ := Lib.hid (below_drewN HB.out nq)
    go_wp2_with (fail)
    exact bodyPost_ret (results_tmp2 rfl _ _ _) rfl ⟨rfl, HQ.out⟩
set_option maxRecDepth 100000 in
set_option maxHeartbeats 1600000 in
theorem conf_times (w : World) (x : Cfg) (p : Int) : Calls Tryd.prog 35 #[cfV x, .int .i64 p] w fun e w' => e = .returned (.int .i64 (timesZ x p)) ∧ Below w.heap.size w w' := by
  have HB := Lib.hid ((Below.refl w.heap.size w).alloc (Nat.le_refl _) (cfO 36 x))
  have e3 := cell3 (heap_alloc_new w (cfO 36 x))
  unfold cfO at HB e3
  unfold cfV cfA timesZ at *
  by_cases h1 : 2 ≤ p
  · have t1 : decide (2 ≤ p) = true := decide_eq_true h1
    by_cases h2 : p < 11
    · have t2 : decide (p < 11) = true := decide_eq_true h2
      rw [if_pos ⟨h1, h2⟩]
      go_enter Tryd.func35, Tryd.ntmps35
      go_wp2_with (fail)
      exact bodyPost_ret (results_tmp rfl _ _ _) rfl ⟨rfl, HB.out⟩
    · have t2 : decide (p < 11) = false := decide_eq_false h2
      rw [if_neg (by omega)]
      go_enter Tryd.func35, Tryd.ntmps35
      go_wp2_with (fail)
      exact bodyPost_ret (results_tmp rfl _ _ _) rfl ⟨rfl, HB.out⟩
  · have t1 : decide (2 ≤ p) = false := decide_eq_false h1
    rw [if_neg (by omega)]
    go_enter Tryd.func35, Tryd.ntmps35
    go_wp2_with (fail)
    exact bodyPost_ret (results_tmp rfl _ _ _) rfl ⟨rfl, HB.out⟩
end Go.Proofs.YtgenpfhcbopokaaDoor
