/-
  A shape's bytes, and what six numbers of a text tell, with limits and without. No program here. No conditions.
  Package conf: within, bounded, side, times. No conditions.
  Package conf: span, total. Condition: each number alone can be.
  Package conf: Good, Size, Side, HeadDim, Of. No conditions.
  Package conf: Of. No conditions.
  Package conf: Range. No conditions.
  Parts of a string as the walk takes them: s[i:j], s[:j], s[i:]. No program's function here. Conditions: both ends lie within the string.
-/
import Derived.Test.YtkdkeokldcehhaaGreatDoorMg2
import Derived.Test.YtkdkeokldcehhaaGreatDoorMg3
import Derived.Test.YtkdkeokldcehhaaGreatDoorMg1
import Derived.IntWalk
import Derived.Deep.RegionHeld3
import Derived.Laws.ResultCell
import Derived.Deep.OwnRows
import Derived.OwnWalk
set_option maxRecDepth 100000
namespace Go.Proofs.YtkdkeokldcehhaaGreatDoor
open Go Go.RowKit Pn
namespace Cf

def nthZ (x : Cfg) (i : Nat) : Int := match i with | 0 => x.v | 1 => x.d | 2 => x.h | 3 => x.b | 4 => x.n | _ => x.c
def cfgB (x : Cfg) : ByteArray := ⟨(numsL (nthZ x) 6).toArray⟩
theorem cfgB_pen (x : Cfg) : penL [⟨(numsL (nthZ x) 6).toArray⟩] = numsL (nthZ x) 6 := by simp [penL]
theorem cfgB_size (x : Cfg) : (cfgB x).size = 24 := by
  show (numsL (nthZ x) 6).toArray.size = 24
  rw [List.size_toArray, numsL_length]
/-- What is left of a text behind i numbers, whether one was wrong, and the next number. -/
def rsT (m : Nat → Int) (t : ByteArray) : Nat → ByteArray
  | 0 => t
  | i + 1 => nmRest (rsT m t i) (m i)
def bsT (m : Nat → Int) (t : ByteArray) : Nat → Bool
  | 0 => false
  | i + 1 => nmBad (rsT m t i) (bsT m t i) (m i)
def vsT (m : Nat → Int) (t : ByteArray) (i : Nat) : Nat := nmOut (rsT m t i) (m i)
def cfgT (m : Nat → Int) (t : ByteArray) : Cfg := ⟨vsT m t 0, vsT m t 1, vsT m t 2, vsT m t 3, vsT m t 4, vsT m t 5⟩
def lim (i : Nat) : Int := match i with | 0 => 32 | 1 => 16 | 2 => 4 | 3 => 3 | 4 => 32 | _ => 32
def free (_ : Nat) : Int := 4294967295
theorem sane_T (m : Nat → Int) (t : ByteArray) : ∀ i, Sane (rsT m t i) (bsT m t i)
  | 0 => fun h => by cases h
  | i + 1 => nm_sane (sane_T m t i) (m i)
def okT (m : Nat → Int) (t : ByteArray) : Bool := goodZ (cfgT m t) && (!bsT m t 6 && decide ((rsT m t 6).size = 0))
theorem okT_iff {m : Nat → Int} {t : ByteArray} : okT m t = true ↔ Good (cfgT m t) ∧ bsT m t 6 = false ∧ (rsT m t 6).size = 0 := by
  unfold okT
  simp only [Bool.and_eq_true, Bool.not_eq_true', decide_eq_true_iff, good_iff]
theorem low_ok {r : ByteArray} {m : Int} (h : 1 ≤ nmOut r m) : nmOk r m = true := by
  cases ho : nmOk r m with
  | true => rfl
  | false => rw [nm_out_no ho] at h; omega
theorem free_ok {r : ByteArray} {m : Int} (h : nmOk r m = true) (i : Nat) : nmOk r (free i) = true := by
  unfold nmOk at h
  simp only [Bool.and_eq_true, decide_eq_true_iff] at h
  exact nm_ok h.1 (by have := le4_lt r; unfold free; omega)
/-- A step that both readers take alike. -/
theorem step_alike {m : Nat → Int} {t : ByteArray} {i : Nat} (hr : rsT m t i = rsT free t i) (hb : bsT m t i = bsT free t i) (h1 : nmOk (rsT free t i) (m i) = true) :
    vsT m t i = vsT free t i ∧ rsT m t (i + 1) = rsT free t (i + 1) ∧ bsT m t (i + 1) = bsT free t (i + 1) := by
  have h2 := free_ok h1 i
  have h3 : nmOk (rsT m t i) (m i) = true := by rw [hr]; exact h1
  refine ⟨?_, ?_, ?_⟩
  · unfold vsT
    rw [nm_out_yes h3, nm_out_yes h2, hr]
  · show nmRest (rsT m t i) (m i) = nmRest (rsT free t i) (free i)
    rw [nm_rest_yes h3, nm_rest_yes h2, hr]
  · show nmBad (rsT m t i) (bsT m t i) (m i) = nmBad (rsT free t i) (bsT free t i) (free i)
    rw [nm_bad_yes _ h3, nm_bad_yes _ h2, hb]
theorem six_alike {m : Nat → Int} {t : ByteArray} (h : ∀ i, i < 6 → rsT m t i = rsT free t i → nmOk (rsT free t i) (m i) = true) :
    ∀ i, i ≤ 6 → rsT m t i = rsT free t i ∧ bsT m t i = bsT free t i ∧ (∀ j, j < i → vsT m t j = vsT free t j)
  | 0, _ => ⟨rfl, rfl, fun j hj => by omega⟩
  | i + 1, hi => by
    obtain ⟨a, b, c⟩ := six_alike h i (by omega)
    obtain ⟨d, e, f⟩ := step_alike a b (h i (by omega) a)
    exact ⟨e, f, fun j hj => by
      by_cases hji : j = i
      · rw [hji]; exact d
      · exact c j (by omega)⟩
theorem cfg_alike {m : Nat → Int} {t : ByteArray} (h : ∀ i, i < 6 → vsT m t i = vsT free t i) : cfgT m t = cfgT free t := by
  unfold cfgT
  rw [h 0 (by omega), h 1 (by omega), h 2 (by omega), h 3 (by omega), h 4 (by omega), h 5 (by omega)]
theorem each_low {m : Nat → Int} {t : ByteArray} (h : In (cfgT m t)) (i : Nat) (hi : i < 6) : 1 ≤ vsT m t i := by
  obtain ⟨a, _, b, _, c, _, d, _, e, _, f, _⟩ := h
  unfold cfgT at a b c d e f
  rcases (show i = 0 ∨ i = 1 ∨ i = 2 ∨ i = 3 ∨ i = 4 ∨ i = 5 by omega) with rfl | rfl | rfl | rfl | rfl | rfl <;> (dsimp only at a b c d e f; omega)
theorem each_lim {m : Nat → Int} {t : ByteArray} (h : In (cfgT m t)) (i : Nat) (hi : i < 6) : (vsT m t i : Int) ≤ lim i := by
  obtain ⟨_, a, _, b, _, c, _, d, _, e, _, f⟩ := h
  rcases (show i = 0 ∨ i = 1 ∨ i = 2 ∨ i = 3 ∨ i = 4 ∨ i = 5 by omega) with rfl | rfl | rfl | rfl | rfl | rfl
  · exact a
  · exact b
  · exact c
  · exact d
  · exact e
  · exact f
theorem bad_stays {m : Nat → Int} {t : ByteArray} (i : Nat) : ∀ k, bsT m t (i + k) = false → bsT m t i = false
  | 0, h => h
  | k + 1, h => by
    have h' : nmBad (rsT m t (i + k)) (bsT m t (i + k)) (m (i + k)) = false := h
    unfold nmBad at h'
    exact bad_stays i k (Bool.or_eq_false_iff.1 h').1
/-- With limits or without, what is read is the same. -/
theorem read_alike (t : ByteArray) : okT lim t = okT free t ∧ (okT free t = true → cfgT lim t = cfgT free t) := by
  have key : (okT lim t = true ∨ okT free t = true) → ∀ i, i < 6 → rsT lim t i = rsT free t i → nmOk (rsT free t i) (lim i) = true := fun h i hi he => by
    rcases h with h | h
    · have := low_ok (each_low (okT_iff.1 h).1.is i hi)
      rwa [he] at this
    · obtain ⟨h1, h2, h3⟩ := okT_iff.1 h
      have hb : bsT free t (i + 1) = false := bad_stays (i + 1) (6 - (i + 1)) (by rw [show i + 1 + (6 - (i + 1)) = 6 by omega]; exact h2)
      have hb' : nmBad (rsT free t i) (bsT free t i) (free i) = false := hb
      have ho : nmOk (rsT free t i) (free i) = true := by
        unfold nmBad at hb'
        have := (Bool.or_eq_false_iff.1 hb').2
        simpa using this
      have hl := each_lim h1.is i hi
      unfold vsT at hl
      rw [nm_out_yes ho] at hl
      unfold nmOk at ho
      simp only [Bool.and_eq_true, decide_eq_true_iff] at ho
      exact nm_ok ho.1 hl
  have all : (okT lim t = true ∨ okT free t = true) → okT lim t = okT free t ∧ cfgT lim t = cfgT free t := fun h => by
    obtain ⟨a, b, c⟩ := six_alike (key h) 6 (Nat.le_refl _)
    have hc := cfg_alike c
    refine ⟨?_, hc⟩
    unfold okT
    rw [hc, a, b]
  cases h1 : okT lim t with
  | true => exact ⟨by rw [← (all (.inl h1)).1, h1], fun _ => (all (.inl h1)).2⟩
  | false =>
    cases h2 : okT free t with
    | true => rw [← (all (.inr h2)).1, h1] at h2; cases h2
    | false => exact ⟨rfl, fun h => by cases h⟩
/-- What was written is read as it was. -/
theorem back_step (m : Nat → Int) (t : ByteArray) (i : Nat) (z : Int) (T : List UInt8) (h : rsT m t i = ⟨(numL z ++ T).toArray⟩) (hb : bsT m t i = false) (hz : numOk z = true) (hm : z ≤ m i) :
    (vsT m t i : Int) = z ∧ rsT m t (i + 1) = ⟨T.toArray⟩ ∧ bsT m t (i + 1) = false := by
  refine ⟨?_, ?_, ?_⟩
  · unfold vsT
    rw [h, nm_num_out z hz T _ hm]
  · show nmRest (rsT m t i) (m i) = _
    rw [h, nm_num_rest z hz T _ hm]
  · show nmBad (rsT m t i) (bsT m t i) (m i) = _
    rw [h, hb, nm_num_bad z hz T _ hm]
theorem nums_six (x : Cfg) : numsL (nthZ x) 6 = numL x.v ++ (numL x.d ++ (numL x.h ++ (numL x.b ++ (numL x.n ++ (numL x.c ++ []))))) := by
  show (List.range 6).flatMap (fun i => numL (nthZ x i)) = _
  simp [List.range_succ, nthZ]
theorem back_cfg (x : Cfg) (h : Good x) : okT lim (cfgB x) = true ∧ cfgT lim (cfgB x) = x := by
  obtain ⟨a, a2, b, b2, c, c2, d, d2, e, e2, f, f2⟩ := h.is
  obtain ⟨v0, r1, b1⟩ := back_step lim (cfgB x) 0 x.v _ (by show cfgB x = _; unfold cfgB; rw [nums_six]) rfl (num_ok (by omega) (by omega)) a2
  obtain ⟨v1, r2, b2'⟩ := back_step lim (cfgB x) 1 x.d _ r1 b1 (num_ok (by omega) (by omega)) b2
  obtain ⟨v2, r3, b3⟩ := back_step lim (cfgB x) 2 x.h _ r2 b2' (num_ok (by omega) (by omega)) c2
  obtain ⟨v3, r4, b4⟩ := back_step lim (cfgB x) 3 x.b _ r3 b3 (num_ok (by omega) (by omega)) d2
  obtain ⟨v4, r5, b5⟩ := back_step lim (cfgB x) 4 x.n _ r4 b4 (num_ok (by omega) (by omega)) e2
  obtain ⟨v5, r6, b6⟩ := back_step lim (cfgB x) 5 x.c _ r5 b5 (num_ok (by omega) (by omega)) f2
  have hc : cfgT lim (cfgB x) = x := by
    unfold cfgT
    rw [v0, v1, v2, v3, v4, v5]
  exact ⟨okT_iff.2 ⟨by rw [hc]; exact h, b6, by rw [r6]; rfl⟩, hc⟩
end Cf
end Go.Proofs.YtkdkeokldcehhaaGreatDoor
namespace Go.Proofs.YtkdkeokldcehhaaGreatDoor
open Go.ChangeShapes Go.WideShapes Go.ChangeAt Go.RowKit Cf

namespace Cf
/-- A shape's block, of either type. -/
def cfO (t : TypeId) (x : Cfg) : Obj := .cells (cfA x) t (0, 0)
section
variable {w : World} {b : Nat} {t : TypeId} {x : Cfg} (h : w.heap[b]? = some (cfO t x))
include h
theorem cell0 : w.cell? ⟨b, 0, none⟩ = some (.int .i64 x.v) := by rw [cell_of_row w b 0 _ _ _ h]; rfl
theorem cell1 : w.cell? ⟨b, 1, none⟩ = some (.int .i64 x.d) := by rw [cell_of_row w b 1 _ _ _ h]; rfl
theorem cell2 : w.cell? ⟨b, 2, none⟩ = some (.int .i64 x.h) := by rw [cell_of_row w b 2 _ _ _ h]; rfl
theorem cell3 : w.cell? ⟨b, 3, none⟩ = some (.int .i64 x.b) := by rw [cell_of_row w b 3 _ _ _ h]; rfl
theorem cell4 : w.cell? ⟨b, 4, none⟩ = some (.int .i64 x.n) := by rw [cell_of_row w b 4 _ _ _ h]; rfl
theorem cell5 : w.cell? ⟨b, 5, none⟩ = some (.int .i64 x.c) := by rw [cell_of_row w b 5 _ _ _ h]; rfl
end
theorem seven (b1 b2 b3 b4 b5 : Bool) : b1 = false ∨ (b1 = true ∧ b2 = false) ∨ (b1 = true ∧ b2 = true ∧ b3 = false) ∨ (b1 = true ∧ b2 = true ∧ b3 = true ∧ b4 = false) ∨ (b1 = true ∧ b2 = true ∧ b3 = true ∧ b4 = true ∧ b5 = false) ∨ (b1 = true ∧ b2 = true ∧ b3 = true ∧ b4 = true ∧ b5 = true) := by
  cases b1 <;> cases b2 <;> cases b3 <;> cases b4 <;> cases b5 <;> simp
end Cf
set_option maxRecDepth 100000 in
set_option maxHeartbeats 1600000 in
theorem conf_within (w : World) (n l m : Int) : Calls Tryz.prog 81 #[.int .i64 n, .int .i64 l, .int .i64 m] w fun e w' => e = .returned (.bool (withinZ n l m)) ∧ w = w' := by
  unfold withinZ
  by_cases h1 : l ≤ n
  · have t1 : decide (l ≤ n) = true := decide_eq_true h1
    cases h2 : decide (n ≤ m)
    all_goals
      go_enter Tryz.func81, Tryz.ntmps81
      go_wp2_with (fail)
      refine bodyPost_ret (results_tmp rfl _ _ _) rfl ?_
      exact ⟨by rw [t1]; rfl, rfl⟩
  · have t1 : decide (l ≤ n) = false := decide_eq_false h1
    go_enter Tryz.func81, Tryz.ntmps81
    go_wp2_with (fail)
    refine bodyPost_ret (results_tmp rfl _ _ _) rfl ?_
    exact ⟨rfl, rfl⟩
set_option maxRecDepth 100000 in
set_option maxHeartbeats 1600000 in
theorem conf_bounded (w : World) (x : Cfg) : Calls Tryz.prog 53 #[cfV x] w fun e w' => e = .returned (.bool (inZ x)) ∧ Below w.heap.size w w' := by
  have H1 := Lib.hid (fun W => conf_within W x.v 2 32)
  have H2 := Lib.hid (fun W => conf_within W x.d 1 16)
  have H3 := Lib.hid (fun W => conf_within W x.h 1 4)
  have H4 := Lib.hid (fun W => conf_within W x.b 1 3)
  have H5 := Lib.hid (fun W => conf_within W x.n 1 32)
  have H6 := Lib.hid (fun W => conf_within W x.c 1 32)
  have HB := Lib.hid ((Below.refl w.heap.size w).alloc (Nat.le_refl _) (cfO 23 x))
  unfold inZ
  unfold cfO at HB
  unfold cfV cfA at *
  generalize withinZ x.v 2 32 = b1 at H1 ⊢
  generalize withinZ x.d 1 16 = b2 at H2 ⊢
  generalize withinZ x.h 1 4 = b3 at H3 ⊢
  generalize withinZ x.b 1 3 = b4 at H4 ⊢
  generalize withinZ x.n 1 32 = b5 at H5 ⊢
  generalize withinZ x.c 1 32 = b6 at H6 ⊢
  rcases seven b1 b2 b3 b4 b5 with rfl | ⟨rfl, rfl⟩ | ⟨rfl, rfl, rfl⟩ | ⟨rfl, rfl, rfl, rfl⟩ | ⟨rfl, rfl, rfl, rfl, rfl⟩ | ⟨rfl, rfl, rfl, rfl, rfl⟩
  all_goals
    go_enter Tryz.func53, Tryz.ntmps53
    go_wp2_with (fail)
    try (refine (H1.out _).mono ?_; rintro e w1 ⟨rfl, rfl⟩; go_wp2_with (fail))
    try (refine (H2.out _).mono ?_; rintro e w1 ⟨rfl, rfl⟩; go_wp2_with (fail))
    try (refine (H3.out _).mono ?_; rintro e w1 ⟨rfl, rfl⟩; go_wp2_with (fail))
    try (refine (H4.out _).mono ?_; rintro e w1 ⟨rfl, rfl⟩; go_wp2_with (fail))
    try (refine (H5.out _).mono ?_; rintro e w1 ⟨rfl, rfl⟩; go_wp2_with (fail))
    try (refine (H6.out _).mono ?_; rintro e w1 ⟨rfl, rfl⟩; go_wp2_with (fail))
    exact bodyPost_ret (results_tmp rfl _ _ _) rfl ⟨rfl, HB.out⟩
/-- How many rows and columns: for each part, and for none. -/
theorem side_cases (x : Cfg) (p : Int) : (p = 0 ∧ rowsZ x p = x.v ∧ colsZ x p = x.d) ∨ (p = 1 ∧ rowsZ x p = x.c ∧ colsZ x p = x.d) ∨ ((p = 2 ∨ p = 7 ∨ p = 11) ∧ rowsZ x p = 1 ∧ colsZ x p = x.d) ∨ ((p = 3 ∨ p = 4 ∨ p = 5 ∨ p = 6) ∧ rowsZ x p = x.d ∧ colsZ x p = x.d) ∨ ((p = 8 ∨ p = 9) ∧ rowsZ x p = x.n ∧ colsZ x p = x.d) ∨ (p = 10 ∧ rowsZ x p = x.d ∧ colsZ x p = x.n) ∨
    ((p == 0) = false ∧ (p == 1) = false ∧ (p == 2) = false ∧ (p == 3) = false ∧ (p == 4) = false ∧ (p == 5) = false ∧ (p == 6) = false ∧ (p == 7) = false ∧ (p == 8) = false ∧ (p == 9) = false ∧ (p == 10) = false ∧ (p == 11) = false ∧ rowsZ x p = 0 ∧ colsZ x p = 0) := by
  by_cases h : 0 ≤ p ∧ p ≤ 11
  · rcases part_cases h.1 h.2 with rfl | rfl | rfl | rfl | rfl | rfl | rfl | rfl | rfl | rfl | rfl | rfl <;> simp [rowsZ, colsZ]
  · refine .inr (.inr (.inr (.inr (.inr (.inr ⟨?_, ?_, ?_, ?_, ?_, ?_, ?_, ?_, ?_, ?_, ?_, ?_, rows_out x (by omega), cols_out x (by omega)⟩)))))
    all_goals exact beq_eq_false_iff_ne.2 (by omega)
set_option maxRecDepth 100000 in
set_option maxHeartbeats 6400000 in
theorem conf_side (w : World) (x : Cfg) (p : Int) : Calls Tryz.prog 110 #[cfV x, .int .i64 p] w fun e w' => e = .returned (.tuple #[.int .i64 (rowsZ x p), .int .i64 (colsZ x p)]) ∧ Below w.heap.size w w' := by
  have HB := Lib.hid ((Below.refl w.heap.size w).alloc (Nat.le_refl _) (cfO 61 x))
  have HH := heap_alloc_new w (cfO 61 x)
  have e0 := cell0 HH
  have e1 := cell1 HH
  have e4 := cell4 HH
  have e5 := cell5 HH
  unfold cfO at HB e0 e1 e4 e5
  have hc := side_cases x p
  clear HH
  generalize rowsZ x p = R at hc ⊢
  generalize colsZ x p = C at hc ⊢
  unfold cfV cfA at *
  rcases hc with ⟨rfl, rfl, rfl⟩ | ⟨rfl, rfl, rfl⟩ | ⟨rfl | rfl | rfl, rfl, rfl⟩ | ⟨rfl | rfl | rfl | rfl, rfl, rfl⟩ | ⟨rfl | rfl, rfl, rfl⟩ | ⟨rfl, rfl, rfl⟩ | ⟨n0, n1, n2, n3, n4, n5, n6, n7, n8, n9, na, nb, rfl, rfl⟩
  case inr.inr.inr.inr.inr.inr =>
    go_enter Tryz.func110, Tryz.ntmps110
    go_wp2_with (fail)
    exact bodyPost_ret (results_tmp2 rfl _ _ _) rfl ⟨rfl, HB.out⟩
  all_goals
    go_enter Tryz.func110, Tryz.ntmps110
    go_wp2_with (fail)
    go_quiet (fail)
    have HQ := Lib.hid (below_drewN HB.out nq)
    go_wp2_with (fail)
    exact bodyPost_ret (results_tmp2 rfl _ _ _) rfl ⟨rfl, HQ.out⟩
set_option maxRecDepth 100000 in
set_option maxHeartbeats 1600000 in
theorem conf_times (w : World) (x : Cfg) (p : Int) : Calls Tryz.prog 133 #[cfV x, .int .i64 p] w fun e w' => e = .returned (.int .i64 (timesZ x p)) ∧ Below w.heap.size w w' := by
  have HB := Lib.hid ((Below.refl w.heap.size w).alloc (Nat.le_refl _) (cfO 61 x))
  have e3 := cell3 (heap_alloc_new w (cfO 61 x))
  unfold cfO at HB e3
  unfold cfV cfA timesZ at *
  by_cases h1 : 2 ≤ p
  · have t1 : decide (2 ≤ p) = true := decide_eq_true h1
    by_cases h2 : p < 11
    · have t2 : decide (p < 11) = true := decide_eq_true h2
      rw [if_pos ⟨h1, h2⟩]
      go_enter Tryz.func133, Tryz.ntmps133
      go_wp2_with (fail)
      exact bodyPost_ret (results_tmp rfl _ _ _) rfl ⟨rfl, HB.out⟩
    · have t2 : decide (p < 11) = false := decide_eq_false h2
      rw [if_neg (by omega)]
      go_enter Tryz.func133, Tryz.ntmps133
      go_wp2_with (fail)
      exact bodyPost_ret (results_tmp rfl _ _ _) rfl ⟨rfl, HB.out⟩
  · have t1 : decide (2 ≤ p) = false := decide_eq_false h1
    rw [if_neg (by omega)]
    go_enter Tryz.func133, Tryz.ntmps133
    go_wp2_with (fail)
    exact bodyPost_ret (results_tmp rfl _ _ _) rfl ⟨rfl, HB.out⟩
end Go.Proofs.YtkdkeokldcehhaaGreatDoor
namespace Go.Proofs.YtkdkeokldcehhaaGreatDoor
open Go.ChangeShapes Go.WideShapes Go.ChangeAt Go.RowKit Cf

namespace Cf
theorem six {w : World} {b : Nat} {t : TypeId} {x : Cfg} (h : w.heap[b]? = some (cfO t x)) : w.cell? ⟨b, 0, none⟩ = some (.int .i64 x.v) ∧ w.cell? ⟨b, 1, none⟩ = some (.int .i64 x.d) ∧ w.cell? ⟨b, 2, none⟩ = some (.int .i64 x.h) ∧ w.cell? ⟨b, 3, none⟩ = some (.int .i64 x.b) ∧ w.cell? ⟨b, 4, none⟩ = some (.int .i64 x.n) ∧ w.cell? ⟨b, 5, none⟩ = some (.int .i64 x.c) :=
  ⟨cell0 h, cell1 h, cell2 h, cell3 h, cell4 h, cell5 h⟩
theorem less (a b : Nat) (h : a < b) : b - ((a : Int) + 1).toNat < b - (a : Int).toNat := by omega
/-- What stays as it was: a block that was there, behind a call. -/
theorem stays {w1 w2 : World} {B : Nat} {t : TypeId} {x : Cfg} (h : w1.heap[B]? = some (cfO t x)) (hb : Below w1.heap.size w1 w2) : w2.heap[B]? = some (cfO t x) := (hb.block B (Array.getElem?_eq_some_iff.1 h).1).trans h
end Cf
set_option maxRecDepth 100000 in
set_option maxHeartbeats 1600000 in
theorem conf_span (w : World) (x : Cfg) (h : In x) (f k t : Nat) (he : t = f + k) (h12 : t ≤ 12) : Calls Tryz.prog 82 #[cfV x, .int .i64 (f : Int), .int .i64 (t : Int)] w fun e w' => e = .returned (.int .i64 (spanZ x f k)) ∧ Below w.heap.size w w' := by
  have HS := Lib.hid (fun W p => conf_side W x p)
  have HA := Lib.hid (fun (p : Nat) (hp : p ≤ 11) => area_in h (p := (p : Int)) (by omega) (by omega))
  have HSP := Lib.hid (span_in h f)
  have HE := Lib.hid he
  have HZ := Lib.hid (show spanZ x f 0 = 0 from rfl)
  have HN := Lib.hid (fun j => show spanZ x f (j + 1) = spanZ x f j + rowsZ x ((f + j : Nat) : Int) * colsZ x ((f + j : Nat) : Int) from rfl)
  have HB0 := Lib.hid ((Below.refl w.heap.size w).alloc (Nat.le_refl _) (cfO 61 x))
  have HH0 := Lib.hid (heap_alloc_new w (cfO 61 x))
  unfold areaZ at HA
  clear he h
  generalize spanZ x f = sp at HSP HZ HN ⊢
  unfold cfO at HB0 HH0
  unfold cfV cfA at *
  go_enter Tryz.func82, Tryz.ntmps82
  go_wp2_with (fail)
  go_loopw [7, 8] (fun s i wr => ∃ p j : Nat, i = .int .i64 (p : Int) ∧ p = f + j ∧ j ≤ k ∧ s = .int .i64 (sp j) ∧ wr.heap[w.heap.size]? = some (cfO 61 x) ∧ Below w.heap.size w wr) (fun _ i _ => match i with | .int _ q => t - q.toNat | _ => 0)
  case atStart => exact ⟨f, 0, rfl, rfl, Nat.zero_le _, by rw [HZ.out], HH0.out, HB0.out⟩
  case round =>
    clear HH0 HB0
    obtain ⟨p, j, rfl, hp, hj, rfl, hh, hb⟩ := hrel
    have HH := Lib.hid hh
    have HB := Lib.hid hb
    have HP := Lib.hid hp
    have hpe := HE.out
    by_cases hlt : p < t
    · have x0 : (p : Int) < (t : Int) := by omega
      have x1 : decide ((p : Int) < (t : Int)) = true := decide_eq_true x0
      have HJ := Lib.hid (show j + 1 ≤ k by omega)
      have HR := Lib.hid (HA.out p (by omega))
      have HS1 := Lib.hid (show 0 ≤ sp j ∧ sp j ≤ 12288 by have := HSP.out j (by omega); omega)
      have HN1 := Lib.hid (HN.out j)
      rw [← hp] at HN1
      have X3 := Lib.hid (IntWalk.wrap64_in ((p : Int) + 1) (by omega))
      obtain ⟨e0, e1, e2, e3, e4, e5⟩ := six hh
      have HM := Lib.hid (less p t hlt)
      clear hh hb hp hpe hlt hj
      go_wp2_with (fail)
      refine (HS.out _ _).mono ?_
      rintro e w1 ⟨rfl, b1⟩
      have HH1 := Lib.hid (stays HH.out b1)
      have HB1 := Lib.hid (HB.out.trans (b1.mono HB.out.size))
      clear b1 e0 e1 e2 e3 e4 e5 HB HH
      generalize rowsZ x (p : Int) = R at HR HN1 ⊢
      generalize colsZ x (p : Int) = C at HR HN1 ⊢
      have m1 : wrap64 (R * C) = R * C := IntWalk.wrap64_in _ (by have := HR.out; omega)
      have m2 : wrap64 (sp j + R * C) = sp j + R * C := IntWalk.wrap64_in _ (by have := HR.out; have := HS1.out; omega)
      have m3 := X3.out
      go_wp2_with (fail)
      exact ⟨⟨p + 1, j + 1, rfl, by have := HP.out; omega, HJ.out, by rw [HN1.out, m2], HH1.out, HB1.out⟩, HM.out⟩
    · have x0 : ¬ (p : Int) < (t : Int) := by omega
      have x1 : decide ((p : Int) < (t : Int)) = false := decide_eq_false x0
      have hjk : j = k := by omega
      clear hh hb hp hpe hlt hj HP
      subst hjk
      go_wp2_with (fail)
      exact bodyPost_ret (results_tmp rfl _ _ _) rfl ⟨rfl, HB.out⟩
theorem ints_total (x : Cfg) (h : In x) : IntKind.i64.wrap (x.b * spanZ x 2 9) = x.b * spanZ x 2 9 ∧ IntKind.i64.wrap (spanZ x 0 2 + x.b * spanZ x 2 9) = spanZ x 0 2 + x.b * spanZ x 2 9 ∧ IntKind.i64.wrap (spanZ x 0 2 + x.b * spanZ x 2 9 + spanZ x 11 1) = totZ x := by
  have h1 := span_in h 0 2 (by omega)
  have h2 := span_in h 11 1 (by omega)
  have h3 := mid_in h
  unfold totZ
  exact ⟨IntWalk.i64_in _ (by omega), IntWalk.i64_in _ (by omega), IntWalk.i64_in _ (by omega)⟩
set_option maxRecDepth 100000 in
set_option maxHeartbeats 1600000 in
theorem conf_total (w : World) (x : Cfg) (h : In x) : Calls Tryz.prog 54 #[cfV x] w fun e w' => e = .returned (.int .i64 (totZ x)) ∧ Below w.heap.size w w' := by
  have H1 := Lib.hid (fun W => show Calls Tryz.prog 82 #[cfV x, .int .i64 0, .int .i64 2] W fun e w' => e = .returned (.int .i64 (spanZ x 0 2)) ∧ Below W.heap.size W w' from conf_span W x h 0 2 2 rfl (by omega))
  have H2 := Lib.hid (fun W => show Calls Tryz.prog 82 #[cfV x, .int .i64 2, .int .i64 11] W fun e w' => e = .returned (.int .i64 (spanZ x 2 9)) ∧ Below W.heap.size W w' from conf_span W x h 2 9 11 rfl (by omega))
  have H3 := Lib.hid (fun W => show Calls Tryz.prog 82 #[cfV x, .int .i64 11, .int .i64 12] W fun e w' => e = .returned (.int .i64 (spanZ x 11 1)) ∧ Below W.heap.size W w' from conf_span W x h 11 1 12 rfl (by omega))
  obtain ⟨i1, i2, i3⟩ := ints_total x h
  have HH := Lib.hid (show (w.alloc (cfO 61 x)).drew.heap[w.heap.size]? = some (cfO 61 x) from heap_alloc_new w _)
  have HB := Lib.hid (show Below w.heap.size w (w.alloc (cfO 61 x)).drew from below_drewN ((Below.refl _ _).alloc (Nat.le_refl _) _) 1)
  have k0 := six HH.out
  unfold cfV at *
  clear h
  generalize totZ x = T at i3 ⊢
  generalize spanZ x 0 2 = a at i2 i3 H1
  generalize spanZ x 11 1 = c at i3 H3
  generalize spanZ x 2 9 = b at i1 i2 i3 H2
  generalize hm : x.b * b = m at i1 i2 i3
  unfold cfO cfA at *
  go_enter Tryz.func54, Tryz.ntmps54
  go_wp2_with (fail)
  go_region_held3 (fun W : World => W.cell? ⟨w.heap.size, 0, none⟩ = some (.int .i64 x.v) ∧ W.cell? ⟨w.heap.size, 1, none⟩ = some (.int .i64 x.d) ∧ W.cell? ⟨w.heap.size, 2, none⟩ = some (.int .i64 x.h) ∧ W.cell? ⟨w.heap.size, 3, none⟩ = some (.int .i64 x.b) ∧ W.cell? ⟨w.heap.size, 4, none⟩ = some (.int .i64 x.n) ∧ W.cell? ⟨w.heap.size, 5, none⟩ = some (.int .i64 x.c)) (first | exact k0 | assumption) (first
    | (go_at_call 82; (with_reducible refine (H1.out _).mono ?_); rintro e w2 ⟨rfl, b2⟩; have HH2 := Lib.hid (stays HH.out b2); have HB2 := Lib.hid (HB.out.trans (b2.mono HB.out.size)); have k2 := six HH2.out; clear b2)
    | (go_at_call 82; (with_reducible refine (H2.out _).mono ?_); rintro e w3 ⟨rfl, b3⟩; have HH3 := Lib.hid (stays HH2.out b3); have HB3 := Lib.hid (HB2.out.trans (b3.mono HB2.out.size)); have k3 := six HH3.out; clear b3)
    | (go_at_call 82; (with_reducible refine (H3.out _).mono ?_); rintro e w4 ⟨rfl, b4⟩; have HH4 := Lib.hid (stays HH3.out b4); have HB4 := Lib.hid (HB3.out.trans (b4.mono HB3.out.size)); have k4 := six HH4.out; clear b4))
  go_wp2_with (fail)
  exact bodyPost_ret (results_tmp rfl _ _ _) rfl ⟨rfl, HB4.out⟩
end Go.Proofs.YtkdkeokldcehhaaGreatDoor
namespace Go.Proofs.YtkdkeokldcehhaaGreatDoor
open Go.ChangeShapes Go.WideShapes Go.ChangeAt Go.RowKit Cf

set_option maxRecDepth 100000 in
set_option maxHeartbeats 3200000 in
theorem conf_good (w : World) (x : Cfg) : Calls Tryz.prog 24 #[cfV x] w fun e w' => e = .returned (.bool (goodZ x)) ∧ Below w.heap.size w w' := by
  have HBD := Lib.hid (fun W => conf_bounded W x)
  have HB0 := Lib.hid ((Below.refl w.heap.size w).alloc (Nat.le_refl _) (cfO 23 x))
  have HH0 := Lib.hid (heap_alloc_new w (cfO 23 x))
  have k0 := six HH0.out
  have HT := Lib.hid (fun (h : In x) W => conf_total W x h)
  unfold goodZ
  have HI := Lib.hid (in_iff (x := x))
  generalize hg : inZ x = g at HBD HI ⊢
  clear hg
  unfold cfO at HB0 HH0 k0
  unfold cfV cfA at *
  cases g with
  | false =>
    go_enter Tryz.func24, Tryz.ntmps24
    go_wp2_with (fail)
    refine (HBD.out _).mono ?_
    rintro e w1 ⟨rfl, b1⟩
    have HB1 := Lib.hid (HB0.out.trans (b1.mono HB0.out.size))
    clear b1
    go_wp2_with (fail)
    exact bodyPost_ret (results_tmp rfl _ _ _) rfl ⟨rfl, HB1.out⟩
  | true =>
    have hin := HI.out.1 rfl
    have n0 : ¬ x.h = 0 := by have := hin.h1; omega
    have n1 : ¬ x.h = -1 := by have := hin.h1; omega
    have HT1 := Lib.hid (HT.out hin)
    clear HT hin HI
    by_cases hm : x.d.tmod x.h = 0
    · have hd : decide (x.d.tmod x.h = 0) = true := decide_eq_true hm
      have h2 : (x.d.tmod x.h == 0) = true := beq_iff_eq.2 hm
      rw [hd]
      clear hd hm
      cases h3 : decide (totZ x ≤ 8192)
      all_goals
        have H3 := Lib.hid h3
        clear h3
        go_enter Tryz.func24, Tryz.ntmps24
        go_wp2_with (fail)
        refine (HBD.out _).mono ?_
        rintro e w1 ⟨rfl, b1⟩
        have HH1 := Lib.hid (stays (x := x) (t := 23) HH0.out b1)
        have HB1 := Lib.hid (HB0.out.trans (b1.mono HB0.out.size))
        obtain ⟨e0, e1, e2, e3, e4, e5⟩ := six (x := x) (t := 23) HH1.out
        clear b1 k0
        go_wp2_with (fail)
        refine (HT1.out _).mono ?_
        rintro e w2 ⟨rfl, b2⟩
        have HB2 := Lib.hid (HB1.out.trans (b2.mono HB1.out.size))
        have h4 := H3.out
        clear b2
        go_wp2_with (fail)
        exact bodyPost_ret (results_tmp rfl _ _ _) rfl ⟨rfl, HB2.out⟩
    · have hd : decide (x.d.tmod x.h = 0) = false := decide_eq_false hm
      have h2 : (x.d.tmod x.h == 0) = false := beq_eq_false_iff_ne.2 hm
      rw [hd]
      clear hd hm
      go_enter Tryz.func24, Tryz.ntmps24
      go_wp2_with (fail)
      refine (HBD.out _).mono ?_
      rintro e w1 ⟨rfl, b1⟩
      have HH1 := Lib.hid (stays (x := x) (t := 23) HH0.out b1)
      have HB1 := Lib.hid (HB0.out.trans (b1.mono HB0.out.size))
      obtain ⟨e0, e1, e2, e3, e4, e5⟩ := six (x := x) (t := 23) HH1.out
      clear b1 k0
      go_wp2_with (fail)
      exact bodyPost_ret (results_tmp rfl _ _ _) rfl ⟨rfl, HB1.out⟩
theorem set_frozen {w : World} {b : Nat} {t : TypeId} {x : Cfg} (h : w.heap[b]? = some (cfO t x)) (i : Nat) : w.frozen? ⟨b, i, none⟩ = false := frozen_of_row w b i _ _ h
set_option maxRecDepth 100000 in
set_option maxHeartbeats 1600000 in
theorem conf_size (w : World) (x : Cfg) : Calls Tryz.prog 25 #[cfV x] w fun e w' => e = .returned (.int .i64 (if goodZ x = true then totZ x else 0)) ∧ Below w.heap.size w w' := by
  have HG := Lib.hid (fun W => conf_good W x)
  have HB0 := Lib.hid ((Below.refl w.heap.size w).alloc (Nat.le_refl _) (cfO 61 x))
  have HH0 := Lib.hid (heap_alloc_new w (cfO 61 x))
  have k0 := six HH0.out
  have HT := Lib.hid (fun (h : In x) W => conf_total W x h)
  have HI := Lib.hid (good_iff (x := x))
  generalize goodZ x = g at HG HI ⊢
  unfold cfO at HB0 HH0 k0
  unfold cfV cfA at *
  cases g with
  | false =>
    go_enter Tryz.func25, Tryz.ntmps25
    go_wp2_with (fail)
    refine (HG.out _).mono ?_
    rintro e w1 ⟨rfl, b1⟩
    have HB1 := Lib.hid (HB0.out.trans (b1.mono HB0.out.size))
    clear b1
    go_wp2_with (fail)
    exact bodyPost_ret (results_tmp rfl _ _ _) rfl ⟨rfl, HB1.out⟩
  | true =>
    have HT1 := Lib.hid (HT.out (HI.out.1 rfl).is)
    rw [if_pos rfl]
    go_enter Tryz.func25, Tryz.ntmps25
    go_wp2_with (fail)
    refine (HG.out _).mono ?_
    rintro e w1 ⟨rfl, b1⟩
    have HH1 := Lib.hid (stays (x := x) (t := 61) HH0.out b1)
    have HB1 := Lib.hid (HB0.out.trans (b1.mono HB0.out.size))
    obtain ⟨e0, e1, e2, e3, e4, e5⟩ := six (x := x) (t := 61) HH1.out
    clear b1 k0
    go_wp2_with (fail)
    refine (HT1.out _).mono ?_
    rintro e w2 ⟨rfl, b2⟩
    have HB2 := Lib.hid (HB1.out.trans (b2.mono HB1.out.size))
    clear b2
    go_wp2_with (fail)
    exact bodyPost_ret (results_tmp rfl _ _ _) rfl ⟨rfl, HB2.out⟩
set_option maxRecDepth 100000 in
set_option maxHeartbeats 1600000 in
theorem conf_Side (w : World) (x : Cfg) (p : Int) : Calls Tryz.prog 121 #[cfV x, .int .i64 p] w fun e w' => e = .returned (.tuple #[.int .i64 (if goodZ x = true then rowsZ x p else 0), .int .i64 (if goodZ x = true then colsZ x p else 0)]) ∧ Below w.heap.size w w' := by
  have HG := Lib.hid (fun W => conf_good W x)
  have HB0 := Lib.hid ((Below.refl w.heap.size w).alloc (Nat.le_refl _) (cfO 61 x))
  have HH0 := Lib.hid (heap_alloc_new w (cfO 61 x))
  have k0 := six HH0.out
  have HT := Lib.hid (fun W => conf_side W x p)
  generalize goodZ x = g at HG ⊢
  unfold cfO at HB0 HH0 k0
  unfold cfV cfA at *
  cases g with
  | false =>
    go_enter Tryz.func121, Tryz.ntmps121
    go_wp2_with (fail)
    refine (HG.out _).mono ?_
    rintro e w1 ⟨rfl, b1⟩
    have HB1 := Lib.hid (HB0.out.trans (b1.mono HB0.out.size))
    clear b1
    go_wp2_with (fail)
    exact bodyPost_ret (results_tmp2 rfl _ _ _) rfl ⟨rfl, HB1.out⟩
  | true =>
    rw [if_pos rfl, if_pos rfl]
    go_enter Tryz.func121, Tryz.ntmps121
    go_wp2_with (fail)
    refine (HG.out _).mono ?_
    rintro e w1 ⟨rfl, b1⟩
    have HH1 := Lib.hid (stays (x := x) (t := 61) HH0.out b1)
    have HB1 := Lib.hid (HB0.out.trans (b1.mono HB0.out.size))
    obtain ⟨e0, e1, e2, e3, e4, e5⟩ := six (x := x) (t := 61) HH1.out
    clear b1 k0
    go_wp2_with (fail)
    refine (HT.out _).mono ?_
    rintro e w2 ⟨rfl, b2⟩
    have HB2 := Lib.hid (HB1.out.trans (b2.mono HB1.out.size))
    clear b2
    go_wp2_with (fail)
    exact bodyPost_ret (results_tmp2 rfl _ _ _) rfl ⟨rfl, HB2.out⟩
theorem quo_in {x : Cfg} (h : In x) : wrap64 (x.d.tdiv x.h) = x.d.tdiv x.h := by
  have h1 := h.d1
  have h2 := h.d16
  have h3 := h.h1
  have h4 : x.d.tdiv x.h = x.d / x.h := Int.tdiv_eq_ediv_of_nonneg (by omega)
  have h5 : 0 ≤ x.d / x.h := Int.ediv_nonneg (by omega) (by omega)
  have h6 : x.d / x.h ≤ x.d := Int.ediv_le_self _ (by omega)
  exact IntWalk.wrap64_in _ (by omega)
set_option maxRecDepth 100000 in
set_option maxHeartbeats 1600000 in
theorem conf_headDim (w : World) (x : Cfg) : Calls Tryz.prog 117 #[cfV x] w fun e w' => e = .returned (.int .i64 (if goodZ x = true then x.d.tdiv x.h else 0)) ∧ Below w.heap.size w w' := by
  have HG := Lib.hid (fun W => conf_good W x)
  have HB0 := Lib.hid ((Below.refl w.heap.size w).alloc (Nat.le_refl _) (cfO 61 x))
  have HH0 := Lib.hid (heap_alloc_new w (cfO 61 x))
  have k0 := six HH0.out
  have HI := Lib.hid (good_iff (x := x))
  generalize goodZ x = g at HG HI ⊢
  unfold cfO at HB0 HH0 k0
  unfold cfV cfA at *
  cases g with
  | false =>
    go_enter Tryz.func117, Tryz.ntmps117
    go_wp2_with (fail)
    refine (HG.out _).mono ?_
    rintro e w1 ⟨rfl, b1⟩
    have HB1 := Lib.hid (HB0.out.trans (b1.mono HB0.out.size))
    clear b1
    go_wp2_with (fail)
    exact bodyPost_ret (results_tmp rfl _ _ _) rfl ⟨rfl, HB1.out⟩
  | true =>
    have hin := (HI.out.1 rfl).is
    have n0 : ¬ x.h = 0 := by have := hin.h1; omega
    have n1 : ¬ x.h = -1 := by have := hin.h1; omega
    have HQ := Lib.hid (quo_in hin)
    rw [if_pos rfl]
    clear hin
    go_enter Tryz.func117, Tryz.ntmps117
    go_wp2_with (fail)
    refine (HG.out _).mono ?_
    rintro e w1 ⟨rfl, b1⟩
    have HH1 := Lib.hid (stays (x := x) (t := 61) HH0.out b1)
    have HB1 := Lib.hid (HB0.out.trans (b1.mono HB0.out.size))
    obtain ⟨e0, e1, e2, e3, e4, e5⟩ := six (x := x) (t := 61) HH1.out
    clear b1 k0
    go_wp2_with (fail)
    refine bodyPost_ret (results_tmp rfl _ _ _) rfl ⟨?_, HB1.out⟩
    show Ending.returned (.int .i64 (wrap64 (x.d.tdiv x.h))) = _
    rw [HQ.out]
end Go.Proofs.YtkdkeokldcehhaaGreatDoor
namespace Go.Proofs.YtkdkeokldcehhaaGreatDoor
open Go.ChangeShapes Go.WideShapes Go.ChangeAt Go.RowKit Cf

namespace Cf
def zeroC : Cfg := ⟨0, 0, 0, 0, 0, 0⟩
theorem res_cell_tmp {P : Program} {fn : Func} {p u : Tmp} {ty : TypeId} (h : fn.results = #[.cell p ty, .tmp u]) (tmps : Array Value) (w : World) (g : Nat) (t : TypeId) (cs : Array Value) (fr : Nat × Nat) (d : TypeDesc)
    (hp : tmps.getD p undef = .pointer (some ⟨g, 0, none⟩)) (hg : w.heap[g]? = some (.cells cs t fr))
    (hu : P.underlying ty = some d) (hd : (match d with | .struct _ | .array _ _ => true | _ => false) = true) (hi : (P.info? ty).map (·.size) = some cs.size) :
    (results fn tmps).run P w = .ok (.tuple #[.agg cs, tmps.getD u undef]) w := by
  rw [results_cell_tmp h, hp]
  simp [asAddr, run_loadVar_row w g t ty cs fr d hg hu hd hi]
def set6 (W : World) (b : Nat) (x : Cfg) : World := (((((W.setCell ⟨b, 0, none⟩ (.int .i64 x.v)).setCell ⟨b, 1, none⟩ (.int .i64 x.d)).setCell ⟨b, 2, none⟩ (.int .i64 x.h)).setCell ⟨b, 3, none⟩ (.int .i64 x.b)).setCell ⟨b, 4, none⟩ (.int .i64 x.n)).setCell ⟨b, 5, none⟩ (.int .i64 x.c)
theorem set6_row {W : World} {b : Nat} {t : TypeId} {y : Cfg} (h : W.heap[b]? = some (cfO t y)) (x : Cfg) : (set6 W b x).heap[b]? = some (cfO t x) :=
  heap_setCell_same _ b 5 _ _ _ (heap_setCell_same _ b 4 _ _ _ (heap_setCell_same _ b 3 _ _ _ (heap_setCell_same _ b 2 _ _ _ (heap_setCell_same _ b 1 _ _ _ (heap_setCell_same W b 0 _ _ _ h)))))
theorem set6_other (W : World) (b : Nat) (x : Cfg) (i : Nat) (hi : i ≠ b) : (set6 W b x).heap[i]? = W.heap[i]? := by
  unfold set6
  rw [heap_setCell_other _ ⟨b, 5, none⟩ i _ hi, heap_setCell_other _ ⟨b, 4, none⟩ i _ hi, heap_setCell_other _ ⟨b, 3, none⟩ i _ hi, heap_setCell_other _ ⟨b, 2, none⟩ i _ hi, heap_setCell_other _ ⟨b, 1, none⟩ i _ hi, heap_setCell_other _ ⟨b, 0, none⟩ i _ hi]
theorem set6_size (W : World) (b : Nat) (x : Cfg) : (set6 W b x).heap.size = W.heap.size := by unfold set6; simp [World.setCell]
theorem set6_below {B : Nat} {w0 W : World} (h : Below B w0 W) {b : Nat} (hb : B ≤ b) (x : Cfg) : Below B w0 (set6 W b x) :=
  (((((h.setCell (p := ⟨b, 0, none⟩) hb _).setCell (p := ⟨b, 1, none⟩) hb _).setCell (p := ⟨b, 2, none⟩) hb _).setCell (p := ⟨b, 3, none⟩) hb _).setCell (p := ⟨b, 4, none⟩) hb _).setCell (p := ⟨b, 5, none⟩) hb _
end Cf
theorem cfI (x : Cfg) : (Tryz.prog.info? 61).map (·.size) = some (cfA x).size := by kernel_rfl
/-- What Of answers. -/
def ofZ (x : Cfg) : Value := if goodZ x = true then .tuple #[cfV x, .int .i64 0] else .tuple #[cfV zeroC, .int .i64 1]
end Go.Proofs.YtkdkeokldcehhaaGreatDoor
namespace Go.Proofs.YtkdkeokldcehhaaGreatDoor
open Go.ChangeShapes Go.WideShapes Go.ChangeAt Go.RowKit Cf

/-- What Range answers. -/
def rangeV (x : Cfg) (p k : Int) : Value := if isZ x p k = true then .tuple #[.int .i64 (fromZ x p k), .int .i64 (areaZ x p), .bool true] else .tuple #[.int .i64 0, .int .i64 0, .bool false]
theorem is_iff {x : Cfg} {p k : Int} : isZ x p k = true ↔ Cf.Good x ∧ 0 ≤ p ∧ p ≤ 11 ∧ 0 ≤ k ∧ k < timesZ x p := by
  unfold isZ
  simp only [Bool.and_eq_true, decide_eq_true_iff, good_iff]
theorem range_no {x : Cfg} {p k : Int} (h : ¬ (Cf.Good x ∧ 0 ≤ p ∧ p ≤ 11 ∧ 0 ≤ k ∧ k < timesZ x p)) : rangeV x p k = .tuple #[.int .i64 0, .int .i64 0, .bool false] := if_neg fun hi => h (is_iff.1 hi)
theorem range_yes {x : Cfg} {p k : Int} (h : Cf.Good x ∧ 0 ≤ p ∧ p ≤ 11 ∧ 0 ≤ k ∧ k < timesZ x p) : rangeV x p k = .tuple #[.int .i64 (fromZ x p k), .int .i64 (areaZ x p), .bool true] := if_pos (is_iff.2 h)
theorem from_in {x : Cfg} (h : In x) {q : Int} (h0 : 0 ≤ q) (h1 : q < 3) {p : Nat} (hp : p ≤ 11) : IntKind.i64.wrap (q * spanZ x 2 9) = q * spanZ x 2 9 ∧ IntKind.i64.wrap (q * spanZ x 2 9 + spanZ x 0 p) = q * spanZ x 2 9 + spanZ x 0 p ∧ IntKind.i64.wrap (rowsZ x (p : Int) * colsZ x (p : Int)) = areaZ x (p : Int) := by
  have a1 := span_in h 2 9 (by omega)
  have a2 := span_in h 0 p (by omega)
  have a3 : 0 ≤ q * spanZ x 2 9 := Int.mul_nonneg h0 (by omega)
  have a4 := Int.mul_le_mul (show q ≤ 2 by omega) (show spanZ x 2 9 ≤ 9216 by omega) (by omega) (by omega : (0 : Int) ≤ 2)
  have a5 := area_in h (p := (p : Int)) (by omega) (by omega)
  unfold areaZ at a5 ⊢
  exact ⟨IntWalk.i64_in _ (by omega), IntWalk.i64_in _ (by omega), IntWalk.i64_in _ (by omega)⟩
set_option maxRecDepth 100000 in
set_option maxHeartbeats 3200000 in
theorem conf_range_none (w : World) (x : Cfg) (p k : Int) (h : goodZ x = true → p < 0 ∨ 11 < p) : Calls Tryz.prog 120 #[cfV x, .int .i64 p, .int .i64 k] w fun e w' => e = .returned (.tuple #[.int .i64 0, .int .i64 0, .bool false]) ∧ Below w.heap.size w w' := by
  have HS := Lib.hid (show Calls Tryz.prog 121 #[cfV x, .int .i64 p] (w.alloc (cfO 61 x)) fun e w' => e = .returned (.tuple #[.int .i64 0, .int .i64 0]) ∧ Below (w.alloc (cfO 61 x)).heap.size (w.alloc (cfO 61 x)) w' from by
    have hs := conf_Side (w.alloc (cfO 61 x)) x p
    cases hg : goodZ x with
    | false => rw [hg] at hs; exact hs
    | true => rw [hg, if_pos rfl, if_pos rfl, rows_out x (h hg), cols_out x (h hg)] at hs; exact hs)
  have HB0 := Lib.hid ((Below.refl w.heap.size w).alloc (Nat.le_refl _) (cfO 61 x))
  have HH0 := Lib.hid (heap_alloc_new w (cfO 61 x))
  have k0 := six HH0.out
  unfold cfO at HB0 HH0 k0 HS
  unfold cfV cfA at *
  clear h
  go_enter Tryz.func120, Tryz.ntmps120
  go_wp2_with (fail)
  refine HS.out.mono ?_
  rintro e w1 ⟨rfl, b1⟩
  have HB1 := Lib.hid (HB0.out.trans (b1.mono HB0.out.size))
  clear b1 k0
  go_wp2_with (fail)
  exact bodyPost_ret (results_tmp3 rfl _ _ _) rfl ⟨rfl, HB1.out⟩
set_option maxRecDepth 100000 in
set_option maxHeartbeats 3200000 in
theorem conf_range_some (w : World) (x : Cfg) (p : Nat) (k : Int) (hx : Cf.Good x) (hp : p ≤ 11) : Calls Tryz.prog 120 #[cfV x, .int .i64 (p : Int), .int .i64 k] w fun e w' => e = .returned (rangeV x (p : Int) k) ∧ Below w.heap.size w w' := by
  have HS := Lib.hid (fun W => show Calls Tryz.prog 121 #[cfV x, .int .i64 (p : Int)] W fun e w' => e = .returned (.tuple #[.int .i64 (rowsZ x (p : Int)), .int .i64 (colsZ x (p : Int))]) ∧ Below W.heap.size W w' from by
    have hs := conf_Side W x (p : Int)
    rw [good_iff.2 hx, if_pos rfl, if_pos rfl] at hs
    exact hs)
  have HT := Lib.hid (fun W => conf_times W x (p : Int))
  have HP1 := Lib.hid (fun W => show Calls Tryz.prog 82 #[cfV x, .int .i64 2, .int .i64 11] W fun e w' => e = .returned (.int .i64 (spanZ x 2 9)) ∧ Below W.heap.size W w' from conf_span W x hx.is 2 9 11 rfl (by omega))
  have HP2 := Lib.hid (fun W => show Calls Tryz.prog 82 #[cfV x, .int .i64 0, .int .i64 (p : Int)] W fun e w' => e = .returned (.int .i64 (spanZ x 0 p)) ∧ Below W.heap.size W w' from conf_span W x hx.is 0 p p (by omega) (by omega))
  have HB0 := Lib.hid ((Below.refl w.heap.size w).alloc (Nat.le_refl _) (cfO 61 x))
  have HH0 := Lib.hid (heap_alloc_new w (cfO 61 x))
  have k0 := six HH0.out
  have hr := rows_in hx.is (p := (p : Int)) (by omega) (by omega)
  have r0 : (rowsZ x (p : Int) == 0) = false := beq_eq_false_iff_ne.2 (by omega)
  have HF := Lib.hid (fun q (h0 : 0 ≤ q) (h1 : q < 3) => from_in hx.is h0 h1 hp)
  have HB3 := Lib.hid (And.intro hx.is.b1 hx.is.b3)
  have HV1 := Lib.hid (fun h => range_no (x := x) (p := (p : Int)) (k := k) h)
  have HV2 := Lib.hid (fun a b => range_yes (x := x) (p := (p : Int)) (k := k) ⟨hx, by omega, by omega, a, b⟩)
  have HV3 := Lib.hid (show fromZ x (p : Int) k = (if (p : Int) = 11 then x.b - 1 else k) * spanZ x 2 9 + spanZ x 0 p from rfl)
  have HV4 := Lib.hid (show timesZ x (p : Int) = if 2 ≤ (p : Int) ∧ (p : Int) < 11 then x.b else 1 from rfl)
  clear hr hx
  generalize rangeV x (p : Int) k = V at HV1 HV2 ⊢
  generalize fromZ x (p : Int) k = F at HV2 HV3
  generalize areaZ x (p : Int) = a at HV2 HF
  generalize timesZ x (p : Int) = T at HT HV1 HV2 HV4
  generalize spanZ x 2 9 = S at HP1 HF HV3
  generalize spanZ x 0 p = s0 at HP2 HF HV3
  generalize rowsZ x (p : Int) = R at HS HF r0
  generalize colsZ x (p : Int) = C at HS HF
  obtain ⟨y, hy⟩ : ∃ y : Int, y = (p : Int) := ⟨_, rfl⟩
  have HY := Lib.hid (show 0 ≤ y ∧ y ≤ 11 by omega)
  rw [← hy] at HS HT HP2 HV1 HV3 HV4 ⊢
  clear hy hp
  unfold cfO at HB0 HH0 k0
  unfold cfV cfA at *
  by_cases hk0 : k < 0
  · have t0 : decide (k < 0) = true := decide_eq_true hk0
    have HV := Lib.hid (HV1.out fun h => by have := HY.out; omega)
    go_enter Tryz.func120, Tryz.ntmps120
    go_wp2_with (fail)
    refine (HS.out _).mono ?_
    rintro e w1 ⟨rfl, b1⟩
    have HB1 := Lib.hid (HB0.out.trans (b1.mono HB0.out.size))
    clear b1 k0
    go_wp2_with (fail)
    exact bodyPost_ret (results_tmp3 rfl _ _ _) rfl ⟨by rw [HV.out]; rfl, HB1.out⟩
  have t0 : decide (k < 0) = false := decide_eq_false hk0
  by_cases hkT : T ≤ k
  · have t1 : decide (T ≤ k) = true := decide_eq_true hkT
    have HV := Lib.hid (HV1.out fun h => by have := HY.out; omega)
    go_enter Tryz.func120, Tryz.ntmps120
    go_wp2_with (fail)
    refine (HS.out _).mono ?_
    rintro e w1 ⟨rfl, b1⟩
    have HH1 := Lib.hid (stays (x := x) (t := 61) HH0.out b1)
    have HB1 := Lib.hid (HB0.out.trans (b1.mono HB0.out.size))
    obtain ⟨e0, e1, e2, e3, e4, e5⟩ := six (x := x) (t := 61) HH1.out
    clear b1 k0
    go_wp2_with (fail)
    refine (HT.out _).mono ?_
    rintro e w2 ⟨rfl, b2⟩
    have HB2 := Lib.hid (HB1.out.trans (b2.mono HB1.out.size))
    clear b2
    go_wp2_with (fail)
    exact bodyPost_ret (results_tmp3 rfl _ _ _) rfl ⟨by rw [HV.out]; rfl, HB2.out⟩
  have t1 : decide (T ≤ k) = false := decide_eq_false hkT
  have HV := Lib.hid (HV2.out (by omega) (by omega))
  have HK := Lib.hid (show 0 ≤ k ∧ k < 3 by
    have h4 := HV4.out
    have h3 := HB3.out
    split at h4 <;> omega)
  by_cases h11 : y = 11
  · have t2 : (y == 11) = true := beq_iff_eq.2 h11
    have HQ := Lib.hid (HF.out (x.b - 1) (by have := HB3.out; omega) (by have := HB3.out; omega))
    have HFQ := Lib.hid (show F = (x.b - 1) * S + s0 by rw [HV3.out, if_pos h11])
    have hw := IntWalk.i64_in (x.b - 1) (by have := HB3.out; omega)
    have hw2 := IntWalk.wrap64_in (x.b - 1) (by have := HB3.out; omega)
    clear HF HV1 HV2 HV3 HV4 hkT hk0 h11
    go_enter Tryz.func120, Tryz.ntmps120
    go_wp2_with (fail)
    refine (HS.out _).mono ?_
    rintro e w1 ⟨rfl, b1⟩
    have HH1 := Lib.hid (stays (x := x) (t := 61) HH0.out b1)
    have HB1 := Lib.hid (HB0.out.trans (b1.mono HB0.out.size))
    obtain ⟨e0, e1, e2, e3, e4, e5⟩ := six (x := x) (t := 61) HH1.out
    clear b1 k0
    go_wp2_with (fail)
    refine (HT.out _).mono ?_
    rintro e w2 ⟨rfl, b2⟩
    have HH2 := Lib.hid (stays (x := x) (t := 61) HH1.out b2)
    have HB2 := Lib.hid (HB1.out.trans (b2.mono HB1.out.size))
    clear b2 e0 e1 e2 e3 e4 e5 HB1 HH1 HB0 HH0
    have e3 := (six (x := x) (t := 61) HH2.out).2.2.2.1
    go_wp2_with (fail)
    obtain ⟨q1, q2, q3⟩ := HQ.out
    generalize hm : (x.b - 1) * S = m at q1 q2 HFQ
    have HD := Lib.hid (show w2.drew.heap[w.heap.size]? = some (cfO 61 x) from HH2.out)
    have HBD := Lib.hid (show Below w.heap.size w w2.drew from below_drewN HB2.out 1)
    have k2 := six HD.out
    go_region_held3 (fun W : World => W.cell? ⟨w.heap.size, 0, none⟩ = some (.int .i64 x.v) ∧ W.cell? ⟨w.heap.size, 1, none⟩ = some (.int .i64 x.d) ∧ W.cell? ⟨w.heap.size, 2, none⟩ = some (.int .i64 x.h) ∧ W.cell? ⟨w.heap.size, 3, none⟩ = some (.int .i64 x.b) ∧ W.cell? ⟨w.heap.size, 4, none⟩ = some (.int .i64 x.n) ∧ W.cell? ⟨w.heap.size, 5, none⟩ = some (.int .i64 x.c)) (first | exact k2 | assumption) (first
      | (go_at_call 82; (with_reducible refine (HP1.out _).mono ?_); rintro e w3 ⟨rfl, b3⟩; have HH3 := Lib.hid (stays HD.out b3); have HB3 := Lib.hid (HBD.out.trans (b3.mono HBD.out.size)); have k3 := six HH3.out; clear b3)
      | (go_at_call 82; (with_reducible refine (HP2.out _).mono ?_); rintro e w4 ⟨rfl, b4⟩; have HH4 := Lib.hid (stays HH3.out b4); have HB4 := Lib.hid (HB3.out.trans (b4.mono HB3.out.size)); have k4 := six HH4.out; clear b4))
    go_wp2_with (fail)
    refine bodyPost_ret (results_tmp3 rfl _ _ _) rfl ⟨?_, HB4.out⟩
    rw [HV.out, HFQ.out]
    rfl
  · have t2 : (y == 11) = false := beq_eq_false_iff_ne.2 h11
    have HQ := Lib.hid (HF.out k HK.out.1 HK.out.2)
    have HFQ := Lib.hid (show F = k * S + s0 by rw [HV3.out, if_neg h11])
    clear HF HV1 HV2 HV3 HV4 hkT hk0 h11
    go_enter Tryz.func120, Tryz.ntmps120
    go_wp2_with (fail)
    refine (HS.out _).mono ?_
    rintro e w1 ⟨rfl, b1⟩
    have HH1 := Lib.hid (stays (x := x) (t := 61) HH0.out b1)
    have HB1 := Lib.hid (HB0.out.trans (b1.mono HB0.out.size))
    obtain ⟨e0, e1, e2, e3, e4, e5⟩ := six (x := x) (t := 61) HH1.out
    clear b1 k0
    go_wp2_with (fail)
    refine (HT.out _).mono ?_
    rintro e w2 ⟨rfl, b2⟩
    have HH2 := Lib.hid (stays (x := x) (t := 61) HH1.out b2)
    have HB2 := Lib.hid (HB1.out.trans (b2.mono HB1.out.size))
    clear b2 e0 e1 e2 e3 e4 e5 HB1 HH1 HB0 HH0
    have e3 := (six (x := x) (t := 61) HH2.out).2.2.2.1
    go_wp2_with (fail)
    obtain ⟨q1, q2, q3⟩ := HQ.out
    generalize hm : k * S = m at q1 q2 HFQ
    have HD := Lib.hid (show w2.drew.heap[w.heap.size]? = some (cfO 61 x) from HH2.out)
    have HBD := Lib.hid (show Below w.heap.size w w2.drew from below_drewN HB2.out 1)
    have k2 := six HD.out
    go_region_held3 (fun W : World => W.cell? ⟨w.heap.size, 0, none⟩ = some (.int .i64 x.v) ∧ W.cell? ⟨w.heap.size, 1, none⟩ = some (.int .i64 x.d) ∧ W.cell? ⟨w.heap.size, 2, none⟩ = some (.int .i64 x.h) ∧ W.cell? ⟨w.heap.size, 3, none⟩ = some (.int .i64 x.b) ∧ W.cell? ⟨w.heap.size, 4, none⟩ = some (.int .i64 x.n) ∧ W.cell? ⟨w.heap.size, 5, none⟩ = some (.int .i64 x.c)) (first | exact k2 | assumption) (first
      | (go_at_call 82; (with_reducible refine (HP1.out _).mono ?_); rintro e w3 ⟨rfl, b3⟩; have HH3 := Lib.hid (stays HD.out b3); have HB3 := Lib.hid (HBD.out.trans (b3.mono HBD.out.size)); have k3 := six HH3.out; clear b3)
      | (go_at_call 82; (with_reducible refine (HP2.out _).mono ?_); rintro e w4 ⟨rfl, b4⟩; have HH4 := Lib.hid (stays HH3.out b4); have HB4 := Lib.hid (HB3.out.trans (b4.mono HB3.out.size)); have k4 := six HH4.out; clear b4))
    go_wp2_with (fail)
    refine bodyPost_ret (results_tmp3 rfl _ _ _) rfl ⟨?_, HB4.out⟩
    rw [HV.out, HFQ.out]
    rfl
theorem conf_range (w : World) (x : Cfg) (p k : Int) : Calls Tryz.prog 120 #[cfV x, .int .i64 p, .int .i64 k] w fun e w' => e = .returned (rangeV x p k) ∧ Below w.heap.size w w' := by
  by_cases h : Cf.Good x ∧ 0 ≤ p ∧ p ≤ 11
  · obtain ⟨h1, h2, h3⟩ := h
    have hp : ((p.toNat : Nat) : Int) = p := by omega
    have := conf_range_some w x p.toNat k h1 (by omega)
    rwa [hp] at this
  · rw [range_no fun hh => h ⟨hh.1, hh.2.1, hh.2.2.1⟩]
    exact conf_range_none w x p k fun hg => by
      have hg := good_iff.1 hg
      by_cases h0 : p < 0
      · exact .inl h0
      · exact .inr (Int.not_le.1 fun h1 => h ⟨hg, by omega, h1⟩)
end Go.Proofs.YtkdkeokldcehhaaGreatDoor
namespace Go.Proofs.YtkdkeokldcehhaaGreatDoor
open Go.ChangeShapes Go.WideShapes Go.ChangeAt Go.RowKit

theorem str_cut (q : ByteArray) (i j : Nat) (I J : Int) (hI : I = (i : Int)) (hJ : J = (j : Int)) (h1 : i ≤ j) (h2 : j ≤ q.size) (W : World) : (Instr.slice 9 (.string q) (some (.int .i64 I)) (some (.int .i64 J)) none).run Tryz.prog W = .ok (.string (q.extract i j)) W := by
  subst hI hJ
  have := run_slice_string (P := Tryz.prog) W 9 q .i64 .i64 (i : Int) (j : Int) Tryz.underlying9 (by omega) (by omega) (by omega)
  simpa using this
theorem str_to (q : ByteArray) (j : Nat) (J : Int) (hJ : J = (j : Int)) (h2 : j ≤ q.size) (W : World) : (Instr.slice 9 (.string q) none (some (.int .i64 J)) none).run Tryz.prog W = .ok (.string (q.extract 0 j)) W := by
  subst hJ
  have := run_slice_string_to_if (P := Tryz.prog) W 9 q .i64 (j : Int) Tryz.underlying9
  rw [if_pos ⟨by omega, by omega⟩] at this
  simpa using this
theorem str_from (q : ByteArray) (i : Nat) (I : Int) (hI : I = (i : Int)) (h : i ≤ q.size) (W : World) : (Instr.slice 9 (.string q) (some (.int .i64 I)) none none).run Tryz.prog W = .ok (.string (q.extract i q.size)) W := by
  subst hI
  have := run_slice_string_from_if (P := Tryz.prog) W 9 q .i64 (i : Int) Tryz.underlying9
  rw [if_pos ⟨by omega, by omega⟩] at this
  simpa using this
end Go.Proofs.YtkdkeokldcehhaaGreatDoor
