/-
  Package store: a layout; slotFrom, Need. No conditions but the layout's own bounds.
-/
import Derived.Test.YtnmgkkjnjllpbaaGreatDoorMg9
import Derived.Test.YtnmgkkjnjllpbaaGreatDoorMg10
set_option maxRecDepth 100000
namespace Go.Proofs.YtnmgkkjnjllpbaaGreatDoor
open Go.ChangeShapes Go.WideShapes Go.ChangeAt Go.RowKit Pn Dk Sl

namespace Ly
/-- A layout's value; whether it can be; how many sectors are ahead of a slot. -/
def lyA (r k c : Int) : Array Value := #[.int .i64 r, .int .i64 k, .int .i64 c]
def lyV (r k c : Int) : Value := .agg (lyA r k c)
def lyO (r k c : Int) : Obj := .cells (lyA r k c) 23 (0, 0)
structure LyOk (r k c : Nat) : Prop where
  r4 : 4 ≤ r
  r128 : r ≤ 128
  even : r % 2 = 0
  k1 : 1 ≤ k
  k256 : k ≤ 256
  c1 : 1 ≤ c
  c64 : c ≤ 64
def fromN (r k c i : Nat) : Nat := 2 + r + i * c * szN k
def needN (r k c : Nat) : Nat := fromN r k c 2
/-- How many sectors any layout has; 0, if it can't be. -/
def okZ (r k c : Int) : Bool := decide (4 ≤ r) && decide (r ≤ 128) && decide (r % 2 = 0) && decide (1 ≤ k) && decide (k ≤ 256) && decide (1 ≤ c) && decide (c ≤ 64)
theorem okZ_iff {r k c : Int} : okZ r k c = true ↔ 4 ≤ r ∧ r ≤ 128 ∧ r % 2 = 0 ∧ 1 ≤ k ∧ k ≤ 256 ∧ 1 ≤ c ∧ c ≤ 64 := by
  unfold okZ
  simp only [Bool.and_eq_true, decide_eq_true_iff, and_assoc]
theorem LyOk.okZ {r k c : Nat} (h : LyOk r k c) : okZ r k c = true := okZ_iff.2 ⟨by have := h.r4; omega, by have := h.r128; omega, by have := h.even; omega, by have := h.k1; omega, by have := h.k256; omega, by have := h.c1; omega, by have := h.c64; omega⟩
theorem okZ_nat {r k c : Int} (h : Ly.okZ r k c = true) : ∃ r' k' c' : Nat, r = (r' : Int) ∧ k = (k' : Int) ∧ c = (c' : Int) ∧ LyOk r' k' c' := by
  obtain ⟨h1, h2, h3, h4, h5, h6, h7⟩ := okZ_iff.1 h
  exact ⟨r.toNat, k.toNat, c.toNat, by omega, by omega, by omega, by omega, by omega, by omega, by omega, by omega, by omega, by omega⟩
theorem szN_eleven {k : Nat} (h : k ≤ 256) : szN k ≤ 11 := by unfold szN; omega
theorem fromN_le {r k c i : Nat} (h : LyOk r k c) (hi : i ≤ 2) : i * c ≤ 128 ∧ i * c * szN k ≤ 1408 ∧ fromN r k c i ≤ 1538 := by
  have h1 := h.c64
  have h2 := h.r128
  have h0 : i * c ≤ 2 * 64 := Nat.mul_le_mul hi h1
  have h3 : i * c * szN k ≤ 2 * 64 * 11 := Nat.mul_le_mul h0 (szN_eleven h.k256)
  unfold fromN
  omega
section
variable {w : World} {b : Nat} {r k c : Int} (h : w.heap[b]? = some (lyO r k c))
include h
theorem ly0 : w.cell? ⟨b, 0, none⟩ = some (.int .i64 r) := by rw [cell_of_row w b 0 _ _ _ h]; rfl
theorem ly1 : w.cell? ⟨b, 1, none⟩ = some (.int .i64 k) := by rw [cell_of_row w b 1 _ _ _ h]; rfl
theorem ly2 : w.cell? ⟨b, 2, none⟩ = some (.int .i64 c) := by rw [cell_of_row w b 2 _ _ _ h]; rfl
end
end Ly
open Ly
set_option maxRecDepth 100000 in
set_option maxHeartbeats 1600000 in
theorem store_slotFrom (w : World) (r k c i : Nat) (h : LyOk r k c) (hi : i ≤ 2) : Calls Tryz.prog 44 #[lyV r k c, .int .i64 (i : Int)] w fun e w' => e = .returned (.int .i64 (fromN r k c i : Int)) ∧ Below w.heap.size w w' := by
  obtain ⟨b1, b2, b3⟩ := fromN_le h hi
  have hr := h.r128
  have HP := Lib.hid (fun W => slot_per W k h.k1 h.k256)
  have e1 : IntKind.i64.wrap ((i : Int) * (c : Int)) = ((i * c : Nat) : Int) := (IntWalk.i64_in _ (by rw [← Int.natCast_mul]; omega)).trans (Int.natCast_mul i c).symm
  have e2 : IntKind.i64.wrap (((i * c : Nat) : Int) * (szN k : Int)) = ((i * c * szN k : Nat) : Int) := (IntWalk.i64_in _ (by rw [← Int.natCast_mul]; omega)).trans (Int.natCast_mul (i * c) (szN k)).symm
  have e3 : IntKind.i64.wrap (2 + (r : Int)) = ((2 + r : Nat) : Int) := (IntWalk.i64_in _ (by omega)).trans (by omega)
  have e4 : IntKind.i64.wrap (((2 + r : Nat) : Int) + ((i * c * szN k : Nat) : Int)) = (fromN r k c i : Int) := (IntWalk.i64_in _ (by omega)).trans (by unfold fromN; omega)
  unfold lyV lyA
  clear h hi b1 b2 b3 hr
  generalize ((fromN r k c i : Nat) : Int) = tot at e4 ⊢
  generalize ((i * c * szN k : Nat) : Int) = m2 at e2 e4
  generalize ((i * c : Nat) : Int) = m1 at e1 e2
  generalize ((2 + r : Nat) : Int) = m3 at e3 e4
  generalize (szN k : Int) = sz at e2 HP
  generalize (i : Int) = ii at e1 ⊢
  generalize (r : Int) = ri at e3 ⊢
  generalize (k : Int) = ki at HP ⊢
  generalize (c : Int) = ci at e1 ⊢
  go_enter Tryz.func44, Tryz.ntmps44
  go_wp2_with (fail)
  have HB := Lib.hid (show Below w.heap.size w (w.alloc (lyO ri ki ci)).drew from below_drewN ((Below.refl _ _).alloc (Nat.le_refl _) _) 1)
  have HH := Lib.hid (show (w.alloc (lyO ri ki ci)).drew.heap[w.heap.size]? = some (lyO ri ki ci) from heap_alloc_new w _)
  have k0 := And.intro (ly0 HH.out) (And.intro (ly1 HH.out) (ly2 HH.out))
  go_region_held3 (fun W : World => W.cell? ⟨w.heap.size, 0, none⟩ = some (.int .i64 ri) ∧ W.cell? ⟨w.heap.size, 1, none⟩ = some (.int .i64 ki) ∧ W.cell? ⟨w.heap.size, 2, none⟩ = some (.int .i64 ci)) (first | exact k0 | assumption) (first
    | (go_at_call 43; (with_reducible refine (HP.out _).mono ?_); rintro e w2 ⟨rfl, b2⟩; have B2 := Lib.hid (HB.out.trans (b2.mono HB.out.size)); have hh2 := (b2.block w.heap.size (by simp)).trans HH.out; have hs := And.intro (ly0 hh2) (And.intro (ly1 hh2) (ly2 hh2)); clear b2 hh2))
  go_wp2_with (fail)
  refine bodyPost_ret (results_tmp rfl _ _ _) rfl ?_
  exact ⟨rfl, B2.out⟩
set_option maxRecDepth 100000 in
set_option maxHeartbeats 1600000 in
theorem store_need (w : World) (r k c : Nat) (h : LyOk r k c) : Calls Tryz.prog 12 #[lyV r k c] w fun e w' => e = .returned (.int .i64 (needN r k c : Int)) ∧ Below w.heap.size w w' := by
  have HP := Lib.hid (fun W => slot_per W k h.k1 h.k256)
  have HF := Lib.hid (fun W => store_slotFrom W r k c 2 h (Nat.le_refl _))
  have h2z := szN_two k
  have h1 := h.r4
  have h2 := h.r128
  have h3 := h.even
  have h4 := h.c1
  have h5 := h.c64
  have t1 : decide ((r : Int) < 4) = false := decide_eq_false (by omega)
  have t2 : decide ((128 : Int) < (r : Int)) = false := decide_eq_false (by omega)
  have t3 : (r : Int).tmod 2 = 0 := by rw [Int.tmod_eq_emod_of_nonneg (by omega)]; omega
  have t4 : decide ((c : Int) < 1) = false := decide_eq_false (by omega)
  have t5 : decide ((64 : Int) < (c : Int)) = false := decide_eq_false (by omega)
  have t6 : ((szN k : Int) == 0) = false := beq_eq_false_iff_ne.2 (by omega)
  show Calls Tryz.prog _ _ w fun e w' => e = .returned (.int .i64 (fromN r k c 2 : Int)) ∧ _
  unfold lyV lyA at HF ⊢
  clear h h1 h2 h3 h4 h5 h2z
  generalize ((fromN r k c 2 : Nat) : Int) = tot at HF ⊢
  generalize (szN k : Int) = sz at t6 HP
  generalize (r : Int) = ri at t1 t2 t3 HF ⊢
  generalize (k : Int) = ki at HP HF ⊢
  generalize (c : Int) = ci at t4 t5 HF ⊢
  go_enter Tryz.func12, Tryz.ntmps12
  go_wp2_with (fail)
  refine (HP.out _).mono ?_
  rintro e w1 ⟨rfl, b1⟩
  have hh := (b1.block w.heap.size (by simp)).trans (heap_alloc_new w (lyO ri ki ci))
  have B1 := Lib.hid (((Below.refl w.heap.size w).alloc (Nat.le_refl _) (lyO ri ki ci)).trans (b1.mono (by simp)))
  have d0 := ly0 hh
  have d1 := ly1 hh
  have d2 := ly2 hh
  clear b1 hh
  go_wp2_with (fail)
  refine (HF.out w1).mono ?_
  rintro e w2 ⟨rfl, b2⟩
  have B2 := Lib.hid (B1.out.trans (b2.mono B1.out.size))
  clear b2
  go_wp2_with (fail)
  refine bodyPost_ret (results_tmp rfl _ _ _) rfl ?_
  exact ⟨rfl, B2.out⟩
set_option maxRecDepth 100000 in
set_option maxHeartbeats 1600000 in
theorem store_need_not (w : World) (r k c : Int) (h : okZ r k c = false) : Calls Tryz.prog 12 #[lyV r k c] w fun e w' => e = .returned (.int .i64 0) ∧ Below w.heap.size w w' := by
  have HB := Lib.hid ((Below.refl w.heap.size w).alloc (Nat.le_refl _) (lyO r k c))
  have H := Lib.hid h
  unfold lyV lyA
  clear h
  by_cases h1 : r < 4
  · have t1 : decide (r < 4) = true := decide_eq_true h1
    go_enter Tryz.func12, Tryz.ntmps12
    go_wp2_with (fail)
    exact bodyPost_ret (results_tmp rfl _ _ _) rfl ⟨rfl, HB.out⟩
  have t1 : decide (r < 4) = false := decide_eq_false h1
  by_cases h2 : 128 < r
  · have t2 : decide (128 < r) = true := decide_eq_true h2
    go_enter Tryz.func12, Tryz.ntmps12
    go_wp2_with (fail)
    exact bodyPost_ret (results_tmp rfl _ _ _) rfl ⟨rfl, HB.out⟩
  have t2 : decide (128 < r) = false := decide_eq_false h2
  by_cases h3 : ¬ r % 2 = 0
  · have t3 : r.tmod 2 = 1 := by rw [Int.tmod_eq_emod_of_nonneg (by omega)]; omega
    go_enter Tryz.func12, Tryz.ntmps12
    go_wp2_with (fail)
    exact bodyPost_ret (results_tmp rfl _ _ _) rfl ⟨rfl, HB.out⟩
  have h3 : r % 2 = 0 := by omega
  have t3 : r.tmod 2 = 0 := by rw [Int.tmod_eq_emod_of_nonneg (by omega)]; omega
  by_cases h4 : c < 1
  · have t4 : decide (c < 1) = true := decide_eq_true h4
    go_enter Tryz.func12, Tryz.ntmps12
    go_wp2_with (fail)
    exact bodyPost_ret (results_tmp rfl _ _ _) rfl ⟨rfl, HB.out⟩
  have t4 : decide (c < 1) = false := decide_eq_false h4
  by_cases h5 : 64 < c
  · have t5 : decide (64 < c) = true := decide_eq_true h5
    go_enter Tryz.func12, Tryz.ntmps12
    go_wp2_with (fail)
    exact bodyPost_ret (results_tmp rfl _ _ _) rfl ⟨rfl, HB.out⟩
  have t5 : decide (64 < c) = false := decide_eq_false h5
  have HP := Lib.hid (fun W => slot_per_not W k (by
    refine Classical.byContradiction fun hn => ?_
    have := H.out
    rw [okZ_iff.2 ⟨by omega, by omega, h3, by omega, by omega, by omega, by omega⟩] at this
    cases this))
  go_enter Tryz.func12, Tryz.ntmps12
  go_wp2_with (fail)
  refine (HP.out _).mono ?_
  rintro e w1 ⟨rfl, rfl⟩
  go_wp2_with (fail)
  exact bodyPost_ret (results_tmp rfl _ _ _) rfl ⟨rfl, HB.out⟩
set_option maxRecDepth 100000 in
set_option maxHeartbeats 1600000 in
/-- Whether a record has room for a text. -/
theorem store_fits (w : World) (r : Nat) (k c : Int) (hr : r ≤ 4096) (s : ByteArray) (hs : s.size ≤ maxLen) : Calls Tryz.prog 36 #[lyV (r : Int) k c, .string s] w fun e w' => e = .returned (.bool (Tw.fitB r s)) ∧ Below w.heap.size w w' := by
  have HB := Lib.hid ((Below.refl w.heap.size w).alloc (Nat.le_refl _) (lyO (r : Int) k c))
  unfold lyV lyA
  by_cases h4 : s.size ≤ 1024
  · have x1 : (s.size : Int) ≤ 1024 := by omega
    have t1 : decide ((s.size : Int) ≤ 1024) = true := decide_eq_true x1
    have HS := Lib.hid (fun W => seal_size W s (by omega))
    have e2 : wrap64 ((r / 2 : Nat) : Int) = ((r / 2 : Nat) : Int) := IntWalk.wrap64_in _ (by omega)
    have e3 : (r : Int).tdiv 2 = ((r / 2 : Nat) : Int) := by
      rw [Int.tdiv_eq_ediv_of_nonneg (by omega)]
      omega
    have q : Tw.fitB r s = decide ((szN s.size : Int) ≤ ((r / 2 : Nat) : Int)) := by
      unfold Tw.fitB
      rw [decide_eq_true h4, Bool.true_and]
      by_cases h : szN s.size ≤ r / 2
      · rw [decide_eq_true h, decide_eq_true (by omega)]
      · rw [decide_eq_false h, decide_eq_false (by omega)]
    rw [q]
    clear q
    generalize ((r / 2 : Nat) : Int) = hf at e2 e3 ⊢
    generalize (szN s.size : Int) = z at HS ⊢
    generalize (r : Int) = ri at e2 e3 HB ⊢
    go_enter Tryz.func36, Tryz.ntmps36
    go_wp2_with (fail)
    go_quiet ((go_at_call 61; exact quiet_here (HS.out _)))
    go_wp2_with (fail)
    exact bodyPost_ret (results_tmp rfl _ _ _) rfl ⟨rfl, below_drewN HB.out _⟩
  · have t1 : decide ((s.size : Int) ≤ 1024) = false := decide_eq_false (by omega)
    have q : Tw.fitB r s = false := by unfold Tw.fitB; rw [decide_eq_false h4]; rfl
    unfold maxLen at hs
    have hs' : (s.size : Int) ≤ 9223372036854775807 := by omega
    rw [q]
    clear q
    generalize (r : Int) = ri at HB ⊢
    go_enter Tryz.func36, Tryz.ntmps36
    go_wp2_with (fail)
    go_quiet (fail)
    go_wp2_with (fail)
    exact bodyPost_ret (results_tmp rfl _ _ _) rfl ⟨rfl, below_drewN HB.out _⟩
end Go.Proofs.YtnmgkkjnjllpbaaGreatDoor
