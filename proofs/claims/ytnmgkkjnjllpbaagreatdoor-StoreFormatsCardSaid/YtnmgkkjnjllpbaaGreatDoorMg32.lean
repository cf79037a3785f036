/-
  The document's own answer for stores: Need, Super; a chunk's sectors; a layout in its form. Conditions: none but the layout's own bounds.
-/
import Derived.Test.YtnmgkkjnjllpbaaGreatDoorMg16
import Derived.Test.YtnmgkkjnjllpbaaGreatDoorMg30
import Derived.BigQuiet
set_option maxRecDepth 100000
namespace Go.Proofs.YtnmgkkjnjllpbaaGreatDoor
open Go.ChangeShapes Go.WideShapes Go.ChangeAt Go.RowKit Pn Dk Sl Ly Tw

namespace Ly
def rlyO (r k c : Int) : Obj := .cells (lyA r k c) 29 (0, 0)
end Ly
theorem rlyI (r k c : Int) : (Tryz.prog.info? 29).map (·.size) = some (lyA r k c).size := by kernel_rfl
theorem ref9_per (w : World) (k : Nat) (h1 : 1 ≤ k) (h2 : k ≤ 256) : Calls Tryz.prog 34 #[.int .i64 (k : Int)] w fun e w' => e = .returned (.int .i64 (szN k : Int)) ∧ w = w' := by
  have l0 : 1 ≤ (k : Int) := by omega
  have l1 : (k : Int) ≤ 256 := by omega
  go_enter Tryz.func34, Tryz.ntmps34
  go_wp2
  refine bodyPost_ret (results_tmp rfl _ _ _) rfl ?_
  exact ⟨retI6 (by unfold szN; omega), rfl⟩
theorem ref9_per_not (w : World) (k : Int) (h : k < 1 ∨ 256 < k) : Calls Tryz.prog 34 #[.int .i64 k] w fun e w' => e = .returned (.int .i64 0) ∧ w = w' := by
  by_cases h1 : k < 1
  · have t1 : decide (k < 1) = true := decide_eq_true h1
    clear h
    go_enter Tryz.func34, Tryz.ntmps34
    go_wp2
    exact bodyPost_ret (results_tmp rfl _ _ _) rfl ⟨rfl, rfl⟩
  · have t1 : decide (k < 1) = false := decide_eq_false h1
    have h2 : 256 < k := by omega
    have t2 : decide (256 < k) = true := decide_eq_true h2
    clear h
    go_enter Tryz.func34, Tryz.ntmps34
    go_wp2
    exact bodyPost_ret (results_tmp rfl _ _ _) rfl ⟨rfl, rfl⟩
set_option maxRecDepth 100000 in
set_option maxHeartbeats 1600000 in
theorem law_form (w : World) (r k c : Int) : Calls Tryz.prog 10 #[lyV r k c] w fun e w' => e = .returned (lyV r k c) ∧ Below w.heap.size w w' := by
  have HI := Lib.hid (rlyI r k c)
  unfold lyV lyA
  go_enter Tryz.func10, Tryz.ntmps10
  go_wp2_with (fail)
  refine bodyPost_ret (results_cell_row rfl _ _ _ 29 _ _ _ rfl (show _ = some (rlyO r k c) from ?_) Tryz.underlying29 rfl HI.out) rfl ?_
  · have := heap_alloc_new (w.alloc (lyO r k c)) (rlyO r k c)
    rwa [World.size_alloc] at this
  · exact ⟨rfl, ((Below.refl _ _).alloc (Nat.le_refl _) _).alloc (by simp) _⟩
set_option maxRecDepth 100000 in
set_option maxHeartbeats 1600000 in
theorem ref10_need (w : World) (r k c : Nat) (h : LyOk r k c) : Calls Tryz.prog 9 #[lyV r k c] w fun e w' => e = .returned (.int .i64 (needN r k c : Int)) ∧ Below w.heap.size w w' := by
  obtain ⟨b1, b2, b3⟩ := fromN_le h (Nat.le_refl 2)
  have HP := Lib.hid (fun W => ref9_per W k h.k1 h.k256)
  have h2z := szN_two k
  have h1 := h.r4
  have h2 := h.r128
  have h3 := h.even
  have h4 := h.c1
  have h5 := h.c64
  have t1 : decide ((r : Int) < 4) = false := decide_eq_false (by omega)
  have t2 : decide ((128 : Int) < (r : Int)) = false := decide_eq_false (by omega)
  have t3 : (r : Int).tmod 2 = 0 := by rw [Int.tmod_eq_emod_of_nonneg (by omega)]; omega
  have t4 : decide ((c : Int) < 1) = false := decide_eq_false (by omega)
  have t5 : decide ((64 : Int) < (c : Int)) = false := decide_eq_false (by omega)
  have t6 : ((szN k : Int) == 0) = false := beq_eq_false_iff_ne.2 (by omega)
  have e1 : wrap64 (2 * (c : Int)) = ((2 * c : Nat) : Int) := (IntWalk.wrap64_in _ (by omega)).trans (by omega)
  have e2 : wrap64 (((2 * c : Nat) : Int) * (szN k : Int)) = ((2 * c * szN k : Nat) : Int) := (IntWalk.wrap64_in _ (by rw [← Int.natCast_mul]; omega)).trans (Int.natCast_mul (2 * c) (szN k)).symm
  have e3 : wrap64 (2 + (r : Int)) = ((2 + r : Nat) : Int) := (IntWalk.wrap64_in _ (by omega)).trans (by omega)
  have e4 : wrap64 (((2 + r : Nat) : Int) + ((2 * c * szN k : Nat) : Int)) = (needN r k c : Int) := (IntWalk.wrap64_in _ (by omega)).trans (by unfold needN fromN; omega)
  have t7 : decide ((4096 : Int) < (needN r k c : Int)) = false := decide_eq_false (by show ¬ (4096 : Int) < (fromN r k c 2 : Int); omega)
  have HB := Lib.hid ((Below.refl w.heap.size w).alloc (Nat.le_refl _) (rlyO r k c))
  unfold lyV lyA
  clear h h1 h2 h3 h4 h5 h2z b1 b2 b3
  generalize ((needN r k c : Nat) : Int) = tot at e4 t7 ⊢
  generalize ((2 * c * szN k : Nat) : Int) = m2 at e2 e4
  generalize ((2 * c : Nat) : Int) = m1 at e1 e2
  generalize ((2 + r : Nat) : Int) = m3 at e3 e4
  generalize (szN k : Int) = sz at t6 HP e2
  generalize (r : Int) = ri at t1 t2 t3 e3 HB ⊢
  generalize (k : Int) = ki at HP HB ⊢
  generalize (c : Int) = ci at t4 t5 e1 HB ⊢
  go_enter Tryz.func9, Tryz.ntmps9
  go_wp2_with (fail)
  refine (HP.out _).mono ?_
  rintro e w1 ⟨rfl, rfl⟩
  go_wp2_with (fail)
  go_quiet ((go_at_call 34; exact quiet_here (HP.out _)))
  go_wp2_with (fail)
  refine bodyPost_ret (results_tmp rfl _ _ _) rfl ?_
  exact ⟨retI6 e4, below_drewN HB.out _⟩
set_option maxRecDepth 100000 in
set_option maxHeartbeats 1600000 in
theorem ref10_need_not (w : World) (r k c : Int) (h : okZ r k c = false) : Calls Tryz.prog 9 #[lyV r k c] w fun e w' => e = .returned (.int .i64 0) ∧ Below w.heap.size w w' := by
  have HB := Lib.hid ((Below.refl w.heap.size w).alloc (Nat.le_refl _) (rlyO r k c))
  have H := Lib.hid h
  unfold lyV lyA
  clear h
  by_cases h1 : r < 4
  · have t1 : decide (r < 4) = true := decide_eq_true h1
    go_enter Tryz.func9, Tryz.ntmps9
    go_wp2_with (fail)
    exact bodyPost_ret (results_tmp rfl _ _ _) rfl ⟨rfl, HB.out⟩
  have t1 : decide (r < 4) = false := decide_eq_false h1
  by_cases h2 : 128 < r
  · have t2 : decide (128 < r) = true := decide_eq_true h2
    go_enter Tryz.func9, Tryz.ntmps9
    go_wp2_with (fail)
    exact bodyPost_ret (results_tmp rfl _ _ _) rfl ⟨rfl, HB.out⟩
  have t2 : decide (128 < r) = false := decide_eq_false h2
  by_cases h3 : ¬ r % 2 = 0
  · have t3 : r.tmod 2 = 1 := by rw [Int.tmod_eq_emod_of_nonneg (by omega)]; omega
    go_enter Tryz.func9, Tryz.ntmps9
    go_wp2_with (fail)
    exact bodyPost_ret (results_tmp rfl _ _ _) rfl ⟨rfl, HB.out⟩
  have h3 : r % 2 = 0 := by omega
  have t3 : r.tmod 2 = 0 := by rw [Int.tmod_eq_emod_of_nonneg (by omega)]; omega
  by_cases hk : k < 1 ∨ 256 < k
  · have HP := Lib.hid (fun W => ref9_per_not W k hk)
    clear hk
    go_enter Tryz.func9, Tryz.ntmps9
    go_wp2_with (fail)
    refine (HP.out _).mono ?_
    rintro e w1 ⟨rfl, rfl⟩
    go_wp2_with (fail)
    exact bodyPost_ret (results_tmp rfl _ _ _) rfl ⟨rfl, HB.out⟩
  obtain ⟨kn, rfl⟩ : ∃ kn : Nat, k = (kn : Int) := ⟨k.toNat, by omega⟩
  have HP := Lib.hid (fun W => ref9_per W kn (by omega) (by omega))
  have h2z := szN_two kn
  have t6 : ((szN kn : Int) == 0) = false := beq_eq_false_iff_ne.2 (by omega)
  have hc : c < 1 ∨ 64 < c := by
    refine Classical.byContradiction fun hn => ?_
    have := H.out
    rw [okZ_iff.2 ⟨by omega, by omega, h3, by omega, by omega, by omega, by omega⟩] at this
    cases this
  clear hk h2z H
  generalize (szN kn : Int) = sz at t6 HP
  generalize (kn : Int) = ki at HP HB ⊢
  by_cases h4 : c < 1
  · have t4 : decide (c < 1) = true := decide_eq_true h4
    go_enter Tryz.func9, Tryz.ntmps9
    go_wp2_with (fail)
    refine (HP.out _).mono ?_
    rintro e w1 ⟨rfl, rfl⟩
    go_wp2_with (fail)
    exact bodyPost_ret (results_tmp rfl _ _ _) rfl ⟨rfl, HB.out⟩
  · have t4 : decide (c < 1) = false := decide_eq_false h4
    have t5 : decide (64 < c) = true := decide_eq_true (by omega)
    go_enter Tryz.func9, Tryz.ntmps9
    go_wp2_with (fail)
    refine (HP.out _).mono ?_
    rintro e w1 ⟨rfl, rfl⟩
    go_wp2_with (fail)
    exact bodyPost_ret (results_tmp rfl _ _ _) rfl ⟨rfl, HB.out⟩
theorem super_cat (r k c : Int) : (⟨(numL r).toArray⟩ : ByteArray) ++ ⟨(numL k).toArray⟩ ++ ⟨(numL c).toArray⟩ = superB r k c := by
  apply ByteArray.ext
  apply Array.toList_inj.1
  simp [superB, superL, ByteArray.data_append]
set_option maxRecDepth 100000 in
set_option maxHeartbeats 1600000 in
theorem ref10_super (w : World) (r k c : Nat) (h : LyOk r k c) : Calls Tryz.prog 18 #[lyV r k c] w fun e w' => e = .returned (.string (catB 1 (sealL (superB r k c)) 2)) ∧ Below w.heap.size w w' := by
  have h1 := h.r128
  have h2 := h.k256
  have h3 := h.c64
  have HR := Lib.hid (fun W => refw_num W (r : Int) (by omega) (by omega))
  have HK := Lib.hid (fun W => refw_num W (k : Int) (by omega) (by omega))
  have HC := Lib.hid (fun W => refw_num W (c : Int) (by omega) (by omega))
  have HBY := Lib.hid (fun W => show Calls Tryz.prog 15 #[.int .i64 1, .string (superB r k c)] W fun e w' => e = .returned (.tuple #[.string (catB 1 (sealL (superB r k c)) 2), .bool true]) ∧ Below W.heap.size W w' from by
    have hq := ref6_bytes W 1 (superB r k c) (by decide) (by decide) (by rw [superB_size]; decide)
    rw [superB_size] at hq
    exact hq)
  have HCT := Lib.hid (super_cat r k c)
  have s1 : (⟨(numL (r : Int)).toArray⟩ : ByteArray).size = 4 := by show (numL (r : Int)).toArray.size = 4; rw [List.size_toArray, numL_length]
  have s2 : (⟨(numL (k : Int)).toArray⟩ : ByteArray).size = 4 := by show (numL (k : Int)).toArray.size = 4; rw [List.size_toArray, numL_length]
  have s3 : (⟨(numL (c : Int)).toArray⟩ : ByteArray).size = 4 := by show (numL (c : Int)).toArray.size = 4; rw [List.size_toArray, numL_length]
  clear h h1 h2 h3
  unfold lyV lyA
  generalize numOk (r : Int) = o1 at HR
  generalize numOk (k : Int) = o2 at HK
  generalize numOk (c : Int) = o3 at HC
  generalize superB r k c = sup at HBY HCT ⊢
  generalize (⟨(numL (r : Int)).toArray⟩ : ByteArray) = q1 at HR HCT s1
  generalize (⟨(numL (k : Int)).toArray⟩ : ByteArray) = q2 at HK HCT s2
  generalize (⟨(numL (c : Int)).toArray⟩ : ByteArray) = q3 at HC HCT s3
  generalize catB 1 (sealL sup) 2 = out at HBY ⊢
  have n1 : ¬ 9223372036854775807 < q1.size + q2.size := by omega
  have n2 : ¬ 9223372036854775807 < (q1 ++ q2).size + q3.size := by rw [ByteArray.size_append]; omega
  have HB := Lib.hid ((Below.refl w.heap.size w).alloc (Nat.le_refl _) (rlyO r k c))
  have HH := Lib.hid (heap_alloc_new w (rlyO r k c))
  go_enter Tryz.func18, Tryz.ntmps18
  go_wp2_with (fail)
  refine (HR.out _).mono ?_
  rintro e w1 ⟨rfl, b1⟩
  have B1 := Lib.hid (HB.out.trans (b1.mono (by simp)))
  have H1 := Lib.hid ((b1.block w.heap.size (by simp)).trans HH.out)
  have d1 : w1.cell? ⟨w.heap.size, 1, none⟩ = some (.int .i64 (k : Int)) := by rw [cell_of_row w1 w.heap.size 1 _ _ _ H1.out]; rfl
  clear b1 HR
  go_wp2_with (fail)
  refine (HK.out w1).mono ?_
  rintro e w2 ⟨rfl, b2⟩
  have B2 := Lib.hid (B1.out.trans (b2.mono B1.out.size))
  have H2 := Lib.hid ((b2.block w.heap.size (Array.getElem?_eq_some_iff.1 H1.out).1).trans H1.out)
  have d2 : w2.cell? ⟨w.heap.size, 2, none⟩ = some (.int .i64 (c : Int)) := by rw [cell_of_row w2 w.heap.size 2 _ _ _ H2.out]; rfl
  clear b2 HK d1 H1 B1
  go_wp2_with (fail)
  refine (HC.out w2).mono ?_
  rintro e w3 ⟨rfl, b3⟩
  have B3 := Lib.hid (B2.out.trans (b3.mono B2.out.size))
  clear b3 HC d2 H2 B2
  go_wp2_with (fail)
  rw [HCT.out]
  refine (HBY.out w3).mono ?_
  rintro e w4 ⟨rfl, b4⟩
  have B4 := Lib.hid (B3.out.trans (b4.mono B3.out.size))
  clear b4
  go_wp2_with (fail)
  exact bodyPost_ret (results_tmp rfl _ _ _) rfl ⟨rfl, B4.out⟩
end Go.Proofs.YtnmgkkjnjllpbaaGreatDoor
