/-
  Package vecs: a table's Row. Conditions: the table's numbers are there.
-/
import Derived.Test.YtgenpfhcbopokaaVc1
import Derived.Deep.OwnRows
namespace Go.Proofs.Ytgenpfhcbopokaa
open Go.ChangeShapes Go.WideShapes Go.ChangeAt Go.RowKit Nm Vc

section
variable (w : World) (x y at_ : Int) (A : Option Addr) (n c : Nat)
set_option maxRecDepth 100000 in
set_option maxHeartbeats 800000 in
theorem table_row_not (h : goodB x y n = false ∨ at_ < 0 ∨ x ≤ at_) : Calls Try.prog 22 #[tbV x y A n c, .int .i64 at_] w fun e w' => e = .returned (.slice none 0 0) ∧ Below w.heap.size w w' := by
  have HG := Lib.hid (fun W => vecs_good x y A n c W)
  have B0 := Lib.hid ((Below.refl w.heap.size w).alloc (Nat.le_refl _) (tbO x y A n c))
  have N0 := Lib.hid (heap_alloc_new w (tbO x y A n c))
  have H := Lib.hid h
  clear h
  unfold tbV tbA at HG ⊢
  cases hg : goodB x y n with
  | false =>
    rw [hg] at HG
    go_enter Try.func22, Try.ntmps22
    go_wp2_with (fail)
    refine (HG.out _).mono ?_
    rintro e w1 ⟨rfl, b1⟩
    have B1 := Lib.hid (B0.out.trans (b1.mono (by simp)))
    clear b1
    go_wp2_with (fail)
    refine bodyPost_ret (results_tmp rfl _ _ _) rfl ?_
    exact ⟨rfl, B1.out⟩
  | true =>
    rw [hg] at HG
    have h2 : at_ < 0 ∨ x ≤ at_ := by
      rcases H.out with h | h
      · rw [hg] at h; cases h
      · exact h
    by_cases h0 : at_ < 0
    · have t0 : decide (at_ < 0) = true := decide_eq_true h0
      clear h2
      go_enter Try.func22, Try.ntmps22
      go_wp2_with (fail)
      refine (HG.out _).mono ?_
      rintro e w1 ⟨rfl, b1⟩
      have B1 := Lib.hid (B0.out.trans (b1.mono (by simp)))
      clear b1
      go_wp2_with (fail)
      refine bodyPost_ret (results_tmp rfl _ _ _) rfl ?_
      exact ⟨rfl, B1.out⟩
    · have t0 : decide (at_ < 0) = false := decide_eq_false h0
      have h1 : x ≤ at_ := h2.resolve_left h0
      have t1 : decide (x ≤ at_) = true := decide_eq_true h1
      clear h2
      go_enter Try.func22, Try.ntmps22
      go_wp2_with (fail)
      refine (HG.out _).mono ?_
      rintro e w1 ⟨rfl, b1⟩
      have B1 := Lib.hid (B0.out.trans (b1.mono (by simp)))
      have d0 := tb0 ((b1.block _ (by simp)).trans N0.out)
      clear b1
      go_wp2_with (fail)
      refine bodyPost_ret (results_tmp rfl _ _ _) rfl ?_
      exact ⟨rfl, B1.out⟩
end
theorem vc_less (a b : Nat) (h : a < b) : b - ((a : Int) + 1).toNat < b - (a : Int).toNat := by omega
theorem vc_add_i (a b : Nat) (h : a + b < 1000000) : IntKind.i64.wrap ((a : Int) + (b : Int)) = ((a + b : Nat) : Int) := (IntWalk.i64_in _ (by omega)).trans (Int.natCast_add a b).symm
theorem vc_add_w (a b : Nat) (h : a + b < 1000000) : wrap64 ((a : Int) + (b : Int)) = ((a + b : Nat) : Int) := (IntWalk.wrap64_in _ (by omega)).trans (Int.natCast_add a b).symm
theorem vc_mul_i (a b : Nat) (h : a * b < 1000000) : IntKind.i64.wrap ((a : Int) * (b : Int)) = ((a * b : Nat) : Int) := (IntWalk.i64_in _ (by rw [← Int.natCast_mul]; omega)).trans (Int.natCast_mul a b).symm
theorem vc_mul_w (a b : Nat) (h : a * b < 1000000) : wrap64 ((a : Int) * (b : Int)) = ((a * b : Nat) : Int) := (IntWalk.wrap64_in _ (by rw [← Int.natCast_mul]; omega)).trans (Int.natCast_mul a b).symm
section
variable (w : World) (x y k : Nat) (A : Option Addr) (n c : Nat) (D : List Int)
set_option maxRecDepth 100000 in
set_option maxHeartbeats 1600000 in
theorem table_row (h : goodB (x : Int) (y : Int) n = true) (hD : D.length = n) (hk : k < x) (hA : KIn .i8 w A D) (hI : I8 D) :
    Calls Try.prog 22 #[tbV (x : Int) (y : Int) A n c, .int .i64 (k : Int)] w (RowSays w (fun v => v) (rowD D y k)) := by
  have HG := Lib.hid (fun W => vecs_good (x : Int) (y : Int) A n c W)
  have B0 := Lib.hid ((Below.refl w.heap.size w).alloc (Nat.le_refl _) (tbO (x : Int) (y : Int) A n c))
  have N0 := Lib.hid (heap_alloc_new w (tbO (x : Int) (y : Int) A n c))
  have HA := Lib.hid hA
  have HI8 := Lib.hid hI
  clear hI
  rw [h] at HG
  obtain ⟨hx, hy, hxy⟩ := goodB_iff.1 h
  have hy2 : y ≤ 64 := by omega
  have hy1 : 1 ≤ y := by omega
  have hx2 : x ≤ 64 := by omega
  have hn : n = x * y := by rw [← Int.natCast_mul] at hxy; omega
  have hky : k * y + y ≤ n := by
    rw [hn, ← Nat.succ_mul]
    exact Nat.mul_le_mul_right _ hk
  have hxy2 : k * y ≤ 64 * 64 := Nat.mul_le_mul (by omega) hy2
  have t0 : decide ((k : Int) < 0) = false := decide_eq_false (by omega)
  have t1 : decide ((x : Int) ≤ (k : Int)) = false := decide_eq_false (by omega)
  have HE := Lib.hid (And.intro (vc_mul_i k y (by omega)) (vc_mul_w k y (by omega)))
  obtain ⟨i0, hi, hz0, hz1, hz2⟩ := info_parts info_int
  have HI := Lib.hid hi
  have HZ0 := Lib.hid hz0
  have HZ1 := Lib.hid hz1
  have HZ2 := Lib.hid hz2
  have HL := Lib.hid hD
  have HLR := Lib.hid (rowD_length D y k)
  have HAT := Lib.hid (rowD_at D y k)
  clear hA h hi hz0 hz1 hz2 hD hx hy hxy hn
  generalize k * y = ky at HE hky hxy2 HAT
  generalize rowD D y k = R at HLR HAT ⊢
  unfold tbV tbA at HG ⊢
  go_enter Try.func22, Try.ntmps22
  go_wp2_with (fail)
  refine (HG.out _).mono ?_
  rintro e w1 ⟨rfl, b1⟩
  have hs1 : w.heap.size + 1 ≤ w1.heap.size := by have := b1.size; simp at this; omega
  have B1 := Lib.hid (B0.out.trans (b1.mono (by simp)))
  have N1 := Lib.hid ((b1.block _ (by simp)).trans N0.out)
  clear b1 HG B0 N0
  have d0 := tb0 N1.out
  have d1 := tb1 N1.out
  go_wp2_with (at_make; refine wpList_make_row _ rfl _ _ 50 rfl 3 i0 (.int .i64 0) Try.underlying50 HI.out HZ0.out HZ1.out rfl .i64 .i64 y rfl rfl (by rw [HZ2.out]; omega) (by omega) ?_)
  have HR0 := Lib.hid (show (w1.alloc (.cells (madeCells #[.int .i64 0] y) 3)).rowIs w1.heap.size 3 y (prt .i64 R 0) from (World.rowIs_made w1 (.int .i64 0) y 3).congr fun i _ => by rw [prt_none])
  have HB0 := Lib.hid (B1.out.alloc B1.out.size (.cells (madeCells #[.int .i64 0] y) 3))
  have HN0 := Lib.hid ((heap_alloc_old _ (.cells (madeCells #[.int .i64 0] y) 3) (show w.heap.size < w1.heap.size by omega)).trans N1.out)
  clear d0 d1 N1 B1
  obtain ⟨g, hg⟩ : ∃ g, g = w1.heap.size := ⟨_, rfl⟩
  rw [← hg] at HR0 ⊢
  have hgw : w.heap.size < g := by omega
  generalize w1.alloc (.cells (madeCells #[.int .i64 0] y) 3) = w2 at HR0 HB0 HN0 ⊢
  clear hg hs1
  go_loopw [25] (fun i wr => ∃ j : Nat, i = .int .i64 (j : Int) ∧ j ≤ y ∧ wr.rowIs g 3 y (prt .i64 R j) ∧ Below w.heap.size w wr ∧ wr.heap[w.heap.size]? = some (tbO (x : Int) (y : Int) A n c)) (fun i _ => match i with | .int _ k => y - k.toNat | _ => 0)
  case atStart => exact ⟨0, rfl, Nat.zero_le _, HR0.out, HB0.out, HN0.out⟩
  case round =>
    clear HR0 HB0 HN0
    obtain ⟨j, rfl, hj, hr, hb, hn⟩ := hrel
    have HR := Lib.hid hr
    have HB := Lib.hid hb
    have HN := Lib.hid hn
    clear hr hb hn
    have x2 : 0 ≤ (j : Int) := by omega
    by_cases hlt : j < y
    · have x0 : (j : Int) < (y : Int) := by omega
      have x1 : decide ((j : Int) < (y : Int)) = true := decide_eq_true x0
      have hsum : ky + j < 1000000 := by omega
      have y1 : 0 ≤ ((ky + j : Nat) : Int) := by omega
      have y2 : ((ky + j : Nat) : Int) < (n : Int) := by omega
      have hle : w.heap.size ≤ g := by omega
      have hne : w.heap.size ≠ g := by omega
      have hD := HL.out
      have hlt2 : ky + j < D.length := by omega
      have hj1 : j + 1 ≤ y := by omega
      obtain ⟨pb, po, rfl, hcell⟩ := (HA.out.below HB.out (Nat.le_refl _)).at hlt2
      have f1 := HR.out.frozen j
      have c1 := HR.out.cell hlt
      have d1 := tb1 HN.out
      have d2 := tb2 HN.out
      have HP := Lib.hid (prt_set HR.out (HAT.out j hlt))
      have HBS := Lib.hid (HB.out.setCell (p := ⟨g, j, none⟩) hle (.int .i64 (D.getD (ky + j) 0)))
      have HNS := Lib.hid ((heap_setCell_other wr ⟨g, j, none⟩ w.heap.size (.int .i64 (D.getD (ky + j) 0)) hne).trans HN.out)
      have x3 := IntWalk.wrap64_in ((j : Int) + 1) (by omega)
      have e5 := HI8.out.wrap hlt2
      have e1 := HE.out.1
      have e2 := HE.out.2
      have e3 := vc_add_i ky j hsum
      have e4 := vc_add_w ky j hsum
      generalize D.getD (ky + j) 0 = z at hcell HP HBS HNS e5
      generalize ky + j = m at e3 e4 hcell y1 y2 hsum
      clear hD hlt2
      go_wp2_with (fail)
      exact ⟨⟨j + 1, rfl, hj1, HP.out, HBS.out, HNS.out⟩, vc_less j y hlt⟩
    · have hke : j = y := by omega
      have x0 : ¬ (j : Int) < (y : Int) := by omega
      have x1 : decide ((j : Int) < (y : Int)) = false := decide_eq_false x0
      go_wp2_with (fail)
      refine bodyPost_ret (results_tmp rfl _ _ _) rfl ?_
      refine ⟨some ⟨g, 0, none⟩, y, ?_, KIn.row (HR.out.congr fun i hi => by rw [hke]; exact prt_all _ _ _ _ hi) (Nat.le_of_eq HLR.out), HB.out⟩
      rw [HLR.out]
      rfl
end
end Go.Proofs.Ytgenpfhcbopokaa
