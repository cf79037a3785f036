/-
  Package vecs: a table's Times. Conditions: the table's numbers and the row's are there.
-/
import Derived.Test.YtclobdeaocjnoaaVc4
namespace Go.Proofs.Ytclobdeaocjnoaa
open Go.ChangeShapes Go.WideShapes Go.ChangeAt Go.RowKit Nm Vc

section
variable (w : World) (x y sh : Int) (A : Option Addr) (n c : Nat) (V : Option Addr) (m cv : Nat)
set_option maxRecDepth 100000 in
set_option maxHeartbeats 800000 in
theorem table_times_not (h : goodB x y n = false ∨ (m : Int) ≠ y) : Calls Try.prog 12 #[tbV x y A n c, .slice V m cv, .int .i64 sh] w fun e w' => e = .returned (.tuple #[.slice none 0 0, .int .i64 1]) ∧ Below w.heap.size w w' := by
  have HG := Lib.hid (fun W => vecs_good x y A n c W)
  have B0 := Lib.hid ((Below.refl w.heap.size w).alloc (Nat.le_refl _) (tbO x y A n c))
  have N0 := Lib.hid (heap_alloc_new w (tbO x y A n c))
  have H := Lib.hid h
  clear h
  unfold tbV tbA at HG ⊢
  cases hg : goodB x y n with
  | false =>
    rw [hg] at HG
    go_enter Try.func12, Try.ntmps12
    go_wp2_with (fail)
    refine (HG.out _).mono ?_
    rintro e w1 ⟨rfl, b1⟩
    have B1 := Lib.hid (B0.out.trans (b1.mono (by simp)))
    clear b1
    go_wp2_with (fail)
    refine bodyPost_ret (results_tmp2 rfl _ _ _) rfl ?_
    exact ⟨rfl, B1.out⟩
  | true =>
    rw [hg] at HG
    have h2 : (m : Int) ≠ y := by
      rcases H.out with h | h
      · rw [hg] at h; cases h
      · exact h
    have t1 : ((m : Int) == y) = false := beq_eq_false_iff_ne.2 h2
    go_enter Try.func12, Try.ntmps12
    go_wp2_with (fail)
    refine (HG.out _).mono ?_
    rintro e w1 ⟨rfl, b1⟩
    have B1 := Lib.hid (B0.out.trans (b1.mono (by simp)))
    have d0 := tb1 ((b1.block _ (by simp)).trans N0.out)
    clear b1
    go_wp2_with (fail)
    refine bodyPost_ret (results_tmp2 rfl _ _ _) rfl ?_
    exact ⟨rfl, B1.out⟩
end
section
variable (w : World) (x y : Nat) (sh : Int) (A : Option Addr) (n c : Nat) (D : List Int) (V : Option Addr) (cv : Nat) (zs : List Int)
set_option maxRecDepth 100000 in
set_option maxHeartbeats 1600000 in
theorem table_times (h : goodB (x : Int) (y : Int) n = true) (hD : D.length = n) (hA : KIn .i8 w A D) (hI : I8 D) (hz : zs.length = y) (hV : KIn .i64 w V zs) :
    Calls Try.prog 12 #[tbV (x : Int) (y : Int) A n c, .slice V y cv, .int .i64 sh] w (RowSays w (fun v => .tuple #[v, .int .i64 0]) (timesL D x y zs sh)) := by
  have HG := Lib.hid (fun W => vecs_good (x : Int) (y : Int) A n c W)
  have HRW := Lib.hid (fun W k hk ha => table_row W x y k A n c D h hD hk ha hI)
  have B0 := Lib.hid ((Below.refl w.heap.size w).alloc (Nat.le_refl _) (tbO (x : Int) (y : Int) A n c))
  have N0 := Lib.hid (heap_alloc_new w (tbO (x : Int) (y : Int) A n c))
  have HA := Lib.hid hA
  have HV := Lib.hid hV
  rw [h] at HG
  obtain ⟨hx, hy, hxy⟩ := goodB_iff.1 h
  have hy2 : y ≤ 64 := by omega
  have hy1 : 1 ≤ y := by omega
  have hx2 : x ≤ 64 := by omega
  have t1 : ((y : Int) == (y : Int)) = true := beq_self_eq_true _
  obtain ⟨i0, hi, hz0, hz1, hz2⟩ := info_parts info_int
  have HI := Lib.hid hi
  have HZ0 := Lib.hid hz0
  have HZ1 := Lib.hid hz1
  have HZ2 := Lib.hid hz2
  have HZL := Lib.hid hz
  have HRL := Lib.hid (rowD_length D y)
  have HLR := Lib.hid (timesL_length D x y zs sh)
  have HAT := Lib.hid (timesL_at D x y zs sh)
  obtain ⟨vb, vo, rfl, _⟩ := hV (by omega)
  clear hA h hi hz0 hz1 hz2 hD hx hy hxy hV hI hz
  generalize timesL D x y zs sh = R at HLR HAT ⊢
  generalize hrw : rowD D y = rw_ at HRW HAT HRL
  clear hrw
  unfold tbV tbA at HG HRW ⊢
  go_enter Try.func12, Try.ntmps12
  go_wp2_with (fail)
  refine (HG.out _).mono ?_
  rintro e w1 ⟨rfl, b1⟩
  have hs1 : w.heap.size + 1 ≤ w1.heap.size := by have := b1.size; simp at this; omega
  have B1 := Lib.hid (B0.out.trans (b1.mono (by simp)))
  have N1 := Lib.hid ((b1.block _ (by simp)).trans N0.out)
  clear b1 HG B0 N0
  have d0 := tb0 N1.out
  have d1 := tb1 N1.out
  go_wp2_with (at_make; refine wpList_make_row _ rfl _ _ 30 rfl 3 i0 (.int .i64 0) Try.underlying30 HI.out HZ0.out HZ1.out rfl .i64 .i64 x rfl rfl (by rw [HZ2.out]; omega) (by omega) ?_)
  have HR0 := Lib.hid (show (w1.alloc (.cells (madeCells #[.int .i64 0] x) 3)).rowIs w1.heap.size 3 x (prt .i64 R 0) from (World.rowIs_made w1 (.int .i64 0) x 3).congr fun i _ => by rw [prt_none])
  have HB0 := Lib.hid (B1.out.alloc B1.out.size (.cells (madeCells #[.int .i64 0] x) 3))
  have HN0 := Lib.hid ((heap_alloc_old _ (.cells (madeCells #[.int .i64 0] x) 3) (show w.heap.size < w1.heap.size by omega)).trans N1.out)
  clear d0 d1 N1 B1
  obtain ⟨g, hg⟩ : ∃ g, g = w1.heap.size := ⟨_, rfl⟩
  rw [← hg] at HR0 ⊢
  have hgw : w.heap.size < g := by omega
  generalize w1.alloc (.cells (madeCells #[.int .i64 0] x) 3) = w2 at HR0 HB0 HN0 ⊢
  clear hg hs1
  go_loopw [25] (fun i wr => ∃ j : Nat, i = .int .i64 (j : Int) ∧ j ≤ x ∧ wr.rowIs g 3 x (prt .i64 R j) ∧ Below w.heap.size w wr ∧ wr.heap[w.heap.size]? = some (tbO (x : Int) (y : Int) A n c)) (fun i _ => match i with | .int _ k => x - k.toNat | _ => 0)
  case atStart => exact ⟨0, rfl, Nat.zero_le _, HR0.out, HB0.out, HN0.out⟩
  case round =>
    clear HR0 HB0 HN0
    obtain ⟨j, rfl, hj, hr, hb, hn⟩ := hrel
    have HR := Lib.hid hr
    have HB := Lib.hid hb
    have HN := Lib.hid hn
    clear hr hb hn
    have x2 : 0 ≤ (j : Int) := by omega
    by_cases hlt : j < x
    · have x0 : (j : Int) < (x : Int) := by omega
      have x1 : decide ((j : Int) < (x : Int)) = true := decide_eq_true x0
      have d0 := tb0 HN.out
      have d1 := tb1 HN.out
      have d2 := tb2 HN.out
      have HM := Lib.hid (show y ≤ maxLen by unfold maxLen; omega)
      have HLT := Lib.hid (show j + 1 ≤ x ∧ w.heap.size ≤ g ∧ w.heap.size ≠ g by omega)
      have HDI := Lib.hid (dot_in (rw_ j) zs)
      have HFT := Lib.hid (show Fits (dot (rw_ j) zs) from ⟨by have := HDI.out; omega, by have := HDI.out; omega⟩)
      have h0y : 0 < (rw_ j).length := by rw [HRL.out j]; omega
      have HXJ := Lib.hid (HAT.out j hlt)
      go_wp2_with (fail)
      refine (HRW.out wr j hlt (HA.out.below HB.out (Nat.le_refl _))).mono ?_
      rintro e w3 ⟨A3, c3, rfl, k3, b3⟩
      obtain ⟨g3, o3, rfl, _⟩ := k3 h0y
      have HD1 := Lib.hid k3.holds
      have HB3 := Lib.hid (HB.out.trans (b3.mono HB.out.size))
      have HR3 := Lib.hid (HR.out.of_block (b3.block g HR.out.lt))
      have HN3 := Lib.hid ((b3.block w.heap.size (Array.getElem?_eq_some_iff.1 HN.out).1).trans HN.out)
      have HD2 := Lib.hid (HV.out.below HB3.out (Nat.le_refl _)).holds
      clear k3 b3 HR HB HN d0 d1 d2 h0y
      go_wp2_with (fail)
      refine (dot_any g3 o3 _ c3 vb vo y cv (rw_ j) zs w3 rfl HZL.out (by rw [HRL.out j]; exact HM.out) HM.out HD1.out HD2.out).mono ?_
      rintro e w4 ⟨rfl, d4, rfl⟩
      go_wp2_with (fail)
      refine (shift_any _ sh _ HFT.out).mono ?_
      rintro e w5 ⟨rfl, d5, rfl⟩
      go_wp2_with (fail)
      refine (sat_any _ _).mono ?_
      rintro e w6 ⟨rfl, rfl⟩
      rw [← HXJ.out]
      have HB4 := Lib.hid (below_drewN HB3.out (d4 + d5))
      have HR4 : Hid ((w3.drewN (d4 + d5)).rowIs g 3 x (prt .i64 R j)) := HR3
      have HN4 : Hid ((w3.drewN (d4 + d5)).heap[w.heap.size]? = some (tbO (x : Int) (y : Int) A n c)) := HN3
      clear HB3 HR3 HN3 HD1 HD2
      generalize w3.drewN (d4 + d5) = w7 at HB4 HR4 HN4 ⊢
      have f1 := HR4.out.frozen j
      have c1 := HR4.out.cell hlt
      have HP := Lib.hid (prt_set HR4.out (rfl : R.getD j 0 = R.getD j 0))
      have HBS := Lib.hid (HB4.out.setCell (p := ⟨g, j, none⟩) HLT.out.2.1 (.int .i64 (R.getD j 0)))
      have HNS := Lib.hid ((heap_setCell_other w7 ⟨g, j, none⟩ w.heap.size (.int .i64 (R.getD j 0)) HLT.out.2.2).trans HN4.out)
      have x3 := IntWalk.wrap64_in ((j : Int) + 1) (by omega)
      generalize R.getD j 0 = z at HP HBS HNS ⊢
      go_wp2_with (fail)
      exact ⟨⟨j + 1, rfl, HLT.out.1, HP.out, HBS.out, HNS.out⟩, vc_less j x hlt⟩
    · have hke : j = x := by omega
      have x0 : ¬ (j : Int) < (x : Int) := by omega
      have x1 : decide ((j : Int) < (x : Int)) = false := decide_eq_false x0
      go_wp2_with (fail)
      refine bodyPost_ret (results_tmp2 rfl _ _ _) rfl ?_
      refine ⟨some ⟨g, 0, none⟩, x, ?_, KIn.row (HR.out.congr fun i hi => by rw [hke]; exact prt_all _ _ _ _ hi) (Nat.le_of_eq HLR.out), HB.out⟩
      rw [HLR.out]
      rfl
end
end Go.Proofs.Ytclobdeaocjnoaa
