/-
  Package vecs: Scale. Conditions: the row's numbers are there, at most 4096.
-/
import Derived.Test.YtclobdeaocjnoaaVc4
import Derived.Test.YtclobdeaocjnoaaNumMul
namespace Go.Proofs.Ytclobdeaocjnoaa
open Go.ChangeShapes Go.WideShapes Go.ChangeAt Go.RowKit Nm Vc

section
variable (w : World) (p q : Int) (V : Option Addr) (m cv : Nat) (zs : List Int)
set_option maxRecDepth 100000 in
set_option maxHeartbeats 1600000 in
theorem vecs_scale (hz : zs.length = m) (hm : m ≤ 4096) (hV : KIn .i64 w V zs) :
    Calls Try.prog 15 #[.slice V m cv, .int .i64 p, .int .i64 q] w (RowSays w (fun v => v) (scaleL zs p q)) := by
  have HV := Lib.hid hV
  obtain ⟨i0, hi, hz0, hz1, hz2⟩ := info_parts info_int
  have HI := Lib.hid hi
  have HZ0 := Lib.hid hz0
  have HZ1 := Lib.hid hz1
  have HZ2 := Lib.hid hz2
  have HZL := Lib.hid hz
  have HLR := Lib.hid (scaleL_length zs p q)
  have HAT := Lib.hid (scaleL_at zs p q)
  rw [hz] at HLR HAT
  clear hi hz0 hz1 hz2 hV hz
  generalize scaleL zs p q = R at HLR HAT ⊢
  go_enter Try.func15, Try.ntmps15
  go_wp2_with (at_make; refine wpList_make_row _ rfl _ _ 30 rfl 3 i0 (.int .i64 0) Try.underlying30 HI.out HZ0.out HZ1.out rfl .i64 .i64 m rfl rfl (by rw [HZ2.out]; omega) (by omega) ?_)
  have HR0 := Lib.hid (show (w.alloc (.cells (madeCells #[.int .i64 0] m) 3)).rowIs w.heap.size 3 m (prt .i64 R 0) from (World.rowIs_made w (.int .i64 0) m 3).congr fun i _ => by rw [prt_none])
  have HB0 := Lib.hid ((Below.refl w.heap.size w).alloc (Nat.le_refl _) (.cells (madeCells #[.int .i64 0] m) 3))
  go_loopw [15] (fun i wr => ∃ j : Nat, i = .int .i64 (j : Int) ∧ j ≤ m ∧ wr.rowIs w.heap.size 3 m (prt .i64 R j) ∧ Below w.heap.size w wr) (fun i _ => match i with | .int _ k => m - k.toNat | _ => 0)
  case atStart => exact ⟨0, rfl, Nat.zero_le _, HR0.out, HB0.out⟩
  case round =>
    clear HR0 HB0
    obtain ⟨j, rfl, hj, hr, hb⟩ := hrel
    have HR := Lib.hid hr
    have HB := Lib.hid hb
    clear hr hb
    have x2 : 0 ≤ (j : Int) := by omega
    by_cases hlt : j < m
    · have x0 : (j : Int) < (m : Int) := by omega
      have x1 : decide ((j : Int) < (m : Int)) = true := decide_eq_true x0
      have HJ := Lib.hid (show j + 1 ≤ m by omega)
      have HXJ := Lib.hid (HAT.out j hlt)
      obtain ⟨pb, po, rfl, hcell⟩ := (HV.out.below HB.out (Nat.le_refl _)).at (show j < zs.length by rw [HZL.out]; exact hlt)
      generalize zs.getD j 0 = z at hcell HXJ
      go_wp2_with (fail)
      refine (mul_any z p q wr).mono ?_
      rintro e w2 ⟨rfl, d, rfl⟩
      rw [← HXJ.out]
      have HB4 := Lib.hid (below_drewN HB.out d)
      have HR4 : Hid ((wr.drewN d).rowIs w.heap.size 3 m (prt .i64 R j)) := HR
      clear HB HR hcell
      generalize wr.drewN d = w7 at HB4 HR4 ⊢
      have f1 := HR4.out.frozen j
      have c1 := HR4.out.cell hlt
      have HP := Lib.hid (prt_set HR4.out (rfl : R.getD j 0 = R.getD j 0))
      have HBS := Lib.hid (HB4.out.setCell (p := ⟨w.heap.size, j, none⟩) (Nat.le_refl _) (.int .i64 (R.getD j 0)))
      have x3 := IntWalk.wrap64_in ((j : Int) + 1) (by omega)
      generalize R.getD j 0 = z at HP HBS ⊢
      go_wp2_with (fail)
      exact ⟨⟨j + 1, rfl, HJ.out, HP.out, HBS.out⟩, vc_less j m hlt⟩
    · have hke : j = m := by omega
      have x0 : ¬ (j : Int) < (m : Int) := by omega
      have x1 : decide ((j : Int) < (m : Int)) = false := decide_eq_false x0
      go_wp2_with (fail)
      refine bodyPost_ret (results_tmp rfl _ _ _) rfl ?_
      refine ⟨some ⟨w.heap.size, 0, none⟩, m, ?_, KIn.row (HR.out.congr fun i hi => by rw [hke]; exact prt_all _ _ _ _ hi) (Nat.le_of_eq HLR.out), HB.out⟩
      rw [HLR.out]
      rfl
end
end Go.Proofs.Ytclobdeaocjnoaa
