/-
  The reference of layer 11: Scale. Conditions: the row's numbers are there, at most 4096.
-/
import Derived.Test.YtclobdeaocjnoaaVcRef
namespace Go.Proofs.Ytclobdeaocjnoaa
open Go.ChangeShapes Go.WideShapes Go.ChangeAt Go.RowKit Nm Vc

theorem take_more (R : List Int) (j : Nat) (h : j < R.length) : R.take (j + 1) = R.take j ++ [R.getD j 0] := by
  rw [List.take_succ_eq_append_getElem h, List.getD_eq_getElem?_getD, List.getElem?_eq_getElem h]
  rfl
set_option maxRecDepth 100000 in
set_option maxHeartbeats 1600000 in
theorem ref11_scale (w : World) (p q : Int) (V : Option Addr) (m cv : Nat) (zs : List Int) (hz : zs.length = m) (hm : m ≤ 4096) (hV : KIn .i64 w V zs) :
    Calls Try.prog 16 #[.slice V m cv, .int .i64 p, .int .i64 q] w (RowSays w (fun v => v) (scaleL zs p q)) := by
  have HV := Lib.hid hV
  have HZ := Lib.hid hz
  obtain ⟨i0, hi, hz0, hz1, hz2⟩ := info_parts info_int
  have HI := Lib.hid hi
  have HZ0 := Lib.hid hz0
  have HZ1 := Lib.hid hz1
  have HZ2 := Lib.hid hz2
  have HLR := Lib.hid (scaleL_length zs p q)
  have HAT := Lib.hid (scaleL_at zs p q)
  rw [hz] at HLR HAT
  clear hV hz hi hz0 hz1 hz2
  generalize scaleL zs p q = R at HLR HAT ⊢
  go_enter Try.func16, Try.ntmps16
  go_wp2_with (refine wpList_buildNone rfl 30 3 rfl i0 Try.underlying30 HI.out ?_)
  have HB0 := Lib.hid ((Below.refl w.heap.size w).alloc (Nat.le_refl _) (.cells #[] 3))
  have HO0 := Lib.hid (Own.new w w.heap.size (Nat.le_refl _))
  go_loopw [7, 8] (fun l i wr => ∃ (j : Nat) (G : Option Addr) (q : Nat), i = .int .i64 (j : Int) ∧ j ≤ m ∧ l = .slice G j q ∧ Own wr w.heap.size l (R.take j) ∧ Below w.heap.size w wr) (fun _ i _ => match i with | .int _ k => m - k.toNat | _ => 0)
  case atStart => exact ⟨0, _, 0, rfl, Nat.zero_le _, rfl, HO0.out, HB0.out⟩
  case round =>
    clear HB0 HO0
    obtain ⟨j, G, cg, rfl, hj, rfl, ho, hb⟩ := hrel
    have HO := Lib.hid ho
    have HB := Lib.hid hb
    clear ho hb
    have x2 : 0 ≤ (j : Int) := by omega
    by_cases hlt : j < m
    · have x0 : (j : Int) < (m : Int) := by omega
      have x1 : decide ((j : Int) < (m : Int)) = true := decide_eq_true x0
      have HJ := Lib.hid (show j + 1 ≤ m by omega)
      have HRN := Lib.hid (take_more R j (by rw [HLR.out]; exact hlt))
      have HXJ := Lib.hid (HAT.out j hlt)
      have HOL := Lib.hid (show (R.take j).length = j by rw [List.length_take, HLR.out]; omega)
      obtain ⟨pa, oa, rfl, hc1⟩ := (HV.out.below HB.out (Nat.le_refl _)).at (show j < zs.length by rw [HZ.out]; exact hlt)
      have HW0 := Lib.hid (Own.at HO.out HOL.out)
      generalize zs.getD j 0 = z1 at hc1 HXJ
      go_wp2_with (fail)
      refine (rmul_any z1 p q wr).mono ?_
      rintro e w5 ⟨rfl, rfl⟩
      rw [← HXJ.out]
      generalize R.getD j 0 = z at HRN ⊢
      go_wp2_with (at_builtin; refine wpList_append_lies _ rfl (.tmp 16) (.tmp 24) 30 rfl w.heap.size 3 i0 _ 1 8 Try.underlying30 HI.out HZ0.out HZ1.out HZ2.out rfl (by omega) (.slice G j cg) j _ rfl (HW0.out.alloc _) ⟨wr.heap.size, 0, none⟩ 1 1 [.int .i64 z] rfl rfl (one_src wr z) (one_one z) (by omega) (by unfold maxLen; omega) (by omega) (by have := HB.out.size; simp; omega) _ rfl ?_; intro gg cap wz hownz hgrow hat hltz)
      have HON := Lib.hid (Own.grew HOL.out hownz)
      have HBN := Lib.hid (below_grew HB.out rfl HO.out _ hgrow)
      rw [← HRN.out] at HON
      clear hownz hgrow hat hltz hc1
      have x3 := IntWalk.wrap64_in ((j : Int) + 1) (by omega)
      go_wp2_with (fail)
      exact ⟨⟨j + 1, _, cap, rfl, HJ.out, rfl, HON.out, HBN.out⟩, vc_less j m hlt⟩
    · have hke : j = m := by omega
      have x0 : ¬ (j : Int) < (m : Int) := by omega
      have x1 : decide ((j : Int) < (m : Int)) = false := decide_eq_false x0
      have HT := Lib.hid (show R.take j = R from List.take_of_length_le (by rw [HLR.out]; omega))
      rw [HT.out] at HO
      go_wp2_with (fail)
      refine bodyPost_ret (results_tmp rfl _ _ _) rfl ?_
      refine ⟨G, cg, ?_, Own.kin HO.out, HB.out⟩
      rw [HLR.out]
      rfl
end Go.Proofs.Ytclobdeaocjnoaa
