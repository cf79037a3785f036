/-
  Package act: Pairs, All. Conditions: the table lies where the program looks; the rows' numbers are there, such as an int holds, at most a million.
-/
import Derived.Test.YtnfiojcfbohafaaDoorMg10
import Derived.Test.YtnfiojcfbohafaaDoorMg6
import Derived.Test.YtnfiojcfbohafaaDoorMg16
set_option maxRecDepth 100000
namespace Go.Proofs.YtnfiojcfbohafaaDoor
open Go.ChangeShapes Go.WideShapes Go.ChangeAt Go.RowKit Nm Vc Ac

namespace Ac
/-- A row that is made whole is one's own. -/
theorem own_row {w : World} {g n base : Nat} {R : List Int} (hl : R.length = n) (hn : n ≤ 1000000) (hb : base ≤ g) (h : w.rowIs g 3 n (fun i => .int .i64 (R.getD i 0))) : Own w base (.slice (some ⟨g, 0, none⟩) n n) R := by
  obtain ⟨c, h1, h2, h3⟩ := h
  unfold Own
  rw [hl]
  refine ⟨by rw [icells_length, hl, Nat.mul_one], .inr ⟨g, n, c, rfl, hb, h1, Nat.le_refl _, by unfold maxLen; omega, by rw [h2, Nat.mul_one], ?_⟩⟩
  rw [Nat.mul_one, List.take_of_length_le (by rw [Array.length_toList, h2]; exact Nat.le_refl _)]
  apply List.ext_getElem?
  intro i
  rw [Array.getElem?_toList]
  by_cases hi : i < n
  · rw [h3 i hi, icells_at R i (by omega)]
  · rw [List.getElem?_eq_none (by rw [icells_length]; omega), Array.getElem?_eq_none (by omega)]
/-- What a call answers that makes a row of its own. -/
def OwnSays (w : World) (n : Nat) (R : List Int) (e : Ending) (w' : World) : Prop := ∃ g, e = .returned (.slice (some ⟨g, 0, none⟩) n n) ∧ w.heap.size ≤ g ∧ Own w' w.heap.size (.slice (some ⟨g, 0, none⟩) n n) R ∧ Below w.heap.size w w'
theorem OwnSays.row {w w' : World} {n : Nat} {R : List Int} {e : Ending} (hl : R.length = n) (h : OwnSays w n R e w') : RowSays w (fun v => v) R e w' := by
  obtain ⟨g, rfl, _, ho, hb⟩ := h
  exact ⟨_, n, by rw [hl], Own.kin ho, hb⟩
end Ac
section
variable (w : World) (G : Option Addr) (m d : Nat) (gs : List Int) (A : Option Addr) (n c : Nat) (zs : List Int)
set_option maxRecDepth 100000 in
set_option maxHeartbeats 1600000 in
theorem act_pairs_not (hg : gs.length = m) (hz : zs.length = n) (h : m ≠ n) :
    Calls Tryd.prog 53 #[.slice G m d, .slice A n c] w (RowSays w (fun v => v) (pairsL gs zs)) := by
  rw [pairsL_not (by omega)]
  have t0 : ((m : Int) != (n : Int)) = true := by
    rw [bne_iff_ne]
    omega
  clear hg hz h
  go_enter Tryd.func53, Tryd.ntmps53
  go_wp2_with (fail)
  refine bodyPost_ret (results_tmp rfl _ _ _) rfl ?_
  exact ⟨none, 0, rfl, KIn.nil _ _ _, Below.refl _ _⟩
set_option maxRecDepth 100000 in
set_option maxHeartbeats 1600000 in
theorem act_pairs_same (hg : gs.length = n) (hz : zs.length = n) (hm : n ≤ 1000000) (hG : KIn .i64 w G gs) (hA : KIn .i64 w A zs) (hf : FitL gs) (hp : GOn w) :
    Calls Tryd.prog 53 #[.slice G n d, .slice A n c] w (OwnSays w n (pairsL gs zs)) := by
  have HA := Lib.hid hA
  have HG := Lib.hid hG
  obtain ⟨i0, hi, hz0, hz1, hz2⟩ := info_parts info_int
  have HI := Lib.hid hi
  have HZ0 := Lib.hid hz0
  have HZ1 := Lib.hid hz1
  have HZ2 := Lib.hid hz2
  have HZL := Lib.hid hz
  have HGL := Lib.hid hg
  have HLR := Lib.hid ((pairsL_length (gs := gs) (zs := zs) (by omega)).trans hz)
  have HAT := Lib.hid (fun i (h : i < n) => pairsL_at (gs := gs) (zs := zs) (by omega) i (by omega))
  have HF := Lib.hid (fun i (h : i < n) => hf i (by omega))
  have HP := Lib.hid hp
  have HM := Lib.hid hm
  clear hi hz0 hz1 hz2 hA hG hz hg hf hp
  have t0 : ((n : Int) != (n : Int)) = false := by simp
  generalize pairsL gs zs = R at HLR HAT ⊢
  go_enter Tryd.func53, Tryd.ntmps53
  go_wp2_with (at_make; refine wpList_make_row _ rfl _ _ 22 rfl 3 i0 (.int .i64 0) Tryd.underlying22 HI.out HZ0.out HZ1.out rfl .i64 .i64 n rfl rfl (by rw [HZ2.out]; omega) (by omega) ?_)
  have HR0 := Lib.hid (show (w.alloc (.cells (madeCells #[.int .i64 0] n) 3)).rowIs w.heap.size 3 n (prt .i64 R 0) from (World.rowIs_made w (.int .i64 0) n 3).congr fun i _ => by rw [prt_none])
  have HB0 := Lib.hid ((Below.refl w.heap.size w).alloc (Nat.le_refl _) (.cells (madeCells #[.int .i64 0] n) 3))
  go_loopw [18] (fun i wr => ∃ j : Nat, i = .int .i64 (j : Int) ∧ j ≤ n ∧ wr.rowIs w.heap.size 3 n (prt .i64 R j) ∧ Below w.heap.size w wr) (fun i _ => match i with | .int _ k => n - k.toNat | _ => 0)
  case atStart => exact ⟨0, rfl, Nat.zero_le _, HR0.out, HB0.out⟩
  case round =>
    clear HR0 HB0
    obtain ⟨j, rfl, hj, hr, hb⟩ := hrel
    have HR := Lib.hid hr
    have HB := Lib.hid hb
    clear hr hb
    have x2 : 0 ≤ (j : Int) := by omega
    by_cases hlt : j < n
    · have x0 : (j : Int) < (n : Int) := by omega
      have x1 : decide ((j : Int) < (n : Int)) = true := decide_eq_true x0
      have HJ := Lib.hid (show j + 1 ≤ n by omega)
      have HXJ := Lib.hid (HAT.out j hlt)
      have HFJ := Lib.hid (HF.out j hlt)
      obtain ⟨pb, po, rfl, hcell⟩ := (HA.out.below HB.out (Nat.le_refl _)).at (show j < zs.length by rw [HZL.out]; exact hlt)
      obtain ⟨pg, pu, rfl, hgell⟩ := (HG.out.below HB.out (Nat.le_refl _)).at (show j < gs.length by rw [HGL.out]; exact hlt)
      generalize zs.getD j 0 = z at hcell HXJ
      generalize gs.getD j 0 = g at hgell HXJ HFJ
      have HT := Lib.hid (act_through g z wr HFJ.out (HP.out.below HB.out (Nat.le_refl _)))
      rw [← HXJ.out] at HT
      go_wp2_with (fail)
      refine HT.out.mono ?_
      rintro e w2 ⟨rfl, k, rfl⟩
      have HR2 := Lib.hid (HR.out.of_block (w' := wr.drewN k) rfl)
      have HB2 := Lib.hid (below_drewN HB.out k)
      clear HR HB HT
      generalize wr.drewN k = wk at HR2 HB2 ⊢
      have f1 := HR2.out.frozen j
      have c1 := HR2.out.cell hlt
      have HPS := Lib.hid (prt_set HR2.out (rfl : R.getD j 0 = R.getD j 0))
      have HBS := Lib.hid (HB2.out.setCell (p := ⟨w.heap.size, j, none⟩) (Nat.le_refl _) (.int .i64 (R.getD j 0)))
      have x3 := IntWalk.wrap64_in ((j : Int) + 1) (by omega)
      generalize R.getD j 0 = q at HPS HBS ⊢
      go_wp2_with (fail)
      exact ⟨⟨j + 1, rfl, HJ.out, HPS.out, HBS.out⟩, vc_less j n hlt⟩
    · have hke : j = n := by omega
      have x0 : ¬ (j : Int) < (n : Int) := by omega
      have x1 : decide ((j : Int) < (n : Int)) = false := decide_eq_false x0
      rw [hke] at HR
      have HK := Lib.hid (show Own wr w.heap.size (.slice (some ⟨w.heap.size, 0, none⟩) n n) R from own_row HLR.out HM.out (Nat.le_refl _) (HR.out.congr fun i hi => prt_all _ _ _ _ hi))
      clear HAT HF hke hlt
      go_wp2_with (fail)
      refine bodyPost_ret (results_tmp rfl _ _ _) rfl ?_
      exact ⟨w.heap.size, rfl, Nat.le_refl _, HK.out, HB.out⟩
theorem act_pairs (hg : gs.length = m) (hz : zs.length = n) (hm : n ≤ 1000000) (hG : KIn .i64 w G gs) (hA : KIn .i64 w A zs) (hf : FitL gs) (hp : GOn w) :
    Calls Tryd.prog 53 #[.slice G m d, .slice A n c] w (RowSays w (fun v => v) (pairsL gs zs)) := by
  by_cases h : m = n
  · subst h
    exact (act_pairs_same w G d gs A m c zs hg hz hm hG hA hf hp).mono fun e w' h => h.row ((pairsL_length (by omega)).trans hz)
  · exact act_pairs_not w G m d gs A n c zs hg hz h
end
end Go.Proofs.YtnfiojcfbohafaaDoor
