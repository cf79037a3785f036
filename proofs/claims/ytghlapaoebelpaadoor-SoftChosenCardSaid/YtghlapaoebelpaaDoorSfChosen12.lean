/-
  Law 12's SoftChosen: it answers true, whatever the weights are. Conditions: the numbers are there; the table lies where the program looks.
-/
import Derived.Test.YtghlapaoebelpaaDoorSfAwake12
namespace Go.Proofs.YtghlapaoebelpaaDoor.softChosen
open Go.ChangeShapes Go.WideShapes Go.ChangeAt Go.RowKit Nm Vc Sf

theorem okTo_more {a b : Int} {ws : List Int} {k : Nat} (h : okTo a ws k) (hab : a ≤ b) : okTo b ws k := fun i hi => by have := h i hi; omega
theorem chosen_at {zs : List Int} {d : Int} (h : okP zs) (h0 : 0 ≤ d) (h1 : d < total zs) : chooseL d zs = (findP d zs : Int) ∧ findP d zs < zs.length := by
  refine ⟨?_, (findP_spec zs d h.1 h0 h1).1⟩
  rw [choose_ok h]
  show (findP (d.emod (total zs)) zs : Int) = _
  rw [show d.emod (total zs) = d from Int.emod_eq_of_lt h0 h1]
theorem chosen_any {zs : List Int} (draw : Int) (h : okP zs) : ∃ p : Nat, chooseL draw zs = (p : Int) ∧ p < zs.length ∧ 0 < zs.getD p 0 := by
  have h1 := pick_spec (draw := draw) h
  rw [choose_ok h]
  exact ⟨(pickL draw zs).toNat, by omega, by omega, h1.2.2⟩
/-- How often each was chosen by the draws below d. -/
def cntF (zs : List Int) (d : Nat) (i : Nat) : Value := .int .i64 (cntP zs (d : Int) i)
theorem cnt_set {w : World} {g n : Nat} {t : TypeId} {zs : List Int} {d p : Nat} {z : Int} (h : w.rowIs g t n (cntF zs d)) (hn : zs.length = n) (hW : InW 9 zs) (hd : (d : Int) < total zs) (hp : findP (d : Int) zs = p) (hz : cntP zs (d : Int) p = z) :
    (w.setCell ⟨g, p, none⟩ (.int .i64 (z + 1))).rowIs g t n (cntF zs (d + 1)) :=
  (h.set p _).congr fun i hi => by
    unfold cntF
    rw [show (((d + 1 : Nat)) : Int) = (d : Int) + 1 by omega, cntP_next hW (by omega) hd (by omega), hp]
    by_cases e : i = p
    · subst e
      rw [if_pos rfl, if_pos rfl, hz]
    · rw [if_neg e, if_neg e]
theorem cnt_start {zs : List Int} {n : Nat} (hn : zs.length = n) (hW : InW 9 zs) {i : Nat} (hi : i < n) : cntF zs 0 i = .int .i64 0 := by
  unfold cntF
  rw [show ((0 : Nat) : Int) = 0 from rfl, cntP_zero hW (by omega)]
theorem cnt_end {zs : List Int} {n s : Nat} (hn : zs.length = n) (hW : InW 9 zs) (hs : total zs = (s : Int)) {i : Nat} (hi : i < n) : cntF zs s i = .int .i64 (zs.getD i 0) := by
  unfold cntF
  rw [← hs, cntP_all hW (by omega)]
set_option maxRecDepth 100000 in
set_option maxHeartbeats 3200000 in
theorem walk (w : World) (A : Option Addr) (n c : Nat) (zs : List Int) (draw : Int) (hz : zs.length = n) (hA : KIn .i64 w A zs) (hp : POn w) :
    Calls Tryd.prog 7 #[.slice A n c, .int .i64 draw] w fun e w' => e = .returned (.bool true) ∧ Below w.heap.size w w' := by
  have HA := Lib.hid hA
  have HP := Lib.hid hp
  have HZ := Lib.hid hz
  clear hA hp hz
  by_cases h10 : 10 < n
  · have t0 : 10 < (n : Int) := by omega
    have t1 : decide (10 < (n : Int)) = true := decide_eq_true t0
    go_enter Tryd.func7, Tryd.ntmps7
    go_wp2_with (fail)
    refine (awake12 _ HP.out).mono ?_
    rintro e w1 ⟨rfl, b1⟩
    have B1 := Lib.hid b1
    clear b1
    go_wp2_with (fail)
    refine bodyPost_ret (results_tmp rfl _ _ _) rfl ?_
    exact ⟨rfl, B1.out⟩
  have t0 : ¬ 10 < (n : Int) := by omega
  have t1 : decide (10 < (n : Int)) = false := decide_eq_false t0
  have hn10 : n ≤ 10 := by omega
  have HM := Lib.hid (show n ≤ 1000000 by omega)
  clear h10
  obtain ⟨i0, hi, hz0, hz1, hz2⟩ := info_parts info_int
  have HI := Lib.hid hi
  have HZ0 := Lib.hid hz0
  have HZ1 := Lib.hid hz1
  have HZ2 := Lib.hid hz2
  clear hi hz0 hz1 hz2
  go_enter Tryd.func7, Tryd.ntmps7
  go_wp2_with (fail)
  refine (awake12 _ HP.out).mono ?_
  rintro e w1 ⟨rfl, b1⟩
  have B1 := Lib.hid b1
  have A1 := Lib.hid (HA.out.below b1 (Nat.le_refl _))
  clear b1 HP
  go_wp2_with (fail)
  go_loopw [5, 6] (fun b i wr => ∃ j : Nat, i = .int .i64 (j : Int) ∧ j ≤ n ∧ b = .int .i64 (total (zs.take j)) ∧ w1 = wr ∧ okTo 9 zs j) (fun _ i _ => match i with | .int _ k => n - k.toNat | _ => 0)
  case atStart => exact ⟨0, rfl, Nat.zero_le _, rfl, rfl, fun i hi => absurd hi (by omega)⟩
  case round =>
    obtain ⟨j, rfl, hj, rfl, rfl, ho⟩ := hrel
    have HO := Lib.hid ho
    clear ho
    have x2 : 0 ≤ (j : Int) := by omega
    by_cases hlt : j < n
    · have x0 : (j : Int) < (n : Int) := by omega
      have x1 : decide ((j : Int) < (n : Int)) = true := decide_eq_true x0
      have HJ := Lib.hid (show j + 1 ≤ n by omega)
      have hl : j < zs.length := by rw [HZ.out]; exact hlt
      obtain ⟨pa, oa, rfl, hc⟩ := A1.out.at hl
      have HN := Lib.hid (total_next zs j hl)
      have hs := total_small (by omega) (by omega) HO.out (show j ≤ zs.length by omega) HZ.out (by omega)
      by_cases h1 : zs.getD j 0 < 0
      · have u1 : decide (zs.getD j 0 < 0) = true := decide_eq_true h1
        generalize zs.getD j 0 = z at hc u1
        clear HN hs h1 hl
        generalize total (zs.take j) = s
        go_wp2_with (fail)
        refine bodyPost_ret (results_tmp rfl _ _ _) rfl ?_
        exact ⟨rfl, B1.out⟩
      have u1 : decide (zs.getD j 0 < 0) = false := decide_eq_false h1
      by_cases h2 : 9 < zs.getD j 0
      · have u2 : decide (9 < zs.getD j 0) = true := decide_eq_true h2
        generalize zs.getD j 0 = z at hc u1 u2
        clear HN hs h1 h2 hl
        generalize total (zs.take j) = s
        go_wp2_with (fail)
        refine bodyPost_ret (results_tmp rfl _ _ _) rfl ?_
        exact ⟨rfl, B1.out⟩
      have u2 : decide (9 < zs.getD j 0) = false := decide_eq_false h2
      have HON := Lib.hid (okTo_next HO.out h1 h2)
      have W4 := Lib.hid (show wrap64 (total (zs.take j) + zs.getD j 0) = total (zs.take j) + zs.getD j 0 from IntWalk.wrap64_in _ (by omega))
      clear hl hs h1 h2
      generalize zs.getD j 0 = z at hc u1 u2 W4 HN
      generalize total (zs.take j) = s at W4 HN
      have x3 := IntWalk.wrap64_in ((j : Int) + 1) (by omega)
      go_wp2_with (fail)
      exact ⟨⟨j + 1, rfl, HJ.out, by rw [HN.out, W4.out], by trivial, HON.out⟩, vc_less j n hlt⟩
    · have hke : j = n := by omega
      have x0 : ¬ (j : Int) < (n : Int) := by omega
      have x1 : decide ((j : Int) < (n : Int)) = false := decide_eq_false x0
      rw [hke] at HO
      have HT := Lib.hid (show total (zs.take j) = total zs from total_all zs (by rw [HZ.out]; omega))
      rw [HT.out]
      have HW9 := Lib.hid (show InW 9 zs by
        have := HO.out
        rw [← HZ.out] at this
        exact this)
      have htot := total_in (m := 9) (by omega) zs HW9.out
      rw [HZ.out] at htot
      by_cases h0 : total zs = 0
      · have HR := Lib.hid (choose_not (d := draw) (ws := zs) fun h => by have := h.2.2; omega)
        have HC := Lib.hid (soft_choose w1 draw A n c zs HZ.out HM.out A1.out)
        rw [HR.out] at HC
        rw [h0]
        clear HT h0 HO htot
        go_wp2_with (fail)
        refine HC.out.mono ?_
        rintro e w2 ⟨rfl, rfl⟩
        go_wp2_with (fail)
        refine bodyPost_ret (results_tmp rfl _ _ _) rfl ?_
        exact ⟨rfl, B1.out⟩
      obtain ⟨s, hs⟩ : ∃ s : Nat, total zs = (s : Int) := ⟨(total zs).toNat, by omega⟩
      have HS := Lib.hid hs
      have HOK := Lib.hid (show okP zs from ⟨by
        have := okTo_more HO.out (b := 1048576) (by omega)
        rw [← HZ.out] at this
        exact this, by rw [HZ.out]; omega, by omega⟩)
      rw [hs]
      have s0 : 0 < s := by omega
      have s90 : s ≤ 90 := by omega
      have u0 : ((s : Int) == 0) = false := beq_eq_false_iff_ne.2 (by omega)
      clear HT h0 HO htot hs
      go_wp2_with (at_make; refine wpList_make_row _ rfl _ _ 22 rfl 3 i0 (.int .i64 0) Tryd.underlying22 HI.out HZ0.out HZ1.out rfl .i64 .i64 n rfl rfl (by rw [HZ2.out]; omega) (by omega) ?_)
      have HR0 := Lib.hid (show (w1.alloc (.cells (madeCells #[.int .i64 0] n) 3)).rowIs w1.heap.size 3 n (cntF zs 0) from (World.rowIs_made w1 (.int .i64 0) n 3).congr fun i hi => by rw [cnt_start HZ.out HW9.out hi])
      have HB0 := Lib.hid (B1.out.alloc B1.out.size (.cells (madeCells #[.int .i64 0] n) 3))
      obtain ⟨g, hg⟩ : ∃ g, g = w1.heap.size := ⟨_, rfl⟩
      have HGW := Lib.hid (show w.heap.size ≤ g by rw [hg]; exact B1.out.size)
      rw [← hg] at HR0 ⊢
      generalize w1.alloc (.cells (madeCells #[.int .i64 0] n) 3) = w2 at HR0 HB0 ⊢
      clear hg A1 B1
      go_loopw [8] (fun i wr => ∃ j : Nat, i = .int .i64 (j : Int) ∧ j ≤ s ∧ wr.rowIs g 3 n (cntF zs j) ∧ Below w.heap.size w wr) (fun i _ => match i with | .int _ k => s - k.toNat | _ => 0)
      case atStart => exact ⟨0, rfl, Nat.zero_le _, HR0.out, HB0.out⟩
      case round =>
        clear HR0 HB0
        obtain ⟨d, rfl, hd, hr, hb⟩ := hrel
        have HR := Lib.hid hr
        have HB := Lib.hid hb
        clear hr hb
        have y2 : 0 ≤ (d : Int) := by omega
        by_cases hds : d < s
        · have y0 : (d : Int) < (s : Int) := by omega
          have y1 : decide ((d : Int) < (s : Int)) = true := decide_eq_true y0
          have HD := Lib.hid (show d + 1 ≤ s by omega)
          have hch := chosen_at (d := (d : Int)) HOK.out (by omega) (by rw [HS.out]; exact y0)
          rw [HZ.out] at hch
          have HC := Lib.hid (soft_choose wr (d : Int) A n c zs HZ.out HM.out (HA.out.below HB.out (Nat.le_refl _)))
          rw [hch.1] at HC
          have HCS := Lib.hid (fun p z h1 h2 => cnt_set (p := p) (z := z) HR.out HZ.out HW9.out (by rw [HS.out]; exact y0) h1 h2)
          have hcin := cntP_in HW9.out (i := findP (d : Int) zs) (by rw [HZ.out]; exact hch.2) (d : Int)
          have hp := hch.2
          have c1 : wr.cell? ⟨g, findP (d : Int) zs, none⟩ = some (.int .i64 (cntP zs (d : Int) (findP (d : Int) zs))) := HR.out.cell hp
          have f1 := HR.out.frozen (findP (d : Int) zs)
          have HCS2 := Lib.hid (HCS.out _ _ rfl rfl)
          have W1 := Lib.hid (show wrap64 (cntP zs (d : Int) (findP (d : Int) zs) + 1) = cntP zs (d : Int) (findP (d : Int) zs) + 1 from IntWalk.wrap64_in _ (by omega))
          clear hch HCS hcin
          generalize cntP zs (d : Int) (findP (d : Int) zs) = z at c1 HCS2 W1
          generalize findP (d : Int) zs = p at hp c1 f1 HCS2 HC
          have p0 : 0 ≤ (p : Int) := by omega
          have p1 : ¬ (p : Int) < 0 := by omega
          have p2 : decide ((p : Int) < 0) = false := decide_eq_false p1
          have p3 : (p : Int) < (n : Int) := by omega
          have p4 : decide ((n : Int) ≤ (p : Int)) = false := decide_eq_false (by omega)
          have x3 := IntWalk.wrap64_in ((d : Int) + 1) (by omega)
          have HBS := Lib.hid (HB.out.setCell (p := ⟨g, p, none⟩) HGW.out (.int .i64 (z + 1)))
          clear HR HB
          go_wp2_with (fail)
          refine HC.out.mono ?_
          rintro e w3 ⟨rfl, rfl⟩
          go_wp2_with (fail)
          rw [W1.out]
          exact ⟨⟨d + 1, rfl, HD.out, HCS2.out, HBS.out⟩, vc_less d s hds⟩
        · have hke : d = s := by omega
          have y0 : ¬ (d : Int) < (s : Int) := by omega
          have y1 : decide ((d : Int) < (s : Int)) = false := decide_eq_false y0
          rw [hke] at HR
          have KR := Lib.hid (KIn.row (zs := zs) (HR.out.congr fun i hi => cnt_end HZ.out HW9.out HS.out hi) (Nat.le_of_eq HZ.out))
          obtain ⟨p, hp1, hp2, hp3⟩ := chosen_any draw HOK.out
          have AB := Lib.hid (HA.out.below HB.out (Nat.le_refl _))
          have HC := Lib.hid (soft_choose wr draw A n c zs HZ.out HM.out AB.out)
          rw [hp1] at HC
          obtain ⟨pa, oa, rfl, hc⟩ := AB.out.at hp2
          rw [HZ.out] at hp2
          have u5 : decide (0 < zs.getD p 0) = true := decide_eq_true hp3
          clear hp1 hp3 HR hke hds
          generalize zs.getD p 0 = z at hc u5
          have p0 : 0 ≤ (p : Int) := by omega
          have p2 : decide (0 ≤ (p : Int)) = true := decide_eq_true p0
          have p3 : (p : Int) < (n : Int) := by omega
          have p4 : decide ((p : Int) < (n : Int)) = true := decide_eq_true p3
          go_wp2_with (fail)
          refine HC.out.mono ?_
          rintro e w3 ⟨rfl, rfl⟩
          go_wp2_with (fail)
          refine (ints_same wr _ n n _ c zs HZ.out HM.out KR.out AB.out).mono ?_
          rintro e w4 ⟨rfl, d4, rfl⟩
          have HB4 := Lib.hid (below_drewN HB.out d4)
          have hc4 : (wr.drewN d4).cell? ⟨pa, oa + p, none⟩ = some (.int .i64 z) := hc
          clear hc KR AB HC
          generalize wr.drewN d4 = w4 at HB4 hc4 ⊢
          go_wp2_with (fail)
          refine bodyPost_ret (results_tmp rfl _ _ _) rfl ?_
          exact ⟨rfl, HB4.out⟩
end Go.Proofs.YtghlapaoebelpaaDoor.softChosen
