/-
  The reference of layer 15: in, side, rows. Condition of rows: each number alone can be.
  The reference of layer 15: Size, Good, Side. Condition of Size: each number alone can be.
  The reference of layer 15: Range. No conditions.
-/
import Derived.Test.YtkdkeokldcehhaaGreatDoorMg4
import Derived.Test.YtkdkeokldcehhaaGreatDoorMg2
import Derived.Test.YtkdkeokldcehhaaGreatDoorMg12
import Derived.OwnWalk
import Derived.Laws.OwnMore
import Derived.Deep.AppendLies
import Derived.Great.Walk
set_option maxRecDepth 100000
namespace Go.Proofs.YtkdkeokldcehhaaGreatDoor
open Go.ChangeShapes Go.WideShapes Go.ChangeAt Go.RowKit Cf

set_option maxRecDepth 100000 in
set_option maxHeartbeats 1600000 in
theorem ref15_in (w : World) (n l m : Int) : Calls Tryz.prog 126 #[.int .i64 n, .int .i64 l, .int .i64 m] w fun e w' => e = .returned (.bool (withinZ n l m)) ∧ w = w' := by
  unfold withinZ
  by_cases h1 : l ≤ n
  · have t1 : decide (l ≤ n) = true := decide_eq_true h1
    cases h2 : decide (n ≤ m)
    all_goals
      go_enter Tryz.func126, Tryz.ntmps126
      go_wp2_with (fail)
      refine bodyPost_ret (results_tmp rfl _ _ _) rfl ?_
      exact ⟨by rw [t1]; rfl, rfl⟩
  · have t1 : decide (l ≤ n) = false := decide_eq_false h1
    go_enter Tryz.func126, Tryz.ntmps126
    go_wp2_with (fail)
    refine bodyPost_ret (results_tmp rfl _ _ _) rfl ?_
    exact ⟨rfl, rfl⟩
set_option maxRecDepth 100000 in
set_option maxHeartbeats 6400000 in
theorem ref15_side (w : World) (x : Cfg) (p : Int) : Calls Tryz.prog 101 #[cfV x, .int .i64 p] w fun e w' => e = .returned (.tuple #[.int .i64 (rowsZ x p), .int .i64 (colsZ x p)]) ∧ Below w.heap.size w w' := by
  have HB := Lib.hid ((Below.refl w.heap.size w).alloc (Nat.le_refl _) (cfO 23 x))
  have HH := heap_alloc_new w (cfO 23 x)
  have e0 := cell0 HH
  have e1 := cell1 HH
  have e4 := cell4 HH
  have e5 := cell5 HH
  unfold cfO at HB e0 e1 e4 e5
  have hc := side_cases x p
  clear HH
  generalize rowsZ x p = R at hc ⊢
  generalize colsZ x p = C at hc ⊢
  unfold cfV cfA at *
  rcases hc with ⟨rfl, rfl, rfl⟩ | ⟨rfl, rfl, rfl⟩ | ⟨rfl | rfl | rfl, rfl, rfl⟩ | ⟨rfl | rfl | rfl | rfl, rfl, rfl⟩ | ⟨rfl | rfl, rfl, rfl⟩ | ⟨rfl, rfl, rfl⟩ | ⟨n0, n1, n2, n3, n4, n5, n6, n7, n8, n9, na, nb, rfl, rfl⟩
  case inr.inr.inr.inr.inr.inr =>
    go_enter Tryz.func101, Tryz.ntmps101
    go_wp2_with (fail)
    exact bodyPost_ret (results_tmp2 rfl _ _ _) rfl ⟨rfl, HB.out⟩
  all_goals
    go_enter Tryz.func101, Tryz.ntmps101
    go_wp2_with (fail)
    go_quiet (fail)
    have HQ := Lib.hid (below_drewN HB.out nq)
    go_wp2_with (fail)
    exact bodyPost_ret (results_tmp2 rfl _ _ _) rfl ⟨rfl, HQ.out⟩
theorem info_four : (Tryz.prog.info? 126).map (fun i => (i.zero, i.size, i.bytes)) = some (some (.agg #[.int .i64 0, .int .i64 0, .int .i64 0, .int .i64 0]), 4, 32) := by kernel_rfl
theorem fourOne (a b c d : Int) : Tryz.prog.builtSlice 126 1 [(0, .agg #[.int .i64 a, .int .i64 b, .int .i64 c, .int .i64 d])] = some #[.int .i64 a, .int .i64 b, .int .i64 c, .int .i64 d] := by kernel_rfl
namespace Cf
theorem four_src (w : World) (t : TypeId) (r : Rw) : ∀ j u, (rwL r)[j]? = some u → (w.alloc (.cells #[.int .i64 r.p, .int .i64 r.k, .int .i64 r.a, .int .i64 r.m] t)).cell? ((⟨w.heap.size, 0, none⟩ : Addr).add j) = some u := fun j u hj => by
  rw [Addr.add_lit, Nat.zero_add, cell_of_row _ _ _ _ _ _ (heap_alloc_new w _), ← hj]
  exact List.getElem?_toArray
theorem four_one (r : Rw) : ∀ u ∈ rwL r, u.oneCell' = true := fun u hu => by
  unfold rwL at hu
  simp only [List.mem_cons, List.not_mem_nil, or_false] at hu
  rcases hu with rfl | rfl | rfl | rfl <;> rfl
end Cf
/-- Rows of four numbers at a place of their own. -/
def RowsIn (W : World) (g : Nat) (L : List Rw) : Prop := ∀ j u, (rwsL L)[j]? = some u → W.cell? ⟨g, j, none⟩ = some u
/-- The state of the loops. -/
def Gath (w : World) (x : Cfg) (s : List Rw × Int) (v va : Value) (W : World) : Prop :=
  ∃ g c, v = .slice (some ⟨g, 0, none⟩) s.1.length c ∧ va = .int .i64 s.2 ∧ W.ownsRow (w.heap.size + 1) 126 4 v s.1.length (rwsL s.1) ∧ W.heap[w.heap.size]? = some (cfO 23 x) ∧ Below w.heap.size w W
namespace Cf
theorem own_keeps {w1 w2 : World} {base : Nat} {e : TypeId} {size n : Nat} {v : Value} {xs : List Value} (h : w1.ownsRow base e size v n xs) (hb : Below w1.heap.size w1 w2) : w2.ownsRow base e size v n xs := by
  refine ⟨h.1, ?_⟩
  rcases h.2 with hn | ⟨g, cap, cur, hv, h1, hg, r⟩
  · exact .inl hn
  · exact .inr ⟨g, cap, cur, hv, h1, (hb.block g (Array.getElem?_eq_some_iff.1 hg).1).trans hg, r⟩
theorem base_more {W : World} {B : Nat} (h : B < W.heap.size) (o : Obj) : B + 1 ≤ (W.alloc o).heap.size := by simp; omega
theorem small_more {L c : Nat} (h : L ≤ c) (hc : c < 100) : L + 1 ≤ maxLen ∧ (L + 1) * 32 ≤ 140737488355328 := by unfold maxLen; omega
theorem area_more {x : Cfg} (h : In x) (p : Nat) (hp : p + 1 ≤ 12) (a : Int) {c : Nat} (h0 : 0 ≤ a) (h1 : a ≤ 1024 * (c : Int)) : wrap64 (rowsZ x (p : Int) * colsZ x (p : Int)) = areaZ x (p : Int) ∧ (c < 100 → wrap64 (a + areaZ x (p : Int)) = a + areaZ x (p : Int)) := by
  have := area_in h (p := (p : Int)) (by omega) (by omega)
  exact ⟨IntWalk.wrap64_in _ (by unfold areaZ at this; omega), fun hc => IntWalk.wrap64_in _ (by omega)⟩
theorem skip_iff {x : Cfg} {b : Int} {p : Nat} : skipB x b p = true ↔ (b < 0 ∧ 1 < p) ∨ (b = x.b ∧ p < 11) ∨ (0 ≤ b ∧ b < x.b ∧ (p < 2 ∨ 10 < p)) := by
  unfold skipB
  simp only [Bool.or_eq_true, Bool.and_eq_true, decide_eq_true_iff, or_assoc, and_assoc]
end Cf
theorem gath_next {w w2 w4 : World} {x : Cfg} {s : List Rw × Int} {g c g4 c4 : Nat} {r : Rw} {ar : Int} {o : Obj}
    (ho : w2.ownsRow (w.heap.size + 1) 126 4 (.slice (some ⟨g, 0, none⟩) s.1.length c) s.1.length (rwsL s.1)) (hc : w2.heap[w.heap.size]? = some (cfO 23 x)) (hb : Below w.heap.size w w2)
    (hown : w4.ownsRow (w.heap.size + 1) 126 4 (.slice (some ⟨g4, 0, none⟩) (s.1.length + 1) c4) (s.1.length + 1) (rwsL s.1 ++ rwL r)) (hg : (w2.alloc o).grownBy w4 (Value.slice (some ⟨g, 0, none⟩) s.1.length c).ownBlock) :
    Gath w x (s.1 ++ [r], s.2 + ar) (.slice (some ⟨g4, 0, none⟩) (s.1.length + 1) c4) (.int .i64 (s.2 + ar)) w4 := by
  have hlt := (Array.getElem?_eq_some_iff.1 hc).1
  have hl : (s.1 ++ [r]).length = s.1.length + 1 := by rw [List.length_append]; rfl
  have hgb : w.heap.size + 1 ≤ g := (ho.lt g rfl).1
  refine ⟨g4, c4, by rw [hl], rfl, ?_, ?_, ?_⟩
  · show w4.ownsRow _ _ _ _ (s.1 ++ [r]).length (rwsL (s.1 ++ [r]))
    rw [hl, rwsL_next]
    exact hown
  · have := hg.block w.heap.size (by simp; omega) (fun h => by injection h with h; dsimp only at h; omega)
    exact this.trans ((heap_alloc_old w2 o hlt).trans hc)
  · exact (hb.alloc (by omega) o).grown hg (by simp; omega) (fun i hi => by injection hi with hi; have h' : g = i := hi; omega)
set_option maxRecDepth 100000 in
set_option maxHeartbeats 12800000 in
theorem ref15_rows (w : World) (x : Cfg) (h : In x) : Calls Tryz.prog 100 #[cfV x] w fun e w' => Below w.heap.size w w' ∧ ∃ g c, e = .returned (.slice (some ⟨g, 0, none⟩) (outer x (x.b.toNat + 2)).1.length c) ∧ RowsIn w' g (outer x (x.b.toNat + 2)).1 := by
  obtain ⟨i0, hi, hz0, hz1, hz2⟩ := info_parts info_four
  have HI := Lib.hid hi
  have HZ0 := Lib.hid hz0
  have HZ1 := Lib.hid hz1
  have HZ2 := Lib.hid hz2
  have HIN := Lib.hid h
  have HSI := Lib.hid (fun W p => ref15_side W x p)
  obtain ⟨B, hB⟩ : ∃ B : Nat, B = x.b.toNat := ⟨_, rfl⟩
  have HBX := Lib.hid (show x.b = (B : Int) ∧ 1 ≤ B ∧ B ≤ 3 by have := h.b1; have := h.b3; omega)
  rw [← hB]
  have HB0 := Lib.hid ((Below.refl w.heap.size w).alloc (Nat.le_refl _) (cfO 23 x))
  have HH0 := Lib.hid (heap_alloc_new w (cfO 23 x))
  have HG0 := Lib.hid (show Gath w x (outer x 0) (.slice (some ⟨w.heap.size + 1, 0, none⟩) 0 0) (.int .i64 0) ((w.alloc (cfO 23 x)).alloc (.cells #[] 126)) from
    ⟨w.heap.size + 1, 0, rfl, rfl, by
      show World.ownsRow _ _ _ _ _ 0 []
      have := World.ownsRow_made (e := 126) (size := 4) (w.alloc (cfO 23 x)) #[] 0 (base := w.heap.size + 1) (by simp) (Nat.zero_le _) rfl
      simpa using this, (heap_alloc_old _ _ (by simp)).trans HH0.out, HB0.out.alloc (by simp) _⟩)
  clear hi hz0 hz1 hz2 h hB HB0 HH0
  unfold cfV cfA at HSI ⊢
  go_enter Tryz.func100, Tryz.ntmps100
  go_wp2_with (refine wpList_buildNone rfl 124 126 rfl i0 Tryz.underlying124 HI.out ?_)
  go_loopw [3, 4, 5] (fun v va vb wr => ∃ (n : Nat) (b : Int), vb = .int .i64 b ∧ b = (n : Int) - 1 ∧ n ≤ B + 2 ∧ Gath w x (outer x n) v va wr) (fun _ _ i _ => match i with | .int _ k => B + 2 - (k + 1).toNat | _ => 0)
  case atStart => exact ⟨0, -1, rfl, rfl, by omega, HG0.out⟩
  case round =>
    clear HG0
    obtain ⟨n, b, rfl, hb, hn, hg⟩ := hrel
    have HBN := Lib.hid hb
    have HG := Lib.hid hg
    have hbx := HBX.out
    have hw := IntWalk.wrap64_in (b + 1) (by omega)
    obtain ⟨g0, c0, rfl, rfl, ho0, hc0, hb0⟩ := hg
    have e3 := (six hc0).2.2.2.1
    by_cases hlt : n < B + 2
    · have x0 : b ≤ x.b := by omega
      have x1 : decide (b ≤ x.b) = true := decide_eq_true x0
      have HN1 := Lib.hid (show n + 1 ≤ B + 2 by omega)
      have HM := Lib.hid (show B + 2 - (b + 1 + 1).toNat < B + 2 - (b + 1).toNat by omega)
      clear ho0 hc0 hb0 hb hn hbx hlt
      go_wp2_with (fail)
      go_loopw [3, 4, 6] (fun v va vp wr => ∃ p : Nat, vp = .int .i64 (p : Int) ∧ p ≤ 12 ∧ Gath w x (inner x b (outer x n) p) v va wr) (fun _ _ i _ => match i with | .int _ k => 12 - k.toNat | _ => 0)
      case atStart => exact ⟨0, rfl, by omega, HG.out⟩
      case round =>
        clear e3 HG
        obtain ⟨p, rfl, hp, hgi⟩ := hrel
        have HSK := Lib.hid (fun (h : skipB x b p = true) => show inner x b (outer x n) (p + 1) = inner x b (outer x n) p from if_pos h)
        have HNS := Lib.hid (fun (h : ¬ skipB x b p = true) => show inner x b (outer x n) (p + 1) = ((inner x b (outer x n) p).1 ++ [⟨(p : Int), blkZ b p, (inner x b (outer x n) p).2, areaZ x (p : Int)⟩], (inner x b (outer x n) p).2 + areaZ x (p : Int)) from if_neg h)
        have HOK := Lib.hid (inner_ok HIN.out b (outer_ok HIN.out n) p hp)
        have HGI := Lib.hid hgi
        obtain ⟨g, c, rfl, rfl, hown, hcf, hbl⟩ := hgi
        have HE := Lib.hid (fun (h : p = 12) => show inner x b (outer x n) p = outer x (n + 1) from by rw [h, HBN.out]; rfl)
        generalize inner x b (outer x n) p = s at *
        have HOW := Lib.hid hown
        have HCF := Lib.hid hcf
        have HBL := Lib.hid hbl
        have e3 := (six hcf).2.2.2.1
        clear hown hcf hbl
        by_cases hpt : p < 12
        · have y0 : (p : Int) < 12 := by omega
          have y1 : decide ((p : Int) < 12) = true := decide_eq_true y0
          have y2 := IntWalk.wrap64_in ((p : Int) + 1) (by omega)
          have HP1 := Lib.hid (show p + 1 ≤ 12 by omega)
          clear HE
          -- LEAVES
          have HAR := Lib.hid (area_more HIN.out p HP1.out s.2 HOK.out.low HOK.out.high)
          have HC100 := Lib.hid (show 12 * n + p < 100 by have := HN1.out; have := HBX.out; omega)
          have HSM := Lib.hid (small_more HOK.out.len HC100.out)
          have hn2 := HN1.out
          have hb2 := HBN.out
          have hx2 := HBX.out
          by_cases hb0 : b < 0
          · have z0 : decide (b < 0) = true := decide_eq_true hb0
            have z1 : (b == x.b) = false := beq_eq_false_iff_ne.2 (by omega)
            have z2 : decide (0 ≤ b) = false := decide_eq_false (by omega)
            by_cases hp1 : 1 < p
            · have HB := Lib.hid (show skipB x b p = true from by rw [skip_iff]; omega)
              have q1 : decide (1 < (p : Int)) = true := decide_eq_true (by omega)
              clear hn2 hb2 hx2 hp hpt hb0 hp1
              have HGN := Lib.hid (show Gath w x (inner x b (outer x n) (p + 1)) (.slice (some ⟨g, 0, none⟩) s.1.length c) (.int .i64 s.2) wr from by rw [HSK.out HB.out]; exact HGI.out)
              clear HSK HNS HGI HOW HCF HBL HOK HSI HB HAR
              go_wp2_with (fail)
              exact ⟨⟨p + 1, rfl, HP1.out, HGN.out⟩, less p 12 HP1.out⟩
            · have HB := Lib.hid (show ¬ skipB x b p = true from by rw [skip_iff]; omega)
              have HK := Lib.hid (show blkZ b p = 0 from by unfold blkZ; rw [if_pos (by omega)])
              have q1 : decide (1 < (p : Int)) = false := decide_eq_false (by omega)
              have q2 : decide ((p : Int) < 2) = true := decide_eq_true (by omega)
              clear hn2 hb2 hx2 hp hpt hb0 hp1
              have HNX := Lib.hid (show inner x b (outer x n) (p + 1) = (s.1 ++ [⟨(p : Int), 0, s.2, areaZ x (p : Int)⟩], s.2 + areaZ x (p : Int)) from by rw [HNS.out HB.out, HK.out])
              clear HSK HNS HGI HB HK
              generalize areaZ x (p : Int) = ar at HAR HNX
              obtain ⟨d0, d1, d2, d3, d4, d5⟩ := six HCF.out
              go_wp2_with (fail)
              refine (HSI.out _ _).mono ?_
              rintro e w2 ⟨rfl, b2⟩
              have HOW2 := Lib.hid (own_keeps HOW.out b2)
              have HCF2 := Lib.hid (stays HCF.out b2)
              have HBL2 := Lib.hid (HBL.out.trans (b2.mono HBL.out.size))
              clear b2 HOW HCF HBL e3 d0 d1 d2 d3 d4 d5
              have HS2 := Lib.hid (Array.getElem?_eq_some_iff.1 HCF2.out).1
              have e3 := (six HCF2.out).2.2.2.1
              generalize rowsZ x (p : Int) = R at HAR ⊢
              generalize colsZ x (p : Int) = C at HAR ⊢
              obtain ⟨a1, a3⟩ := HAR.out
              have a2 := a3 HC100.out
              clear a3
              go_wp2_with (first
                | (refine Great.wpList_buildSliceTo rfl 124 126 1 #[(0, .tmp 75)] rfl _ rfl (some 76) rfl Tryz.underlying124 #[.int .i64 (p : Int), .int .i64 0, .int .i64 s.2, .int .i64 ar] (fourOne (p : Int) 0 s.2 ar) ?_)
                | (at_builtin; refine wpList_append_lies _ rfl (.tmp 68) (.tmp 76) 124 rfl (w.heap.size + 1) 126 i0 _ 4 32 Tryz.underlying124 HI.out HZ0.out HZ1.out HZ2.out rfl (by omega) (.slice (some ⟨g, 0, none⟩) s.1.length c) s.1.length _ rfl (HOW2.out.alloc _) ⟨w2.heap.size, 0, none⟩ 1 1 (rwL ⟨(p : Int), 0, s.2, ar⟩) rfl rfl (four_src w2 _ ⟨(p : Int), 0, s.2, ar⟩) (four_one _) (by omega) HSM.out.1 HSM.out.2 (base_more HS2.out _) _ rfl ?_; intro g4 c4 w4 hown4 hg4 hwh4 hl4))
              have HGN := Lib.hid (gath_next (ar := ar) (r := ⟨(p : Int), 0, s.2, ar⟩) HOW2.out HCF2.out HBL2.out hown4 hg4)
              rw [← HNX.out] at HGN
              clear hown4 hg4 hwh4 hl4
              go_wp2_with (fail)
              rw [a2]
              exact ⟨⟨p + 1, rfl, HP1.out, HGN.out⟩, less p 12 HP1.out⟩
          · have z0 : decide (b < 0) = false := decide_eq_false hb0
            have z2 : decide (0 ≤ b) = true := decide_eq_true (by omega)
            by_cases hbx : b = x.b
            · have z1 : (b == x.b) = true := beq_iff_eq.2 hbx
              have z3 : decide (b < x.b) = false := decide_eq_false (by omega)
              by_cases hp1 : p < 11
              · have HB := Lib.hid (show skipB x b p = true from by rw [skip_iff]; omega)
                have q1 : decide ((p : Int) < 11) = true := decide_eq_true (by omega)
                clear hn2 hb2 hx2 hp hpt hb0 hbx hp1
                have HGN := Lib.hid (show Gath w x (inner x b (outer x n) (p + 1)) (.slice (some ⟨g, 0, none⟩) s.1.length c) (.int .i64 s.2) wr from by rw [HSK.out HB.out]; exact HGI.out)
                clear HSK HNS HGI HOW HCF HBL HOK HSI HB HAR
                go_wp2_with (fail)
                exact ⟨⟨p + 1, rfl, HP1.out, HGN.out⟩, less p 12 HP1.out⟩
              · have HB := Lib.hid (show ¬ skipB x b p = true from by rw [skip_iff]; omega)
                have HK := Lib.hid (show blkZ b p = 0 from by unfold blkZ; rw [if_pos (by omega)])
                have q1 : decide ((p : Int) < 11) = false := decide_eq_false (by omega)
                have q2 : decide ((p : Int) < 2) = false := decide_eq_false (by omega)
                have q3 : ((p : Int) == 11) = true := beq_iff_eq.2 (by omega)
                clear hn2 hb2 hx2 hp hpt hb0 hbx hp1
                have HNX := Lib.hid (show inner x b (outer x n) (p + 1) = (s.1 ++ [⟨(p : Int), 0, s.2, areaZ x (p : Int)⟩], s.2 + areaZ x (p : Int)) from by rw [HNS.out HB.out, HK.out])
                clear HSK HNS HGI HB HK
                generalize areaZ x (p : Int) = ar at HAR HNX
                obtain ⟨d0, d1, d2, d3, d4, d5⟩ := six HCF.out
                go_wp2_with (fail)
                refine (HSI.out _ _).mono ?_
                rintro e w2 ⟨rfl, b2⟩
                have HOW2 := Lib.hid (own_keeps HOW.out b2)
                have HCF2 := Lib.hid (stays HCF.out b2)
                have HBL2 := Lib.hid (HBL.out.trans (b2.mono HBL.out.size))
                clear b2 HOW HCF HBL e3 d0 d1 d2 d3 d4 d5
                have HS2 := Lib.hid (Array.getElem?_eq_some_iff.1 HCF2.out).1
                have e3 := (six HCF2.out).2.2.2.1
                generalize rowsZ x (p : Int) = R at HAR ⊢
                generalize colsZ x (p : Int) = C at HAR ⊢
                obtain ⟨a1, a3⟩ := HAR.out
                have a2 := a3 HC100.out
                clear a3
                go_wp2_with (first
                  | (refine Great.wpList_buildSliceTo rfl 124 126 1 #[(0, .tmp 75)] rfl _ rfl (some 76) rfl Tryz.underlying124 #[.int .i64 (p : Int), .int .i64 0, .int .i64 s.2, .int .i64 ar] (fourOne (p : Int) 0 s.2 ar) ?_)
                  | (at_builtin; refine wpList_append_lies _ rfl (.tmp 68) (.tmp 76) 124 rfl (w.heap.size + 1) 126 i0 _ 4 32 Tryz.underlying124 HI.out HZ0.out HZ1.out HZ2.out rfl (by omega) (.slice (some ⟨g, 0, none⟩) s.1.length c) s.1.length _ rfl (HOW2.out.alloc _) ⟨w2.heap.size, 0, none⟩ 1 1 (rwL ⟨(p : Int), 0, s.2, ar⟩) rfl rfl (four_src w2 _ ⟨(p : Int), 0, s.2, ar⟩) (four_one _) (by omega) HSM.out.1 HSM.out.2 (base_more HS2.out _) _ rfl ?_; intro g4 c4 w4 hown4 hg4 hwh4 hl4))
                have HGN := Lib.hid (gath_next (ar := ar) (r := ⟨(p : Int), 0, s.2, ar⟩) HOW2.out HCF2.out HBL2.out hown4 hg4)
                rw [← HNX.out] at HGN
                clear hown4 hg4 hwh4 hl4
                go_wp2_with (fail)
                rw [a2]
                exact ⟨⟨p + 1, rfl, HP1.out, HGN.out⟩, less p 12 HP1.out⟩
            · have z1 : (b == x.b) = false := beq_eq_false_iff_ne.2 hbx
              have z3 : decide (b < x.b) = true := decide_eq_true (by omega)
              by_cases hp1 : p < 2
              · have HB := Lib.hid (show skipB x b p = true from by rw [skip_iff]; omega)
                have q1 : decide ((p : Int) < 2) = true := decide_eq_true (by omega)
                clear hn2 hb2 hx2 hp hpt hb0 hbx hp1
                have HGN := Lib.hid (show Gath w x (inner x b (outer x n) (p + 1)) (.slice (some ⟨g, 0, none⟩) s.1.length c) (.int .i64 s.2) wr from by rw [HSK.out HB.out]; exact HGI.out)
                clear HSK HNS HGI HOW HCF HBL HOK HSI HB HAR
                go_wp2_with (fail)
                exact ⟨⟨p + 1, rfl, HP1.out, HGN.out⟩, less p 12 HP1.out⟩
              by_cases hp2 : 10 < p
              · have HB := Lib.hid (show skipB x b p = true from by rw [skip_iff]; omega)
                have q1 : decide ((p : Int) < 2) = false := decide_eq_false (by omega)
                have q2 : decide (10 < (p : Int)) = true := decide_eq_true (by omega)
                clear hn2 hb2 hx2 hp hpt hb0 hbx hp1 hp2
                have HGN := Lib.hid (show Gath w x (inner x b (outer x n) (p + 1)) (.slice (some ⟨g, 0, none⟩) s.1.length c) (.int .i64 s.2) wr from by rw [HSK.out HB.out]; exact HGI.out)
                clear HSK HNS HGI HOW HCF HBL HOK HSI HB HAR
                go_wp2_with (fail)
                exact ⟨⟨p + 1, rfl, HP1.out, HGN.out⟩, less p 12 HP1.out⟩
              · have HB := Lib.hid (show ¬ skipB x b p = true from by rw [skip_iff]; omega)
                have HK := Lib.hid (show blkZ b p = b from by unfold blkZ; rw [if_neg (by omega)])
                have q1 : decide ((p : Int) < 2) = false := decide_eq_false (by omega)
                have q2 : decide (10 < (p : Int)) = false := decide_eq_false (by omega)
                have q3 : ((p : Int) == 11) = false := beq_eq_false_iff_ne.2 (by omega)
                clear hn2 hb2 hx2 hp hpt hb0 hbx hp1 hp2
                have HNX := Lib.hid (show inner x b (outer x n) (p + 1) = (s.1 ++ [⟨(p : Int), b, s.2, areaZ x (p : Int)⟩], s.2 + areaZ x (p : Int)) from by rw [HNS.out HB.out, HK.out])
                clear HSK HNS HGI HB HK
                generalize areaZ x (p : Int) = ar at HAR HNX
                obtain ⟨d0, d1, d2, d3, d4, d5⟩ := six HCF.out
                go_wp2_with (fail)
                refine (HSI.out _ _).mono ?_
                rintro e w2 ⟨rfl, b2⟩
                have HOW2 := Lib.hid (own_keeps HOW.out b2)
                have HCF2 := Lib.hid (stays HCF.out b2)
                have HBL2 := Lib.hid (HBL.out.trans (b2.mono HBL.out.size))
                clear b2 HOW HCF HBL e3 d0 d1 d2 d3 d4 d5
                have HS2 := Lib.hid (Array.getElem?_eq_some_iff.1 HCF2.out).1
                have e3 := (six HCF2.out).2.2.2.1
                generalize rowsZ x (p : Int) = R at HAR ⊢
                generalize colsZ x (p : Int) = C at HAR ⊢
                obtain ⟨a1, a3⟩ := HAR.out
                have a2 := a3 HC100.out
                clear a3
                go_wp2_with (first
                  | (refine Great.wpList_buildSliceTo rfl 124 126 1 #[(0, .tmp 75)] rfl _ rfl (some 76) rfl Tryz.underlying124 #[.int .i64 (p : Int), .int .i64 b, .int .i64 s.2, .int .i64 ar] (fourOne (p : Int) b s.2 ar) ?_)
                  | (at_builtin; refine wpList_append_lies _ rfl (.tmp 68) (.tmp 76) 124 rfl (w.heap.size + 1) 126 i0 _ 4 32 Tryz.underlying124 HI.out HZ0.out HZ1.out HZ2.out rfl (by omega) (.slice (some ⟨g, 0, none⟩) s.1.length c) s.1.length _ rfl (HOW2.out.alloc _) ⟨w2.heap.size, 0, none⟩ 1 1 (rwL ⟨(p : Int), b, s.2, ar⟩) rfl rfl (four_src w2 _ ⟨(p : Int), b, s.2, ar⟩) (four_one _) (by omega) HSM.out.1 HSM.out.2 (base_more HS2.out _) _ rfl ?_; intro g4 c4 w4 hown4 hg4 hwh4 hl4))
                have HGN := Lib.hid (gath_next (ar := ar) (r := ⟨(p : Int), b, s.2, ar⟩) HOW2.out HCF2.out HBL2.out hown4 hg4)
                rw [← HNX.out] at HGN
                clear hown4 hg4 hwh4 hl4
                go_wp2_with (fail)
                rw [a2]
                exact ⟨⟨p + 1, rfl, HP1.out, HGN.out⟩, less p 12 HP1.out⟩
          -- ENDLEAVES
        · have y0 : ¬ (p : Int) < 12 := by omega
          have y1 : decide ((p : Int) < 12) = false := decide_eq_false y0
          have HE1 := Lib.hid (HE.out (by omega))
          clear HSK HNS HOK HOW HCF HBL HE
          have HGJ := Lib.hid (show Gath w x (outer x (n + 1)) (.slice (some ⟨g, 0, none⟩) s.1.length c) (.int .i64 s.2) wr from by rw [← HE1.out]; exact HGI.out)
          go_wp2_with (fail)
          exact ⟨⟨n + 1, b + 1, by rw [hw], by rw [HBN.out]; omega, HN1.out, HGJ.out⟩, by rw [hw]; exact HM.out⟩
    · have x0 : ¬ b ≤ x.b := by omega
      have x1 : decide (b ≤ x.b) = false := decide_eq_false x0
      have hnb : n = B + 2 := by omega
      subst hnb
      have HOW := Lib.hid ho0
      have HBL := Lib.hid hb0
      clear ho0 hc0 hb0 hb hn hlt HG HBN hbx
      go_wp2_with (fail)
      refine bodyPost_ret (results_tmp rfl _ _ _) rfl ?_
      refine ⟨HBL.out, g0, ⟨c0, rfl⟩, fun j u hj => ?_⟩
      have := HOW.out.cells (g := g0) rfl j u hj
      rwa [Addr.add_lit, Nat.zero_add] at this
end Go.Proofs.YtkdkeokldcehhaaGreatDoor
namespace Go.Proofs.YtkdkeokldcehhaaGreatDoor
open Go.ChangeShapes Go.WideShapes Go.ChangeAt Go.RowKit Cf

namespace Cf
/-- A row's cells, where rows lie. -/
theorem row_cells {W : World} {g : Nat} {L : List Rw} (h : RowsIn W g L) {i : Nat} {r : Rw} (hr : L[i]? = some r) : W.cell? ⟨g, i * 4, none⟩ = some (.int .i64 r.p) ∧ W.cell? ⟨g, i * 4 + 1, none⟩ = some (.int .i64 r.k) ∧ W.cell? ⟨g, i * 4 + 2, none⟩ = some (.int .i64 r.a) ∧ W.cell? ⟨g, i * 4 + 3, none⟩ = some (.int .i64 r.m) :=
  ⟨h (i * 4) _ (by have := rwsL_at L i r hr 0 (by omega); rw [Nat.add_zero] at this; rw [this]; rfl), h _ _ (by rw [rwsL_at L i r hr 1 (by omega)]; rfl), h _ _ (by rw [rwsL_at L i r hr 2 (by omega)]; rfl), h _ _ (by rw [rwsL_at L i r hr 3 (by omega)]; rfl)⟩
end Cf
set_option maxRecDepth 100000 in
set_option maxHeartbeats 3200000 in
theorem ref15_size (w : World) (x : Cfg) (h : In x) : Calls Tryz.prog 127 #[cfV x] w fun e w' => e = .returned (.int .i64 (totZ x)) ∧ Below w.heap.size w w' := by
  have HR := Lib.hid (show ∀ W, Calls Tryz.prog 100 #[cfV x] W fun e w' => Below W.heap.size W w' ∧ ∃ g c, e = .returned (.slice (some ⟨g, 0, none⟩) (allRows x).length c) ∧ RowsIn w' g (allRows x) from fun W => by
    have := ref15_rows W x h
    rw [outer_all h.b1] at this
    exact this)
  obtain ⟨l, r, hl, hr⟩ := last_row x
  have HLR := Lib.hid (show (allRows x)[l.length]? = some r by rw [hl, List.getElem?_append_right (Nat.le_refl _), Nat.sub_self]; rfl)
  have HLN := Lib.hid (show (allRows x).length = l.length + 1 by rw [hl, List.length_append]; rfl)
  have HRT := Lib.hid hr
  have HTT := Lib.hid (tot_in h)
  have HL30 := Lib.hid (all_len h)
  have HB0 := Lib.hid ((Below.refl w.heap.size w).alloc (Nat.le_refl _) (cfO 23 x))
  clear hl hr h
  generalize allRows x = L at HR HLR HLN HL30
  generalize l.length = k at HLR HLN
  generalize totZ x = T at HRT HTT ⊢
  unfold cfO at HB0
  unfold cfV cfA at *
  go_enter Tryz.func127, Tryz.ntmps127
  go_wp2_with (fail)
  refine (HR.out _).mono ?_
  rintro e w1 ⟨b1, g, c, rfl, hin⟩
  have HB1 := Lib.hid (HB0.out.trans (b1.mono HB0.out.size))
  obtain ⟨c0, c1, c2, c3⟩ := row_cells hin HLR.out
  have hn := HLN.out
  have hn30 := HL30.out
  generalize L.length = n at *
  have y0 : IntKind.i64.wrap ((n : Int) - 1) = (k : Int) := by rw [IntWalk.i64_in _ (by omega)]; omega
  have y1 : 0 ≤ (k : Int) := by omega
  have y2 : (k : Int) < (n : Int) := by omega
  have y3 : k < n := by omega
  have y4 : IntKind.i64.wrap (r.a + r.m) = T := by rw [HRT.out]; have := HTT.out; exact IntWalk.i64_in _ (by omega)
  clear b1 hin hn hn30
  go_wp2_with (fail)
  go_quiet (fail)
  have HB2 := Lib.hid (below_drewN HB1.out nq)
  go_wp2_with (fail)
  exact bodyPost_ret (results_tmp rfl _ _ _) rfl ⟨rfl, HB2.out⟩
namespace Cf
theorem in_false {x : Cfg} (h : inZ x = false) : withinZ x.v 2 32 = false ∨ (withinZ x.v 2 32 = true ∧ withinZ x.d 1 16 = false) ∨ (withinZ x.v 2 32 = true ∧ withinZ x.d 1 16 = true ∧ withinZ x.h 1 4 = false) ∨ (withinZ x.v 2 32 = true ∧ withinZ x.d 1 16 = true ∧ withinZ x.h 1 4 = true ∧ withinZ x.b 1 3 = false) ∨
    (withinZ x.v 2 32 = true ∧ withinZ x.d 1 16 = true ∧ withinZ x.h 1 4 = true ∧ withinZ x.b 1 3 = true ∧ withinZ x.n 1 32 = false) ∨ (withinZ x.v 2 32 = true ∧ withinZ x.d 1 16 = true ∧ withinZ x.h 1 4 = true ∧ withinZ x.b 1 3 = true ∧ withinZ x.n 1 32 = true ∧ withinZ x.c 1 32 = false) := by
  unfold inZ at h
  cases h1 : withinZ x.v 2 32 <;> cases h2 : withinZ x.d 1 16 <;> cases h3 : withinZ x.h 1 4 <;> cases h4 : withinZ x.b 1 3 <;> cases h5 : withinZ x.n 1 32 <;> cases h6 : withinZ x.c 1 32 <;> simp_all
theorem in_true {x : Cfg} (h : inZ x = true) : withinZ x.v 2 32 = true ∧ withinZ x.d 1 16 = true ∧ withinZ x.h 1 4 = true ∧ withinZ x.b 1 3 = true ∧ withinZ x.n 1 32 = true ∧ withinZ x.c 1 32 = true := by
  unfold inZ at h
  simpa only [Bool.and_eq_true] using h
end Cf
section
variable (w : World) (x : Cfg)
set_option maxRecDepth 100000 in
set_option maxHeartbeats 6400000 in
theorem ref15_good_not (h : inZ x = false) : Calls Tryz.prog 99 #[cfV x] w fun e w' => e = .returned (.bool false) ∧ Below w.heap.size w w' := by
  have hf := in_false h
  have H1 := Lib.hid (fun W => ref15_in W x.v 2 32)
  have H2 := Lib.hid (fun W => ref15_in W x.d 1 16)
  have H3 := Lib.hid (fun W => ref15_in W x.h 1 4)
  have H4 := Lib.hid (fun W => ref15_in W x.b 1 3)
  have H5 := Lib.hid (fun W => ref15_in W x.n 1 32)
  have H6 := Lib.hid (fun W => ref15_in W x.c 1 32)
  have HB := Lib.hid ((Below.refl w.heap.size w).alloc (Nat.le_refl _) (cfO 23 x))
  clear h
  unfold cfO at HB
  unfold cfV cfA at *
  generalize withinZ x.v 2 32 = b1 at H1 hf
  generalize withinZ x.d 1 16 = b2 at H2 hf
  generalize withinZ x.h 1 4 = b3 at H3 hf
  generalize withinZ x.b 1 3 = b4 at H4 hf
  generalize withinZ x.n 1 32 = b5 at H5 hf
  generalize withinZ x.c 1 32 = b6 at H6 hf
  rcases hf with rfl | ⟨rfl, rfl⟩ | ⟨rfl, rfl, rfl⟩ | ⟨rfl, rfl, rfl, rfl⟩ | ⟨rfl, rfl, rfl, rfl, rfl⟩ | ⟨rfl, rfl, rfl, rfl, rfl, rfl⟩
  all_goals
    go_enter Tryz.func99, Tryz.ntmps99
    go_wp2_with (fail)
    try (refine (H1.out _).mono ?_; rintro e w1 ⟨rfl, rfl⟩; go_wp2_with (fail))
    try (refine (H2.out _).mono ?_; rintro e w1 ⟨rfl, rfl⟩; go_wp2_with (fail))
    try (refine (H3.out _).mono ?_; rintro e w1 ⟨rfl, rfl⟩; go_wp2_with (fail))
    try (refine (H4.out _).mono ?_; rintro e w1 ⟨rfl, rfl⟩; go_wp2_with (fail))
    try (refine (H5.out _).mono ?_; rintro e w1 ⟨rfl, rfl⟩; go_wp2_with (fail))
    try (refine (H6.out _).mono ?_; rintro e w1 ⟨rfl, rfl⟩; go_wp2_with (fail))
    exact bodyPost_ret (results_tmp rfl _ _ _) rfl ⟨rfl, HB.out⟩
set_option maxRecDepth 100000 in
set_option maxHeartbeats 6400000 in
theorem ref15_good_in (h : inZ x = true) : Calls Tryz.prog 99 #[cfV x] w fun e w' => e = .returned (.bool (decide (x.d.tmod x.h = 0) && decide (totZ x ≤ 8192))) ∧ Below w.heap.size w w' := by
  obtain ⟨t1, t2, t3, t4, t5, t6⟩ := in_true h
  have H1 := Lib.hid (fun W => t1 ▸ ref15_in W x.v 2 32)
  have H2 := Lib.hid (fun W => t2 ▸ ref15_in W x.d 1 16)
  have H3 := Lib.hid (fun W => t3 ▸ ref15_in W x.h 1 4)
  have H4 := Lib.hid (fun W => t4 ▸ ref15_in W x.b 1 3)
  have H5 := Lib.hid (fun W => t5 ▸ ref15_in W x.n 1 32)
  have H6 := Lib.hid (fun W => t6 ▸ ref15_in W x.c 1 32)
  have HS := Lib.hid (fun W => ref15_size W x (in_iff.1 h))
  have hin := in_iff.1 h
  have n0 : ¬ x.h = 0 := by have := hin.h1; omega
  have n1 : ¬ x.h = -1 := by have := hin.h1; omega
  have HB0 := Lib.hid ((Below.refl w.heap.size w).alloc (Nat.le_refl _) (cfO 23 x))
  clear h t1 t2 t3 t4 t5 t6 hin
  unfold cfO at HB0
  unfold cfV cfA at *
  by_cases hm : x.d.tmod x.h = 0
  · have hd : decide (x.d.tmod x.h = 0) = true := decide_eq_true hm
    have h2 : (x.d.tmod x.h == 0) = true := beq_iff_eq.2 hm
    rw [hd]
    clear hd hm
    cases h3 : decide (totZ x ≤ 8192)
    all_goals
      have HD := Lib.hid h3
      clear h3
      go_enter Tryz.func99, Tryz.ntmps99
      go_wp2_with (fail)
      refine (H1.out _).mono ?_
      rintro e w1 ⟨rfl, rfl⟩
      go_wp2_with (fail)
      refine (H2.out _).mono ?_
      rintro e w1 ⟨rfl, rfl⟩
      go_wp2_with (fail)
      refine (H3.out _).mono ?_
      rintro e w1 ⟨rfl, rfl⟩
      go_wp2_with (fail)
      refine (H4.out _).mono ?_
      rintro e w1 ⟨rfl, rfl⟩
      go_wp2_with (fail)
      refine (H5.out _).mono ?_
      rintro e w1 ⟨rfl, rfl⟩
      go_wp2_with (fail)
      refine (H6.out _).mono ?_
      rintro e w1 ⟨rfl, rfl⟩
      go_wp2_with (fail)
      refine (HS.out _).mono ?_
      rintro e w2 ⟨rfl, b2⟩
      have HB2 := Lib.hid (HB0.out.trans (b2.mono HB0.out.size))
      have h4 := HD.out
      clear b2
      go_wp2_with (fail)
      exact bodyPost_ret (results_tmp rfl _ _ _) rfl ⟨rfl, HB2.out⟩
  · have hd : decide (x.d.tmod x.h = 0) = false := decide_eq_false hm
    have h2 : (x.d.tmod x.h == 0) = false := beq_eq_false_iff_ne.2 hm
    rw [hd]
    clear hd hm
    go_enter Tryz.func99, Tryz.ntmps99
    go_wp2_with (fail)
    refine (H1.out _).mono ?_
    rintro e w1 ⟨rfl, rfl⟩
    go_wp2_with (fail)
    refine (H2.out _).mono ?_
    rintro e w1 ⟨rfl, rfl⟩
    go_wp2_with (fail)
    refine (H3.out _).mono ?_
    rintro e w1 ⟨rfl, rfl⟩
    go_wp2_with (fail)
    refine (H4.out _).mono ?_
    rintro e w1 ⟨rfl, rfl⟩
    go_wp2_with (fail)
    refine (H5.out _).mono ?_
    rintro e w1 ⟨rfl, rfl⟩
    go_wp2_with (fail)
    refine (H6.out _).mono ?_
    rintro e w1 ⟨rfl, rfl⟩
    go_wp2_with (fail)
    exact bodyPost_ret (results_tmp rfl _ _ _) rfl ⟨rfl, HB0.out⟩
end
theorem ref15_good (w : World) (x : Cfg) : Calls Tryz.prog 99 #[cfV x] w fun e w' => e = .returned (.bool (goodZ x)) ∧ Below w.heap.size w w' := by
  unfold goodZ
  cases h : inZ x with
  | false => exact ref15_good_not w x h
  | true => exact ref15_good_in w x h
set_option maxRecDepth 100000 in
set_option maxHeartbeats 1600000 in
theorem ref15_Side (w : World) (x : Cfg) (p : Int) : Calls Tryz.prog 68 #[cfV x, .int .i64 p] w fun e w' => e = .returned (.tuple #[.int .i64 (if goodZ x = true then rowsZ x p else 0), .int .i64 (if goodZ x = true then colsZ x p else 0)]) ∧ Below w.heap.size w w' := by
  have HG := Lib.hid (fun W => ref15_good W x)
  have HB0 := Lib.hid ((Below.refl w.heap.size w).alloc (Nat.le_refl _) (cfO 23 x))
  have HH0 := Lib.hid (heap_alloc_new w (cfO 23 x))
  have k0 := six HH0.out
  have HT := Lib.hid (fun W => ref15_side W x p)
  generalize goodZ x = g at HG ⊢
  unfold cfO at HB0 HH0 k0
  unfold cfV cfA at *
  cases g with
  | false =>
    go_enter Tryz.func68, Tryz.ntmps68
    go_wp2_with (fail)
    refine (HG.out _).mono ?_
    rintro e w1 ⟨rfl, b1⟩
    have HB1 := Lib.hid (HB0.out.trans (b1.mono HB0.out.size))
    clear b1
    go_wp2_with (fail)
    exact bodyPost_ret (results_tmp2 rfl _ _ _) rfl ⟨rfl, HB1.out⟩
  | true =>
    rw [if_pos rfl, if_pos rfl]
    go_enter Tryz.func68, Tryz.ntmps68
    go_wp2_with (fail)
    refine (HG.out _).mono ?_
    rintro e w1 ⟨rfl, b1⟩
    have HH1 := Lib.hid (stays (x := x) (t := 23) HH0.out b1)
    have HB1 := Lib.hid (HB0.out.trans (b1.mono HB0.out.size))
    obtain ⟨e0, e1, e2, e3, e4, e5⟩ := six (x := x) (t := 23) HH1.out
    clear b1 k0
    go_wp2_with (fail)
    refine (HT.out _).mono ?_
    rintro e w2 ⟨rfl, b2⟩
    have HB2 := Lib.hid (HB1.out.trans (b2.mono HB1.out.size))
    clear b2
    go_wp2_with (fail)
    exact bodyPost_ret (results_tmp2 rfl _ _ _) rfl ⟨rfl, HB2.out⟩
end Go.Proofs.YtkdkeokldcehhaaGreatDoor
namespace Go.Proofs.YtkdkeokldcehhaaGreatDoor
open Go.ChangeShapes Go.WideShapes Go.ChangeAt Go.RowKit Cf

set_option maxRecDepth 100000 in
set_option maxHeartbeats 3200000 in
theorem ref15_range_not (w : World) (x : Cfg) (p k : Int) (h : goodZ x = false) : Calls Tryz.prog 67 #[cfV x, .int .i64 p, .int .i64 k] w fun e w' => e = .returned (rangeV x p k) ∧ Below w.heap.size w w' := by
  have HG := Lib.hid (fun W => h ▸ ref15_good W x)
  have HB0 := Lib.hid ((Below.refl w.heap.size w).alloc (Nat.le_refl _) (cfO 23 x))
  have HV := Lib.hid (range_no (x := x) (p := p) (k := k) fun hh => by rw [good_iff.2 hh.1] at h; cases h)
  clear h
  generalize rangeV x p k = V at HV ⊢
  unfold cfO at HB0
  unfold cfV cfA at *
  go_enter Tryz.func67, Tryz.ntmps67
  go_wp2_with (fail)
  refine (HG.out _).mono ?_
  rintro e w1 ⟨rfl, b1⟩
  have HB1 := Lib.hid (HB0.out.trans (b1.mono HB0.out.size))
  clear b1
  go_wp2_with (fail)
  exact bodyPost_ret (results_tmp3 rfl _ _ _) rfl ⟨by rw [HV.out]; rfl, HB1.out⟩
set_option maxRecDepth 100000 in
set_option maxHeartbeats 3200000 in
theorem ref15_range_good (w : World) (x : Cfg) (p k : Int) (h : Cf.Good x) : Calls Tryz.prog 67 #[cfV x, .int .i64 p, .int .i64 k] w fun e w' => e = .returned (rangeV x p k) ∧ Below w.heap.size w w' := by
  have HG := Lib.hid (fun W => (good_iff.2 h) ▸ ref15_good W x)
  have HR := Lib.hid (show ∀ W, Calls Tryz.prog 100 #[cfV x] W fun e w' => Below W.heap.size W w' ∧ ∃ g c, e = .returned (.slice (some ⟨g, 0, none⟩) (allRows x).length c) ∧ RowsIn w' g (allRows x) from fun W => by
    have := ref15_rows W x h.is
    rw [outer_all h.is.b1] at this
    exact this)
  have HYES := Lib.hid (show ∀ (i : Nat) (r : Rw), (allRows x)[i]? = some r → (r.p == p) = true → (r.k == k) = true → rangeV x p k = .tuple #[.int .i64 r.a, .int .i64 r.m, .bool true] from fun i r hr h1 h2 => by
    obtain ⟨a, b, c, d, e, f⟩ := row_tells h.is (List.mem_of_getElem? hr)
    rw [beq_iff_eq.1 h1, beq_iff_eq.1 h2] at *
    rw [range_yes ⟨h, a, b, c, d⟩, e, f])
  have HNO := Lib.hid (show (∀ (i : Nat) (r : Rw), (allRows x)[i]? = some r → r.p = p → r.k = k → False) → rangeV x p k = .tuple #[.int .i64 0, .int .i64 0, .bool false] from fun hn => range_no fun ⟨_, a, b, c, d⟩ => by
    obtain ⟨r, hr, h1, h2⟩ := row_there h.is a b c d
    obtain ⟨i, hi⟩ := List.getElem?_of_mem hr
    exact hn i r hi h1 h2)
  have HL30 := Lib.hid (all_len h.is)
  have HB0 := Lib.hid ((Below.refl w.heap.size w).alloc (Nat.le_refl _) (cfO 23 x))
  have HH0 := Lib.hid (heap_alloc_new w (cfO 23 x))
  have k0 := six HH0.out
  clear h
  generalize rangeV x p k = V at HYES HNO ⊢
  generalize allRows x = L at *
  unfold cfO at HB0 HH0 k0
  unfold cfV cfA at *
  go_enter Tryz.func67, Tryz.ntmps67
  go_wp2_with (fail)
  refine (HG.out _).mono ?_
  rintro e w1 ⟨rfl, b1⟩
  have HH1 := Lib.hid (stays (x := x) (t := 23) HH0.out b1)
  have HB1 := Lib.hid (HB0.out.trans (b1.mono HB0.out.size))
  obtain ⟨e0, e1, e2, e3, e4, e5⟩ := six (x := x) (t := 23) HH1.out
  clear b1 k0 HB0 HH0
  go_wp2_with (fail)
  refine (HR.out _).mono ?_
  rintro e w2 ⟨b2, g, c, rfl, hin⟩
  have HB2 := Lib.hid (HB1.out.trans (b2.mono HB1.out.size))
  have HRI := Lib.hid hin
  clear b2 hin HB1 HH1 e0 e1 e2 e3 e4 e5 HG HR
  obtain ⟨n, hn⟩ : ∃ n, n = L.length := ⟨_, rfl⟩
  have HLN := Lib.hid hn.symm
  rw [← hn]
  clear hn
  go_wp2_with (fail)
  go_loopw [10] (fun i wr => ∃ j : Nat, i = .int .i64 (j : Int) ∧ j ≤ n ∧ wr = w2 ∧ ∀ (i : Nat) (r : Rw), i < j → L[i]? = some r → r.p = p → r.k = k → False) (fun i _ => match i with | .int _ q => n - q.toNat | _ => 0)
  case atStart => exact ⟨0, rfl, Nat.zero_le _, rfl, fun i r hi => absurd hi (Nat.not_lt_zero i)⟩
  case round =>
    obtain ⟨j, rfl, hj, rfl, hno⟩ := hrel
    have HNJ := Lib.hid hno
    clear hno
    have x2 : 0 ≤ (j : Int) := by omega
    by_cases hlt : j < n
    · have x0 : (j : Int) < (n : Int) := by omega
      have x1 : decide ((j : Int) < (n : Int)) = true := decide_eq_true x0
      have x3 := IntWalk.wrap64_in ((j : Int) + 1) (by have := HL30.out; have := HLN.out; omega)
      obtain ⟨r, hr⟩ : ∃ r, L[j]? = some r := ⟨_, List.getElem?_eq_getElem (by rw [HLN.out]; exact hlt)⟩
      have HRJ := Lib.hid hr
      have HJ1 := Lib.hid (show j + 1 ≤ n from hlt)
      obtain ⟨c0, c1, c2, c3⟩ := row_cells HRI.out hr
      have HYJ := Lib.hid (HYES.out j r hr)
      clear hr hj
      cases h1 : (r.p == p) with
      | false =>
        have HNX := Lib.hid (show ∀ (i : Nat) (r : Rw), i < j + 1 → L[i]? = some r → r.p = p → r.k = k → False from fun i q hi hq a b => by
          by_cases hij : i < j
          · exact HNJ.out i q hij hq a b
          · obtain rfl : i = j := by omega
            have := HRJ.out.symm.trans hq
            injection this with this
            subst this
            exact beq_eq_false_iff_ne.1 h1 a)
        go_wp2_with (fail)
        exact ⟨⟨j + 1, by rw [x3]; rfl, HJ1.out, trivial, HNX.out⟩, by rw [x3]; exact less j n HJ1.out⟩
      | true =>
        cases h2 : (r.k == k) with
        | false =>
          have HNX := Lib.hid (show ∀ (i : Nat) (r : Rw), i < j + 1 → L[i]? = some r → r.p = p → r.k = k → False from fun i q hi hq a b => by
            by_cases hij : i < j
            · exact HNJ.out i q hij hq a b
            · obtain rfl : i = j := by omega
              have := HRJ.out.symm.trans hq
              injection this with this
              subst this
              exact beq_eq_false_iff_ne.1 h2 b)
          go_wp2_with (fail)
          exact ⟨⟨j + 1, by rw [x3]; rfl, HJ1.out, trivial, HNX.out⟩, by rw [x3]; exact less j n HJ1.out⟩
        | true =>
          have HV := Lib.hid (HYJ.out h1 h2)
          go_wp2_with (fail)
          go_quiet (fail)
          have HB3 := Lib.hid (below_drewN HB2.out nq)
          go_wp2_with (fail)
          exact bodyPost_ret (results_tmp3 rfl _ _ _) rfl ⟨by rw [HV.out]; rfl, HB3.out⟩
    · have x0 : ¬ (j : Int) < (n : Int) := by omega
      have x1 : decide ((j : Int) < (n : Int)) = false := decide_eq_false x0
      have HV := Lib.hid (HNO.out fun i r hr a b => HNJ.out i r (by have := (List.getElem?_eq_some_iff.1 hr).1; have := HLN.out; omega) hr a b)
      clear hlt hj
      go_wp2_with (fail)
      exact bodyPost_ret (results_tmp3 rfl _ _ _) rfl ⟨by rw [HV.out]; rfl, HB2.out⟩
theorem ref15_range (w : World) (x : Cfg) (p k : Int) : Calls Tryz.prog 67 #[cfV x, .int .i64 p, .int .i64 k] w fun e w' => e = .returned (rangeV x p k) ∧ Below w.heap.size w w' := by
  cases h : goodZ x with
  | false => exact ref15_range_not w x p k h
  | true => exact ref15_range_good w x p k (good_iff.1 h)
end Go.Proofs.YtkdkeokldcehhaaGreatDoor
