/-
  The reference of layer 15: in, side, rows. Condition of rows: each number alone can be.
  The reference of layer 15: Size, Good, Side. Condition of Size: each number alone can be.
  Package conf: Range. No conditions.
  The reference of layer 15: Range. No conditions.
  The reference of layer 15: Bytes, Parse. Condition of Bytes: each number alone can be.
  Two shapes that are the same: == and !=, of both types. No conditions.
-/
import Derived.Test.YtlechjpaldpgnaaGreatDoorMg11
import Derived.Test.YtlechjpaldpgnaaGreatDoorMg27
import Derived.Test.YtlechjpaldpgnaaGreatDoorMg20
import Derived.Test.YtlechjpaldpgnaaGreatDoorMg19
import Derived.OwnWalk
import Derived.Laws.OwnMore
import Derived.Deep.AppendLies
import Derived.Great.Walk
import Derived.Laws.StructEq
set_option maxRecDepth 100000
namespace Go.Proofs.YtlechjpaldpgnaaGreatDoor
open Go.ChangeShapes Go.WideShapes Go.ChangeAt Go.RowKit Cf

set_option maxRecDepth 100000 in
set_option maxHeartbeats 1600000 in
theorem ref15_in (w : World) (n l m : Int) : Calls Tryz.prog 121 #[.int .i64 n, .int .i64 l, .int .i64 m] w fun e w' => e = .returned (.bool (withinZ n l m)) ∧ w = w' := by
  unfold withinZ
  by_cases h1 : l ≤ n
  · have t1 : decide (l ≤ n) = true := decide_eq_true h1
    cases h2 : decide (n ≤ m)
    all_goals
      go_enter Tryz.func121, Tryz.ntmps121
      go_wp2_with (fail)
      refine bodyPost_ret (results_tmp rfl _ _ _) rfl ?_
      exact ⟨by rw [t1]; rfl, rfl⟩
  · have t1 : decide (l ≤ n) = false := decide_eq_false h1
    go_enter Tryz.func121, Tryz.ntmps121
    go_wp2_with (fail)
    refine bodyPost_ret (results_tmp rfl _ _ _) rfl ?_
    exact ⟨rfl, rfl⟩
set_option maxRecDepth 100000 in
set_option maxHeartbeats 6400000 in
theorem ref15_side (w : World) (x : Cfg) (p : Int) : Calls Tryz.prog 129 #[cfV x, .int .i64 p] w fun e w' => e = .returned (.tuple #[.int .i64 (rowsZ x p), .int .i64 (colsZ x p)]) ∧ Below w.heap.size w w' := by
  have HB := Lib.hid ((Below.refl w.heap.size w).alloc (Nat.le_refl _) (cfO 60 x))
  have HH := heap_alloc_new w (cfO 60 x)
  have e0 := cell0 HH
  have e1 := cell1 HH
  have e4 := cell4 HH
  have e5 := cell5 HH
  unfold cfO at HB e0 e1 e4 e5
  have hc := side_cases x p
  clear HH
  generalize rowsZ x p = R at hc ⊢
  generalize colsZ x p = C at hc ⊢
  unfold cfV cfA at *
  rcases hc with ⟨rfl, rfl, rfl⟩ | ⟨rfl, rfl, rfl⟩ | ⟨rfl | rfl | rfl, rfl, rfl⟩ | ⟨rfl | rfl | rfl | rfl, rfl, rfl⟩ | ⟨rfl | rfl, rfl, rfl⟩ | ⟨rfl, rfl, rfl⟩ | ⟨n0, n1, n2, n3, n4, n5, n6, n7, n8, n9, na, nb, rfl, rfl⟩
  case inr.inr.inr.inr.inr.inr =>
    go_enter Tryz.func129, Tryz.ntmps129
    go_wp2_with (fail)
    exact bodyPost_ret (results_tmp2 rfl _ _ _) rfl ⟨rfl, HB.out⟩
  all_goals
    go_enter Tryz.func129, Tryz.ntmps129
    go_wp2_with (fail)
    go_quiet (fail)
    have HQ := Lib.hid (below_drewN HB.out nq)
    go_wp2_with (fail)
    exact bodyPost_ret (results_tmp2 rfl _ _ _) rfl ⟨rfl, HQ.out⟩
theorem info_four : (Tryz.prog.info? 194).map (fun i => (i.zero, i.size, i.bytes)) = some (some (.agg #[.int .i64 0, .int .i64 0, .int .i64 0, .int .i64 0]), 4, 32) := by kernel_rfl
theorem fourOne (a b c d : Int) : Tryz.prog.builtSlice 194 1 [(0, .agg #[.int .i64 a, .int .i64 b, .int .i64 c, .int .i64 d])] = some #[.int .i64 a, .int .i64 b, .int .i64 c, .int .i64 d] := by kernel_rfl
namespace Cf
theorem four_src (w : World) (t : TypeId) (r : Rw) : ∀ j u, (rwL r)[j]? = some u → (w.alloc (.cells #[.int .i64 r.p, .int .i64 r.k, .int .i64 r.a, .int .i64 r.m] t)).cell? ((⟨w.heap.size, 0, none⟩ : Addr).add j) = some u := fun j u hj => by
  rw [Addr.add_lit, Nat.zero_add, cell_of_row _ _ _ _ _ _ (heap_alloc_new w _), ← hj]
  exact List.getElem?_toArray
theorem four_one (r : Rw) : ∀ u ∈ rwL r, u.oneCell' = true := fun u hu => by
  unfold rwL at hu
  simp only [List.mem_cons, List.not_mem_nil, or_false] at hu
  rcases hu with rfl | rfl | rfl | rfl <;> rfl
end Cf
/-- Rows of four numbers at a place of their own. -/
def RowsIn (W : World) (g : Nat) (L : List Rw) : Prop := ∀ j u, (rwsL L)[j]? = some u → W.cell? ⟨g, j, none⟩ = some u
/-- The state of the loops. -/
def Gath (w : World) (x : Cfg) (s : List Rw × Int) (v va : Value) (W : World) : Prop :=
  ∃ g c, v = .slice (some ⟨g, 0, none⟩) s.1.length c ∧ va = .int .i64 s.2 ∧ W.ownsRow (w.heap.size + 1) 194 4 v s.1.length (rwsL s.1) ∧ W.heap[w.heap.size]? = some (cfO 60 x) ∧ Below w.heap.size w W
namespace Cf
theorem own_keeps {w1 w2 : World} {base : Nat} {e : TypeId} {size n : Nat} {v : Value} {xs : List Value} (h : w1.ownsRow base e size v n xs) (hb : Below w1.heap.size w1 w2) : w2.ownsRow base e size v n xs := by
  refine ⟨h.1, ?_⟩
  rcases h.2 with hn | ⟨g, cap, cur, hv, h1, hg, r⟩
  · exact .inl hn
  · exact .inr ⟨g, cap, cur, hv, h1, (hb.block g (Array.getElem?_eq_some_iff.1 hg).1).trans hg, r⟩
theorem base_more {W : World} {B : Nat} (h : B < W.heap.size) (o : Obj) : B + 1 ≤ (W.alloc o).heap.size := by simp; omega
theorem small_more {L c : Nat} (h : L ≤ c) (hc : c < 100) : L + 1 ≤ maxLen ∧ (L + 1) * 32 ≤ 140737488355328 := by unfold maxLen; omega
theorem area_more {x : Cfg} (h : In x) (p : Nat) (hp : p + 1 ≤ 12) (a : Int) {c : Nat} (h0 : 0 ≤ a) (h1 : a ≤ 1024 * (c : Int)) : wrap64 (rowsZ x (p : Int) * colsZ x (p : Int)) = areaZ x (p : Int) ∧ (c < 100 → wrap64 (a + areaZ x (p : Int)) = a + areaZ x (p : Int)) := by
  have := area_in h (p := (p : Int)) (by omega) (by omega)
  exact ⟨IntWalk.wrap64_in _ (by unfold areaZ at this; omega), fun hc => IntWalk.wrap64_in _ (by omega)⟩
theorem skip_iff {x : Cfg} {b : Int} {p : Nat} : skipB x b p = true ↔ (b < 0 ∧ 1 < p) ∨ (b = x.b ∧ p < 11) ∨ (0 ≤ b ∧ b < x.b ∧ (p < 2 ∨ 10 < p)) := by
  unfold skipB
  simp only [Bool.or_eq_true, Bool.and_eq_true, decide_eq_true_iff, or_assoc, and_assoc]
end Cf
theorem gath_next {w w2 w4 : World} {x : Cfg} {s : List Rw × Int} {g c g4 c4 : Nat} {r : Rw} {ar : Int} {o : Obj}
    (ho : w2.ownsRow (w.heap.size + 1) 194 4 (.slice (some ⟨g, 0, none⟩) s.1.length c) s.1.length (rwsL s.1)) (hc : w2.heap[w.heap.size]? = some (cfO 60 x)) (hb : Below w.heap.size w w2)
    (hown : w4.ownsRow (w.heap.size + 1) 194 4 (.slice (some ⟨g4, 0, none⟩) (s.1.length + 1) c4) (s.1.length + 1) (rwsL s.1 ++ rwL r)) (hg : (w2.alloc o).grownBy w4 (Value.slice (some ⟨g, 0, none⟩) s.1.length c).ownBlock) :
    Gath w x (s.1 ++ [r], s.2 + ar) (.slice (some ⟨g4, 0, none⟩) (s.1.length + 1) c4) (.int .i64 (s.2 + ar)) w4 := by
  have hlt := (Array.getElem?_eq_some_iff.1 hc).1
  have hl : (s.1 ++ [r]).length = s.1.length + 1 := by rw [List.length_append]; rfl
  have hgb : w.heap.size + 1 ≤ g := (ho.lt g rfl).1
  refine ⟨g4, c4, by rw [hl], rfl, ?_, ?_, ?_⟩
  · show w4.ownsRow _ _ _ _ (s.1 ++ [r]).length (rwsL (s.1 ++ [r]))
    rw [hl, rwsL_next]
    exact hown
  · have := hg.block w.heap.size (by simp; omega) (fun h => by injection h with h; dsimp only at h; omega)
    exact this.trans ((heap_alloc_old w2 o hlt).trans hc)
  · exact (hb.alloc (by omega) o).grown hg (by simp; omega) (fun i hi => by injection hi with hi; have h' : g = i := hi; omega)
set_option maxRecDepth 100000 in
set_option maxHeartbeats 12800000 in
theorem ref15_rows (w : World) (x : Cfg) (h : In x) : Calls Tryz.prog 122 #[cfV x] w fun e w' => Below w.heap.size w w' ∧ ∃ g c, e = .returned (.slice (some ⟨g, 0, none⟩) (outer x (x.b.toNat + 2)).1.length c) ∧ RowsIn w' g (outer x (x.b.toNat + 2)).1 := by
  obtain ⟨i0, hi, hz0, hz1, hz2⟩ := info_parts info_four
  have HI := Lib.hid hi
  have HZ0 := Lib.hid hz0
  have HZ1 := Lib.hid hz1
  have HZ2 := Lib.hid hz2
  have HIN := Lib.hid h
  have HSI := Lib.hid (fun W p => ref15_side W x p)
  obtain ⟨B, hB⟩ : ∃ B : Nat, B = x.b.toNat := ⟨_, rfl⟩
  have HBX := Lib.hid (show x.b = (B : Int) ∧ 1 ≤ B ∧ B ≤ 3 by have := h.b1; have := h.b3; omega)
  rw [← hB]
  have HB0 := Lib.hid ((Below.refl w.heap.size w).alloc (Nat.le_refl _) (cfO 60 x))
  have HH0 := Lib.hid (heap_alloc_new w (cfO 60 x))
  have HG0 := Lib.hid (show Gath w x (outer x 0) (.slice (some ⟨w.heap.size + 1, 0, none⟩) 0 0) (.int .i64 0) ((w.alloc (cfO 60 x)).alloc (.cells #[] 194)) from
    ⟨w.heap.size + 1, 0, rfl, rfl, by
      show World.ownsRow _ _ _ _ _ 0 []
      have := World.ownsRow_made (e := 194) (size := 4) (w.alloc (cfO 60 x)) #[] 0 (base := w.heap.size + 1) (by simp) (Nat.zero_le _) rfl
      simpa using this, (heap_alloc_old _ _ (by simp)).trans HH0.out, HB0.out.alloc (by simp) _⟩)
  clear hi hz0 hz1 hz2 h hB HB0 HH0
  unfold cfV cfA at HSI ⊢
  go_enter Tryz.func122, Tryz.ntmps122
  go_wp2_with (refine wpList_buildNone rfl 192 194 rfl i0 Tryz.underlying192 HI.out ?_)
  go_loopw [3, 4, 5] (fun v va vb wr => ∃ (n : Nat) (b : Int), vb = .int .i64 b ∧ b = (n : Int) - 1 ∧ n ≤ B + 2 ∧ Gath w x (outer x n) v va wr) (fun _ _ i _ => match i with | .int _ k => B + 2 - (k + 1).toNat | _ => 0)
  case atStart => exact ⟨0, -1, rfl, rfl, by omega, HG0.out⟩
  case round =>
    clear HG0
    obtain ⟨n, b, rfl, hb, hn, hg⟩ := hrel
    have HBN := Lib.hid hb
    have HG := Lib.hid hg
    have hbx := HBX.out
    have hw := IntWalk.wrap64_in (b + 1) (by omega)
    obtain ⟨g0, c0, rfl, rfl, ho0, hc0, hb0⟩ := hg
    have e3 := (six hc0).2.2.2.1
    by_cases hlt : n < B + 2
    · have x0 : b ≤ x.b := by omega
      have x1 : decide (b ≤ x.b) = true := decide_eq_true x0
      have HN1 := Lib.hid (show n + 1 ≤ B + 2 by omega)
      have HM := Lib.hid (show B + 2 - (b + 1 + 1).toNat < B + 2 - (b + 1).toNat by omega)
      clear ho0 hc0 hb0 hb hn hbx hlt
      go_wp2_with (fail)
      go_loopw [3, 4, 6] (fun v va vp wr => ∃ p : Nat, vp = .int .i64 (p : Int) ∧ p ≤ 12 ∧ Gath w x (inner x b (outer x n) p) v va wr) (fun _ _ i _ => match i with | .int _ k => 12 - k.toNat | _ => 0)
      case atStart => exact ⟨0, rfl, by omega, HG.out⟩
      case round =>
        clear e3 HG
        obtain ⟨p, rfl, hp, hgi⟩ := hrel
        have HSK := Lib.hid (fun (h : skipB x b p = true) => show inner x b (outer x n) (p + 1) = inner x b (outer x n) p from if_pos h)
        have HNS := Lib.hid (fun (h : ¬ skipB x b p = true) => show inner x b (outer x n) (p + 1) = ((inner x b (outer x n) p).1 ++ [⟨(p : Int), blkZ b p, (inner x b (outer x n) p).2, areaZ x (p : Int)⟩], (inner x b (outer x n) p).2 + areaZ x (p : Int)) from if_neg h)
        have HOK := Lib.hid (inner_ok HIN.out b (outer_ok HIN.out n) p hp)
        have HGI := Lib.hid hgi
        obtain ⟨g, c, rfl, rfl, hown, hcf, hbl⟩ := hgi
        have HE := Lib.hid (fun (h : p = 12) => show inner x b (outer x n) p = outer x (n + 1) from by rw [h, HBN.out]; rfl)
        generalize inner x b (outer x n) p = s at *
        have HOW := Lib.hid hown
        have HCF := Lib.hid hcf
        have HBL := Lib.hid hbl
        have e3 := (six hcf).2.2.2.1
        clear hown hcf hbl
        by_cases hpt : p < 12
        · have y0 : (p : Int) < 12 := by omega
          have y1 : decide ((p : Int) < 12) = true := decide_eq_true y0
          have y2 := IntWalk.wrap64_in ((p : Int) + 1) (by omega)
          have HP1 := Lib.hid (show p + 1 ≤ 12 by omega)
          clear HE
          -- LEAVES
          have HAR := Lib.hid (area_more HIN.out p HP1.out s.2 HOK.out.low HOK.out.high)
          have HC100 := Lib.hid (show 12 * n + p < 100 by have := HN1.out; have := HBX.out; omega)
          have HSM := Lib.hid (small_more HOK.out.len HC100.out)
          have hn2 := HN1.out
          have hb2 := HBN.out
          have hx2 := HBX.out
          by_cases hb0 : b < 0
          · have z0 : decide (b < 0) = true := decide_eq_true hb0
            have z1 : (b == x.b) = false := beq_eq_false_iff_ne.2 (by omega)
            have z2 : decide (0 ≤ b) = false := decide_eq_false (by omega)
            by_cases hp1 : 1 < p
            · have HB := Lib.hid (show skipB x b p = true from by rw [skip_iff]; omega)
              have q1 : decide (1 < (p : Int)) = true := decide_eq_true (by omega)
              clear hn2 hb2 hx2 hp hpt hb0 hp1
              have HGN := Lib.hid (show Gath w x (inner x b (outer x n) (p + 1)) (.slice (some ⟨g, 0, none⟩) s.1.length c) (.int .i64 s.2) wr from by rw [HSK.out HB.out]; exact HGI.out)
              clear HSK HNS HGI HOW HCF HBL HOK HSI HB HAR
              go_wp2_with (fail)
              exact ⟨⟨p + 1, rfl, HP1.out, HGN.out⟩, less p 12 HP1.out⟩
            · have HB := Lib.hid (show ¬ skipB x b p = true from by rw [skip_iff]; omega)
              have HK := Lib.hid (show blkZ b p = 0 from by unfold blkZ; rw [if_pos (by omega)])
              have q1 : decide (1 < (p : Int)) = false := decide_eq_false (by omega)
              have q2 : decide ((p : Int) < 2) = true := decide_eq_true (by omega)
              clear hn2 hb2 hx2 hp hpt hb0 hp1
              have HNX := Lib.hid (show inner x b (outer x n) (p + 1) = (s.1 ++ [⟨(p : Int), 0, s.2, areaZ x (p : Int)⟩], s.2 + areaZ x (p : Int)) from by rw [HNS.out HB.out, HK.out])
              clear HSK HNS HGI HB HK
              generalize areaZ x (p : Int) = ar at HAR HNX
              obtain ⟨d0, d1, d2, d3, d4, d5⟩ := six HCF.out
              go_wp2_with (fail)
              refine (HSI.out _ _).mono ?_
              rintro e w2 ⟨rfl, b2⟩
              have HOW2 := Lib.hid (own_keeps HOW.out b2)
              have HCF2 := Lib.hid (stays HCF.out b2)
              have HBL2 := Lib.hid (HBL.out.trans (b2.mono HBL.out.size))
              clear b2 HOW HCF HBL e3 d0 d1 d2 d3 d4 d5
              have HS2 := Lib.hid (Array.getElem?_eq_some_iff.1 HCF2.out).1
              have e3 := (six HCF2.out).2.2.2.1
              generalize rowsZ x (p : Int) = R at HAR ⊢
              generalize colsZ x (p : Int) = C at HAR ⊢
              obtain ⟨a1, a3⟩ := HAR.out
              have a2 := a3 HC100.out
              clear a3
              go_wp2_with (first
                | (refine Great.wpList_buildSliceTo rfl 192 194 1 #[(0, .tmp 75)] rfl _ rfl (some 76) rfl Tryz.underlying192 #[.int .i64 (p : Int), .int .i64 0, .int .i64 s.2, .int .i64 ar] (fourOne (p : Int) 0 s.2 ar) ?_)
                | (at_builtin; refine wpList_append_lies _ rfl (.tmp 68) (.tmp 76) 192 rfl (w.heap.size + 1) 194 i0 _ 4 32 Tryz.underlying192 HI.out HZ0.out HZ1.out HZ2.out rfl (by omega) (.slice (some ⟨g, 0, none⟩) s.1.length c) s.1.length _ rfl (HOW2.out.alloc _) ⟨w2.heap.size, 0, none⟩ 1 1 (rwL ⟨(p : Int), 0, s.2, ar⟩) rfl rfl (four_src w2 _ ⟨(p : Int), 0, s.2, ar⟩) (four_one _) (by omega) HSM.out.1 HSM.out.2 (base_more HS2.out _) _ rfl ?_; intro g4 c4 w4 hown4 hg4 hwh4 hl4))
              have HGN := Lib.hid (gath_next (ar := ar) (r := ⟨(p : Int), 0, s.2, ar⟩) HOW2.out HCF2.out HBL2.out hown4 hg4)
              rw [← HNX.out] at HGN
              clear hown4 hg4 hwh4 hl4
              go_wp2_with (fail)
              rw [a2]
              exact ⟨⟨p + 1, rfl, HP1.out, HGN.out⟩, less p 12 HP1.out⟩
          · have z0 : decide (b < 0) = false := decide_eq_false hb0
            have z2 : decide (0 ≤ b) = true := decide_eq_true (by omega)
            by_cases hbx : b = x.b
            · have z1 : (b == x.b) = true := beq_iff_eq.2 hbx
              have z3 : decide (b < x.b) = false := decide_eq_false (by omega)
              by_cases hp1 : p < 11
              · have HB := Lib.hid (show skipB x b p = true from by rw [skip_iff]; omega)
                have q1 : decide ((p : Int) < 11) = true := decide_eq_true (by omega)
                clear hn2 hb2 hx2 hp hpt hb0 hbx hp1
                have HGN := Lib.hid (show Gath w x (inner x b (outer x n) (p + 1)) (.slice (some ⟨g, 0, none⟩) s.1.length c) (.int .i64 s.2) wr from by rw [HSK.out HB.out]; exact HGI.out)
                clear HSK HNS HGI HOW HCF HBL HOK HSI HB HAR
                go_wp2_with (fail)
                exact ⟨⟨p + 1, rfl, HP1.out, HGN.out⟩, less p 12 HP1.out⟩
              · have HB := Lib.hid (show ¬ skipB x b p = true from by rw [skip_iff]; omega)
                have HK := Lib.hid (show blkZ b p = 0 from by unfold blkZ; rw [if_pos (by omega)])
                have q1 : decide ((p : Int) < 11) = false := decide_eq_false (by omega)
                have q2 : decide ((p : Int) < 2) = false := decide_eq_false (by omega)
                have q3 : ((p : Int) == 11) = true := beq_iff_eq.2 (by omega)
                clear hn2 hb2 hx2 hp hpt hb0 hbx hp1
                have HNX := Lib.hid (show inner x b (outer x n) (p + 1) = (s.1 ++ [⟨(p : Int), 0, s.2, areaZ x (p : Int)⟩], s.2 + areaZ x (p : Int)) from by rw [HNS.out HB.out, HK.out])
                clear HSK HNS HGI HB HK
                generalize areaZ x (p : Int) = ar at HAR HNX
                obtain ⟨d0, d1, d2, d3, d4, d5⟩ := six HCF.out
                go_wp2_with (fail)
                refine (HSI.out _ _).mono ?_
                rintro e w2 ⟨rfl, b2⟩
                have HOW2 := Lib.hid (own_keeps HOW.out b2)
                have HCF2 := Lib.hid (stays HCF.out b2)
                have HBL2 := Lib.hid (HBL.out.trans (b2.mono HBL.out.size))
                clear b2 HOW HCF HBL e3 d0 d1 d2 d3 d4 d5
                have HS2 := Lib.hid (Array.getElem?_eq_some_iff.1 HCF2.out).1
                have e3 := (six HCF2.out).2.2.2.1
                generalize rowsZ x (p : Int) = R at HAR ⊢
                generalize colsZ x (p : Int) = C at HAR ⊢
                obtain ⟨a1, a3⟩ := HAR.out
                have a2 := a3 HC100.out
                clear a3
                go_wp2_with (first
                  | (refine Great.wpList_buildSliceTo rfl 192 194 1 #[(0, .tmp 75)] rfl _ rfl (some 76) rfl Tryz.underlying192 #[.int .i64 (p : Int), .int .i64 0, .int .i64 s.2, .int .i64 ar] (fourOne (p : Int) 0 s.2 ar) ?_)
                  | (at_builtin; refine wpList_append_lies _ rfl (.tmp 68) (.tmp 76) 192 rfl (w.heap.size + 1) 194 i0 _ 4 32 Tryz.underlying192 HI.out HZ0.out HZ1.out HZ2.out rfl (by omega) (.slice (some ⟨g, 0, none⟩) s.1.length c) s.1.length _ rfl (HOW2.out.alloc _) ⟨w2.heap.size, 0, none⟩ 1 1 (rwL ⟨(p : Int), 0, s.2, ar⟩) rfl rfl (four_src w2 _ ⟨(p : Int), 0, s.2, ar⟩) (four_one _) (by omega) HSM.out.1 HSM.out.2 (base_more HS2.out _) _ rfl ?_; intro g4 c4 w4 hown4 hg4 hwh4 hl4))
                have HGN := Lib.hid (gath_next (ar := ar) (r := ⟨(p : Int), 0, s.2, ar⟩) HOW2.out HCF2.out HBL2.out hown4 hg4)
                rw [← HNX.out] at HGN
                clear hown4 hg4 hwh4 hl4
                go_wp2_with (fail)
                rw [a2]
                exact ⟨⟨p + 1, rfl, HP1.out, HGN.out⟩, less p 12 HP1.out⟩
            · have z1 : (b == x.b) = false := beq_eq_false_iff_ne.2 hbx
              have z3 : decide (b < x.b) = true := decide_eq_true (by omega)
              by_cases hp1 : p < 2
              · have HB := Lib.hid (show skipB x b p = true from by rw [skip_iff]; omega)
                have q1 : decide ((p : Int) < 2) = true := decide_eq_true (by omega)
                clear hn2 hb2 hx2 hp hpt hb0 hbx hp1
                have HGN := Lib.hid (show Gath w x (inner x b (outer x n) (p + 1)) (.slice (some ⟨g, 0, none⟩) s.1.length c) (.int .i64 s.2) wr from by rw [HSK.out HB.out]; exact HGI.out)
                clear HSK HNS HGI HOW HCF HBL HOK HSI HB HAR
                go_wp2_with (fail)
                exact ⟨⟨p + 1, rfl, HP1.out, HGN.out⟩, less p 12 HP1.out⟩
              by_cases hp2 : 10 < p
              · have HB := Lib.hid (show skipB x b p = true from by rw [skip_iff]; omega)
                have q1 : decide ((p : Int) < 2) = false := decide_eq_false (by omega)
                have q2 : decide (10 < (p : Int)) = true := decide_eq_true (by omega)
                clear hn2 hb2 hx2 hp hpt hb0 hbx hp1 hp2
                have HGN := Lib.hid (show Gath w x (inner x b (outer x n) (p + 1)) (.slice (some ⟨g, 0, none⟩) s.1.length c) (.int .i64 s.2) wr from by rw [HSK.out HB.out]; exact HGI.out)
                clear HSK HNS HGI HOW HCF HBL HOK HSI HB HAR
                go_wp2_with (fail)
                exact ⟨⟨p + 1, rfl, HP1.out, HGN.out⟩, less p 12 HP1.out⟩
              · have HB := Lib.hid (show ¬ skipB x b p = true from by rw [skip_iff]; omega)
                have HK := Lib.hid (show blkZ b p = b from by unfold blkZ; rw [if_neg (by omega)])
                have q1 : decide ((p : Int) < 2) = false := decide_eq_false (by omega)
                have q2 : decide (10 < (p : Int)) = false := decide_eq_false (by omega)
                have q3 : ((p : Int) == 11) = false := beq_eq_false_iff_ne.2 (by omega)
                clear hn2 hb2 hx2 hp hpt hb0 hbx hp1 hp2
                have HNX := Lib.hid (show inner x b (outer x n) (p + 1) = (s.1 ++ [⟨(p : Int), b, s.2, areaZ x (p : Int)⟩], s.2 + areaZ x (p : Int)) from by rw [HNS.out HB.out, HK.out])
                clear HSK HNS HGI HB HK
                generalize areaZ x (p : Int) = ar at HAR HNX
                obtain ⟨d0, d1, d2, d3, d4, d5⟩ := six HCF.out
                go_wp2_with (fail)
                refine (HSI.out _ _).mono ?_
                rintro e w2 ⟨rfl, b2⟩
                have HOW2 := Lib.hid (own_keeps HOW.out b2)
                have HCF2 := Lib.hid (stays HCF.out b2)
                have HBL2 := Lib.hid (HBL.out.trans (b2.mono HBL.out.size))
                clear b2 HOW HCF HBL e3 d0 d1 d2 d3 d4 d5
                have HS2 := Lib.hid (Array.getElem?_eq_some_iff.1 HCF2.out).1
                have e3 := (six HCF2.out).2.2.2.1
                generalize rowsZ x (p : Int) = R at HAR ⊢
                generalize colsZ x (p : Int) = C at HAR ⊢
                obtain ⟨a1, a3⟩ := HAR.out
                have a2 := a3 HC100.out
                clear a3
                go_wp2_with (first
                  | (refine Great.wpList_buildSliceTo rfl 192 194 1 #[(0, .tmp 75)] rfl _ rfl (some 76) rfl Tryz.underlying192 #[.int .i64 (p : Int), .int .i64 b, .int .i64 s.2, .int .i64 ar] (fourOne (p : Int) b s.2 ar) ?_)
                  | (at_builtin; refine wpList_append_lies _ rfl (.tmp 68) (.tmp 76) 192 rfl (w.heap.size + 1) 194 i0 _ 4 32 Tryz.underlying192 HI.out HZ0.out HZ1.out HZ2.out rfl (by omega) (.slice (some ⟨g, 0, none⟩) s.1.length c) s.1.length _ rfl (HOW2.out.alloc _) ⟨w2.heap.size, 0, none⟩ 1 1 (rwL ⟨(p : Int), b, s.2, ar⟩) rfl rfl (four_src w2 _ ⟨(p : Int), b, s.2, ar⟩) (four_one _) (by omega) HSM.out.1 HSM.out.2 (base_more HS2.out _) _ rfl ?_; intro g4 c4 w4 hown4 hg4 hwh4 hl4))
                have HGN := Lib.hid (gath_next (ar := ar) (r := ⟨(p : Int), b, s.2, ar⟩) HOW2.out HCF2.out HBL2.out hown4 hg4)
                rw [← HNX.out] at HGN
                clear hown4 hg4 hwh4 hl4
                go_wp2_with (fail)
                rw [a2]
                exact ⟨⟨p + 1, rfl, HP1.out, HGN.out⟩, less p 12 HP1.out⟩
          -- ENDLEAVES
        · have y0 : ¬ (p : Int) < 12 := by omega
          have y1 : decide ((p : Int) < 12) = false := decide_eq_false y0
          have HE1 := Lib.hid (HE.out (by omega))
          clear HSK HNS HOK HOW HCF HBL HE
          have HGJ := Lib.hid (show Gath w x (outer x (n + 1)) (.slice (some ⟨g, 0, none⟩) s.1.length c) (.int .i64 s.2) wr from by rw [← HE1.out]; exact HGI.out)
          go_wp2_with (fail)
          exact ⟨⟨n + 1, b + 1, by rw [hw], by rw [HBN.out]; omega, HN1.out, HGJ.out⟩, by rw [hw]; exact HM.out⟩
    · have x0 : ¬ b ≤ x.b := by omega
      have x1 : decide (b ≤ x.b) = false := decide_eq_false x0
      have hnb : n = B + 2 := by omega
      subst hnb
      have HOW := Lib.hid ho0
      have HBL := Lib.hid hb0
      clear ho0 hc0 hb0 hb hn hlt HG HBN hbx
      go_wp2_with (fail)
      refine bodyPost_ret (results_tmp rfl _ _ _) rfl ?_
      refine ⟨HBL.out, g0, ⟨c0, rfl⟩, fun j u hj => ?_⟩
      have := HOW.out.cells (g := g0) rfl j u hj
      rwa [Addr.add_lit, Nat.zero_add] at this
end Go.Proofs.YtlechjpaldpgnaaGreatDoor
namespace Go.Proofs.YtlechjpaldpgnaaGreatDoor
open Go.ChangeShapes Go.WideShapes Go.ChangeAt Go.RowKit Cf

namespace Cf
/-- A row's cells, where rows lie. -/
theorem row_cells {W : World} {g : Nat} {L : List Rw} (h : RowsIn W g L) {i : Nat} {r : Rw} (hr : L[i]? = some r) : W.cell? ⟨g, i * 4, none⟩ = some (.int .i64 r.p) ∧ W.cell? ⟨g, i * 4 + 1, none⟩ = some (.int .i64 r.k) ∧ W.cell? ⟨g, i * 4 + 2, none⟩ = some (.int .i64 r.a) ∧ W.cell? ⟨g, i * 4 + 3, none⟩ = some (.int .i64 r.m) :=
  ⟨h (i * 4) _ (by have := rwsL_at L i r hr 0 (by omega); rw [Nat.add_zero] at this; rw [this]; rfl), h _ _ (by rw [rwsL_at L i r hr 1 (by omega)]; rfl), h _ _ (by rw [rwsL_at L i r hr 2 (by omega)]; rfl), h _ _ (by rw [rwsL_at L i r hr 3 (by omega)]; rfl)⟩
end Cf
set_option maxRecDepth 100000 in
set_option maxHeartbeats 3200000 in
theorem ref15_size (w : World) (x : Cfg) (h : In x) : Calls Tryz.prog 106 #[cfV x] w fun e w' => e = .returned (.int .i64 (totZ x)) ∧ Below w.heap.size w w' := by
  have HR := Lib.hid (show ∀ W, Calls Tryz.prog 122 #[cfV x] W fun e w' => Below W.heap.size W w' ∧ ∃ g c, e = .returned (.slice (some ⟨g, 0, none⟩) (allRows x).length c) ∧ RowsIn w' g (allRows x) from fun W => by
    have := ref15_rows W x h
    rw [outer_all h.b1] at this
    exact this)
  obtain ⟨l, r, hl, hr⟩ := last_row x
  have HLR := Lib.hid (show (allRows x)[l.length]? = some r by rw [hl, List.getElem?_append_right (Nat.le_refl _), Nat.sub_self]; rfl)
  have HLN := Lib.hid (show (allRows x).length = l.length + 1 by rw [hl, List.length_append]; rfl)
  have HRT := Lib.hid hr
  have HTT := Lib.hid (tot_in h)
  have HL30 := Lib.hid (all_len h)
  have HB0 := Lib.hid ((Below.refl w.heap.size w).alloc (Nat.le_refl _) (cfO 60 x))
  clear hl hr h
  generalize allRows x = L at HR HLR HLN HL30
  generalize l.length = k at HLR HLN
  generalize totZ x = T at HRT HTT ⊢
  unfold cfO at HB0
  unfold cfV cfA at *
  go_enter Tryz.func106, Tryz.ntmps106
  go_wp2_with (fail)
  refine (HR.out _).mono ?_
  rintro e w1 ⟨b1, g, c, rfl, hin⟩
  have HB1 := Lib.hid (HB0.out.trans (b1.mono HB0.out.size))
  obtain ⟨c0, c1, c2, c3⟩ := row_cells hin HLR.out
  have hn := HLN.out
  have hn30 := HL30.out
  generalize L.length = n at *
  have y0 : IntKind.i64.wrap ((n : Int) - 1) = (k : Int) := by rw [IntWalk.i64_in _ (by omega)]; omega
  have y1 : 0 ≤ (k : Int) := by omega
  have y2 : (k : Int) < (n : Int) := by omega
  have y3 : k < n := by omega
  have y4 : IntKind.i64.wrap (r.a + r.m) = T := by rw [HRT.out]; have := HTT.out; exact IntWalk.i64_in _ (by omega)
  clear b1 hin hn hn30
  go_wp2_with (fail)
  go_quiet (fail)
  have HB2 := Lib.hid (below_drewN HB1.out nq)
  go_wp2_with (fail)
  exact bodyPost_ret (results_tmp rfl _ _ _) rfl ⟨rfl, HB2.out⟩
namespace Cf
theorem in_false {x : Cfg} (h : inZ x = false) : withinZ x.v 2 32 = false ∨ (withinZ x.v 2 32 = true ∧ withinZ x.d 1 16 = false) ∨ (withinZ x.v 2 32 = true ∧ withinZ x.d 1 16 = true ∧ withinZ x.h 1 4 = false) ∨ (withinZ x.v 2 32 = true ∧ withinZ x.d 1 16 = true ∧ withinZ x.h 1 4 = true ∧ withinZ x.b 1 3 = false) ∨
    (withinZ x.v 2 32 = true ∧ withinZ x.d 1 16 = true ∧ withinZ x.h 1 4 = true ∧ withinZ x.b 1 3 = true ∧ withinZ x.n 1 32 = false) ∨ (withinZ x.v 2 32 = true ∧ withinZ x.d 1 16 = true ∧ withinZ x.h 1 4 = true ∧ withinZ x.b 1 3 = true ∧ withinZ x.n 1 32 = true ∧ withinZ x.c 1 32 = false) := by
  unfold inZ at h
  cases h1 : withinZ x.v 2 32 <;> cases h2 : withinZ x.d 1 16 <;> cases h3 : withinZ x.h 1 4 <;> cases h4 : withinZ x.b 1 3 <;> cases h5 : withinZ x.n 1 32 <;> cases h6 : withinZ x.c 1 32 <;> simp_all
theorem in_true {x : Cfg} (h : inZ x = true) : withinZ x.v 2 32 = true ∧ withinZ x.d 1 16 = true ∧ withinZ x.h 1 4 = true ∧ withinZ x.b 1 3 = true ∧ withinZ x.n 1 32 = true ∧ withinZ x.c 1 32 = true := by
  unfold inZ at h
  simpa only [Bool.and_eq_true] using h
end Cf
section
variable (w : World) (x : Cfg)
set_option maxRecDepth 100000 in
set_option maxHeartbeats 6400000 in
theorem ref15_good_not (h : inZ x = false) : Calls Tryz.prog 105 #[cfV x] w fun e w' => e = .returned (.bool false) ∧ Below w.heap.size w w' := by
  have hf := in_false h
  have H1 := Lib.hid (fun W => ref15_in W x.v 2 32)
  have H2 := Lib.hid (fun W => ref15_in W x.d 1 16)
  have H3 := Lib.hid (fun W => ref15_in W x.h 1 4)
  have H4 := Lib.hid (fun W => ref15_in W x.b 1 3)
  have H5 := Lib.hid (fun W => ref15_in W x.n 1 32)
  have H6 := Lib.hid (fun W => ref15_in W x.c 1 32)
  have HB := Lib.hid ((Below.refl w.heap.size w).alloc (Nat.le_refl _) (cfO 60 x))
  clear h
  unfold cfO at HB
  unfold cfV cfA at *
  generalize withinZ x.v 2 32 = b1 at H1 hf
  generalize withinZ x.d 1 16 = b2 at H2 hf
  generalize withinZ x.h 1 4 = b3 at H3 hf
  generalize withinZ x.b 1 3 = b4 at H4 hf
  generalize withinZ x.n 1 32 = b5 at H5 hf
  generalize withinZ x.c 1 32 = b6 at H6 hf
  rcases hf with rfl | ⟨rfl, rfl⟩ | ⟨rfl, rfl, rfl⟩ | ⟨rfl, rfl, rfl, rfl⟩ | ⟨rfl, rfl, rfl, rfl, rfl⟩ | ⟨rfl, rfl, rfl, rfl, rfl, rfl⟩
  all_goals
    go_enter Tryz.func105, Tryz.ntmps105
    go_wp2_with (fail)
    try (refine (H1.out _).mono ?_; rintro e w1 ⟨rfl, rfl⟩; go_wp2_with (fail))
    try (refine (H2.out _).mono ?_; rintro e w1 ⟨rfl, rfl⟩; go_wp2_with (fail))
    try (refine (H3.out _).mono ?_; rintro e w1 ⟨rfl, rfl⟩; go_wp2_with (fail))
    try (refine (H4.out _).mono ?_; rintro e w1 ⟨rfl, rfl⟩; go_wp2_with (fail))
    try (refine (H5.out _).mono ?_; rintro e w1 ⟨rfl, rfl⟩; go_wp2_with (fail))
    try (refine (H6.out _).mono ?_; rintro e w1 ⟨rfl, rfl⟩; go_wp2_with (fail))
    exact bodyPost_ret (results_tmp rfl _ _ _) rfl ⟨rfl, HB.out⟩
set_option maxRecDepth 100000 in
set_option maxHeartbeats 6400000 in
theorem ref15_good_in (h : inZ x = true) : Calls Tryz.prog 105 #[cfV x] w fun e w' => e = .returned (.bool (decide (x.d.tmod x.h = 0) && decide (totZ x ≤ 8192))) ∧ Below w.heap.size w w' := by
  obtain ⟨t1, t2, t3, t4, t5, t6⟩ := in_true h
  have H1 := Lib.hid (fun W => t1 ▸ ref15_in W x.v 2 32)
  have H2 := Lib.hid (fun W => t2 ▸ ref15_in W x.d 1 16)
  have H3 := Lib.hid (fun W => t3 ▸ ref15_in W x.h 1 4)
  have H4 := Lib.hid (fun W => t4 ▸ ref15_in W x.b 1 3)
  have H5 := Lib.hid (fun W => t5 ▸ ref15_in W x.n 1 32)
  have H6 := Lib.hid (fun W => t6 ▸ ref15_in W x.c 1 32)
  have HS := Lib.hid (fun W => ref15_size W x (in_iff.1 h))
  have hin := in_iff.1 h
  have n0 : ¬ x.h = 0 := by have := hin.h1; omega
  have n1 : ¬ x.h = -1 := by have := hin.h1; omega
  have HB0 := Lib.hid ((Below.refl w.heap.size w).alloc (Nat.le_refl _) (cfO 60 x))
  clear h t1 t2 t3 t4 t5 t6 hin
  unfold cfO at HB0
  unfold cfV cfA at *
  by_cases hm : x.d.tmod x.h = 0
  · have hd : decide (x.d.tmod x.h = 0) = true := decide_eq_true hm
    have h2 : (x.d.tmod x.h == 0) = true := beq_iff_eq.2 hm
    rw [hd]
    clear hd hm
    cases h3 : decide (totZ x ≤ 8192)
    all_goals
      have HD := Lib.hid h3
      clear h3
      go_enter Tryz.func105, Tryz.ntmps105
      go_wp2_with (fail)
      refine (H1.out _).mono ?_
      rintro e w1 ⟨rfl, rfl⟩
      go_wp2_with (fail)
      refine (H2.out _).mono ?_
      rintro e w1 ⟨rfl, rfl⟩
      go_wp2_with (fail)
      refine (H3.out _).mono ?_
      rintro e w1 ⟨rfl, rfl⟩
      go_wp2_with (fail)
      refine (H4.out _).mono ?_
      rintro e w1 ⟨rfl, rfl⟩
      go_wp2_with (fail)
      refine (H5.out _).mono ?_
      rintro e w1 ⟨rfl, rfl⟩
      go_wp2_with (fail)
      refine (H6.out _).mono ?_
      rintro e w1 ⟨rfl, rfl⟩
      go_wp2_with (fail)
      refine (HS.out _).mono ?_
      rintro e w2 ⟨rfl, b2⟩
      have HB2 := Lib.hid (HB0.out.trans (b2.mono HB0.out.size))
      have h4 := HD.out
      clear b2
      go_wp2_with (fail)
      exact bodyPost_ret (results_tmp rfl _ _ _) rfl ⟨rfl, HB2.out⟩
  · have hd : decide (x.d.tmod x.h = 0) = false := decide_eq_false hm
    have h2 : (x.d.tmod x.h == 0) = false := beq_eq_false_iff_ne.2 hm
    rw [hd]
    clear hd hm
    go_enter Tryz.func105, Tryz.ntmps105
    go_wp2_with (fail)
    refine (H1.out _).mono ?_
    rintro e w1 ⟨rfl, rfl⟩
    go_wp2_with (fail)
    refine (H2.out _).mono ?_
    rintro e w1 ⟨rfl, rfl⟩
    go_wp2_with (fail)
    refine (H3.out _).mono ?_
    rintro e w1 ⟨rfl, rfl⟩
    go_wp2_with (fail)
    refine (H4.out _).mono ?_
    rintro e w1 ⟨rfl, rfl⟩
    go_wp2_with (fail)
    refine (H5.out _).mono ?_
    rintro e w1 ⟨rfl, rfl⟩
    go_wp2_with (fail)
    refine (H6.out _).mono ?_
    rintro e w1 ⟨rfl, rfl⟩
    go_wp2_with (fail)
    exact bodyPost_ret (results_tmp rfl _ _ _) rfl ⟨rfl, HB0.out⟩
end
theorem ref15_good (w : World) (x : Cfg) : Calls Tryz.prog 105 #[cfV x] w fun e w' => e = .returned (.bool (goodZ x)) ∧ Below w.heap.size w w' := by
  unfold goodZ
  cases h : inZ x with
  | false => exact ref15_good_not w x h
  | true => exact ref15_good_in w x h
end Go.Proofs.YtlechjpaldpgnaaGreatDoor
namespace Go.Proofs.YtlechjpaldpgnaaGreatDoor
open Go.ChangeShapes Go.WideShapes Go.ChangeAt Go.RowKit Cf

/-- What Range answers. -/
def rangeV (x : Cfg) (p k : Int) : Value := if isZ x p k = true then .tuple #[.int .i64 (fromZ x p k), .int .i64 (areaZ x p), .bool true] else .tuple #[.int .i64 0, .int .i64 0, .bool false]
theorem is_iff {x : Cfg} {p k : Int} : isZ x p k = true ↔ Cf.Good x ∧ 0 ≤ p ∧ p ≤ 11 ∧ 0 ≤ k ∧ k < timesZ x p := by
  unfold isZ
  simp only [Bool.and_eq_true, decide_eq_true_iff, good_iff]
theorem range_no {x : Cfg} {p k : Int} (h : ¬ (Cf.Good x ∧ 0 ≤ p ∧ p ≤ 11 ∧ 0 ≤ k ∧ k < timesZ x p)) : rangeV x p k = .tuple #[.int .i64 0, .int .i64 0, .bool false] := if_neg fun hi => h (is_iff.1 hi)
theorem range_yes {x : Cfg} {p k : Int} (h : Cf.Good x ∧ 0 ≤ p ∧ p ≤ 11 ∧ 0 ≤ k ∧ k < timesZ x p) : rangeV x p k = .tuple #[.int .i64 (fromZ x p k), .int .i64 (areaZ x p), .bool true] := if_pos (is_iff.2 h)
theorem from_in {x : Cfg} (h : In x) {q : Int} (h0 : 0 ≤ q) (h1 : q < 3) {p : Nat} (hp : p ≤ 11) : IntKind.i64.wrap (q * spanZ x 2 9) = q * spanZ x 2 9 ∧ IntKind.i64.wrap (q * spanZ x 2 9 + spanZ x 0 p) = q * spanZ x 2 9 + spanZ x 0 p ∧ IntKind.i64.wrap (rowsZ x (p : Int) * colsZ x (p : Int)) = areaZ x (p : Int) := by
  have a1 := span_in h 2 9 (by omega)
  have a2 := span_in h 0 p (by omega)
  have a3 : 0 ≤ q * spanZ x 2 9 := Int.mul_nonneg h0 (by omega)
  have a4 := Int.mul_le_mul (show q ≤ 2 by omega) (show spanZ x 2 9 ≤ 9216 by omega) (by omega) (by omega : (0 : Int) ≤ 2)
  have a5 := area_in h (p := (p : Int)) (by omega) (by omega)
  unfold areaZ at a5 ⊢
  exact ⟨IntWalk.i64_in _ (by omega), IntWalk.i64_in _ (by omega), IntWalk.i64_in _ (by omega)⟩
end Go.Proofs.YtlechjpaldpgnaaGreatDoor
namespace Go.Proofs.YtlechjpaldpgnaaGreatDoor
open Go.ChangeShapes Go.WideShapes Go.ChangeAt Go.RowKit Cf

end Go.Proofs.YtlechjpaldpgnaaGreatDoor
namespace Go.Proofs.YtlechjpaldpgnaaGreatDoor
open Go.ChangeShapes Go.WideShapes Go.ChangeAt Go.RowKit Pn Cf

namespace Cf
theorem nth_in {x : Cfg} (h : In x) (i : Nat) : 1 ≤ nthZ x i ∧ nthZ x i ≤ 32 := by
  obtain ⟨a, b, c, d, e, f, g, h, i', j, k, l⟩ := h
  unfold nthZ
  split <;> omega
theorem join_nums (x : Cfg) (j : Nat) : (⟨(numsL (nthZ x) j).toArray⟩ : ByteArray) ++ ⟨(numL (nthZ x j)).toArray⟩ = ⟨(numsL (nthZ x) (j + 1)).toArray⟩ := by
  rw [numsL_next]
  apply ByteArray.ext
  rw [ByteArray.data_append]
  simp
end Cf
set_option maxRecDepth 100000 in
set_option maxHeartbeats 1600000 in
theorem ref15_bytes (w : World) (x : Cfg) (h : In x) : Calls Tryz.prog 54 #[cfV x] w fun e w' => e = .returned (.string (cfgB x)) ∧ Below w.heap.size w w' := by
  have HN := Lib.hid (fun W i => refw_num W (nthZ x i) (by have := nth_in h i; omega) (by have := nth_in h i; omega))
  have HJ := Lib.hid (join_nums x)
  have HCB := Lib.hid (show cfgB x = ⟨(numsL (nthZ x) 6).toArray⟩ from rfl)
  have HSZ := Lib.hid (show ∀ j, (⟨(numsL (nthZ x) j).toArray⟩ : ByteArray).size = 4 * j from fun j => by rw [size_list, numsL_length])
  have HS4 := Lib.hid (show ∀ j, (⟨(numL (nthZ x j)).toArray⟩ : ByteArray).size = 4 from fun j => by rw [size_list, numL_length])
  have HS0 := Lib.hid (show (⟨(numsL (nthZ x) 0).toArray⟩ : ByteArray) = ⟨#[]⟩ from rfl)
  have HCE := Lib.hid (show ∀ j, j < 6 → (cfA x)[j]? = some (.int .i64 (nthZ x j)) from fun j hj => by
    rcases (show j = 0 ∨ j = 1 ∨ j = 2 ∨ j = 3 ∨ j = 4 ∨ j = 5 by omega) with rfl | rfl | rfl | rfl | rfl | rfl <;> rfl)
  have HB0 := Lib.hid (((Below.refl w.heap.size w).alloc (Nat.le_refl _) (cfO 60 x)).alloc (by simp) (cfO 154 x))
  have HA0 := Lib.hid (show ((w.alloc (cfO 60 x)).alloc (cfO 154 x)).heap[w.heap.size + 1]? = some (cfO 154 x) from heap_alloc2_new w _ _)
  have hcell : ∀ W : World, W.heap[w.heap.size + 1]? = some (cfO 154 x) → ∀ j, j < 6 → W.cell? ⟨w.heap.size + 1, j, none⟩ = some (.int .i64 (nthZ x j)) := fun W hW j hj => by
    rw [cell_of_row W _ j _ _ _ hW]
    exact HCE.out j hj
  have HCL := Lib.hid hcell
  clear hcell h
  generalize cfgB x = CB at HCB ⊢
  generalize hS : (fun j => (⟨(numsL (nthZ x) j).toArray⟩ : ByteArray)) = S
  have hSj : ∀ j, (⟨(numsL (nthZ x) j).toArray⟩ : ByteArray) = S j := fun j => by rw [← hS]
  simp only [hSj] at HJ HCB HSZ HS0
  clear hS hSj HCE
  unfold cfV cfA
  go_enter Tryz.func54, Tryz.ntmps54
  go_wp2_with (fail)
  go_loopw [3, 5] (fun s i wr => ∃ j : Nat, i = .int .i64 (j : Int) ∧ j ≤ 6 ∧ s = .string (S j) ∧ wr.heap[w.heap.size + 1]? = some (cfO 154 x) ∧ Below w.heap.size w wr) (fun _ i _ => match i with | .int _ q => 6 - q.toNat | _ => 0)
  case atStart => exact ⟨0, rfl, Nat.zero_le _, by rw [HS0.out], HA0.out, HB0.out⟩
  case round =>
    clear HB0 HA0
    obtain ⟨j, rfl, hj, rfl, hh, hb⟩ := hrel
    have HH := Lib.hid hh
    have HB := Lib.hid hb
    clear hh hb
    have x2 : 0 ≤ (j : Int) := by omega
    by_cases hlt : j < 6
    · have x0 : (j : Int) < 6 := by omega
      have x1 : decide ((j : Int) < 6) = true := decide_eq_true x0
      have x3 := IntWalk.wrap64_in ((j : Int) + 1) (by omega)
      have hc := HCL.out _ HH.out j hlt
      have HJ1 := Lib.hid (show j + 1 ≤ 6 from hlt)
      have HN1 := Lib.hid (HN.out wr j)
      have HJJ := Lib.hid (HJ.out j)
      have hs1 := HSZ.out j
      have hs2 := HS4.out j
      clear hj
      generalize nthZ x j = z at hc HN1 HJJ hs2
      generalize (⟨(numL z).toArray⟩ : ByteArray) = nz at HN1 HJJ hs2
      have hs3 : ¬ 9223372036854775807 < (S j).size + nz.size := by omega
      clear hs1 hs2
      go_wp2_with (fail)
      refine HN1.out.mono ?_
      rintro e w1 ⟨rfl, b1⟩
      have HB1 := Lib.hid (HB.out.trans (b1.mono HB.out.size))
      have HH1 := Lib.hid (stays HH.out b1)
      clear b1 HB HH
      go_wp2_with (fail)
      exact ⟨⟨j + 1, rfl, HJ1.out, by rw [HJJ.out], HH1.out, HB1.out⟩, less j 6 HJ1.out⟩
    · have x0 : ¬ (j : Int) < 6 := by omega
      have x1 : decide ((j : Int) < 6) = false := decide_eq_false x0
      obtain rfl : j = 6 := by omega
      clear hlt hj
      go_wp2_with (fail)
      exact bodyPost_ret (results_tmp rfl _ _ _) rfl ⟨by rw [HCB.out]; rfl, HB.out⟩
theorem cfI2 (x : Cfg) : (Tryz.prog.info? 60).map (·.size) = some (cfA x).size := by kernel_rfl
/-- What the document's Parse answers. -/
def parseW (t : ByteArray) : Value := if okT free t = true then .tuple #[cfV (cfgT free t), .bool true] else .tuple #[cfV zeroC, .bool false]
/-- The document's eye in the block g, behind i numbers; the result's block is as it was. -/
def RefEyes (w : World) (g : Nat) (t : ByteArray) (i : Nat) (W : World) : Prop := RefAt W g (rsT free t i) (bsT free t i) ∧ W.heap[w.heap.size]? = some (cfO 60 zeroC) ∧ Below w.heap.size w W
theorem refEyes_step {w W : World} {g : Nat} {t : ByteArray} {i : Nat} (hg : w.heap.size < g) (h : RefEyes w g t i W) : Calls Tryz.prog 78 #[.pointer (some ⟨g, 0, none⟩), .int .i64 4294967295] W fun e w' => e = .returned (.int .i64 (vsT free t i : Int)) ∧ RefEyes w g t (i + 1) w' := by
  obtain ⟨h1, h2, h3⟩ := h
  refine (ref_num W g _ _ h1 (sane_T free t i) 4294967295).mono ?_
  rintro e w' ⟨rfl, e1, o1⟩
  exact ⟨rfl, e1, (o1.block _ (Array.getElem?_eq_some_iff.1 h2).1 (by omega)).trans h2, h3.trans (o1.below (by omega) h3.size)⟩
set_option maxRecDepth 100000 in
set_option maxHeartbeats 3200000 in
theorem ref15_parse (w : World) (t : ByteArray) : Calls Tryz.prog 82 #[.string t] w fun e w' => e = .returned (parseW t) ∧ Below w.heap.size w w' := by
  have HGD := Lib.hid (fun W => show Calls Tryz.prog 105 #[.agg #[.int .i64 (cfgT free t).v, .int .i64 (cfgT free t).d, .int .i64 (cfgT free t).h, .int .i64 (cfgT free t).b, .int .i64 (cfgT free t).n, .int .i64 (cfgT free t).c]] W fun e w' => e = .returned (.bool (goodZ (cfgT free t))) ∧ Below W.heap.size W w' from ref15_good W (cfgT free t))
  have HV1 := Lib.hid (fun h => show parseW t = .tuple #[cfV (cfgT free t), .bool true] from if_pos h)
  have HV2 := Lib.hid (fun h => show parseW t = .tuple #[cfV zeroC, .bool false] from if_neg h)
  have HOK := Lib.hid (okT_iff (m := free) (t := t))
  have HZ1 := Lib.hid (fun y => cfI2 y)
  have HX1 := Lib.hid (show ∀ y : Cfg, cfV y = .agg #[.int .i64 y.v, .int .i64 y.d, .int .i64 y.h, .int .i64 y.b, .int .i64 y.n, .int .i64 y.c] from fun _ => rfl)
  have HG := Lib.hid (good_iff (x := cfgT free t))
  have H0 := Lib.hid (fun W g (hg : w.heap.size < g) h => show Calls Tryz.prog 78 #[.pointer (some ⟨g, 0, none⟩), .int .i64 4294967295] W fun e w' => e = .returned (.int .i64 (cfgT free t).v) ∧ RefEyes w g t 1 w' from refEyes_step (w := w) (W := W) (g := g) (t := t) (i := 0) hg h)
  have H1 := Lib.hid (fun W g (hg : w.heap.size < g) h => show Calls Tryz.prog 78 #[.pointer (some ⟨g, 0, none⟩), .int .i64 4294967295] W fun e w' => e = .returned (.int .i64 (cfgT free t).d) ∧ RefEyes w g t 2 w' from refEyes_step (w := w) (W := W) (g := g) (t := t) (i := 1) hg h)
  have H2 := Lib.hid (fun W g (hg : w.heap.size < g) h => show Calls Tryz.prog 78 #[.pointer (some ⟨g, 0, none⟩), .int .i64 4294967295] W fun e w' => e = .returned (.int .i64 (cfgT free t).h) ∧ RefEyes w g t 3 w' from refEyes_step (w := w) (W := W) (g := g) (t := t) (i := 2) hg h)
  have H3 := Lib.hid (fun W g (hg : w.heap.size < g) h => show Calls Tryz.prog 78 #[.pointer (some ⟨g, 0, none⟩), .int .i64 4294967295] W fun e w' => e = .returned (.int .i64 (cfgT free t).b) ∧ RefEyes w g t 4 w' from refEyes_step (w := w) (W := W) (g := g) (t := t) (i := 3) hg h)
  have H4 := Lib.hid (fun W g (hg : w.heap.size < g) h => show Calls Tryz.prog 78 #[.pointer (some ⟨g, 0, none⟩), .int .i64 4294967295] W fun e w' => e = .returned (.int .i64 (cfgT free t).n) ∧ RefEyes w g t 5 w' from refEyes_step (w := w) (W := W) (g := g) (t := t) (i := 4) hg h)
  have H5 := Lib.hid (fun W g (hg : w.heap.size < g) h => show Calls Tryz.prog 78 #[.pointer (some ⟨g, 0, none⟩), .int .i64 4294967295] W fun e w' => e = .returned (.int .i64 (cfgT free t).c) ∧ RefEyes w g t 6 w' from refEyes_step (w := w) (W := W) (g := g) (t := t) (i := 5) hg h)
  generalize parseW t = T at HV1 HV2 ⊢
  generalize cfgT free t = x at *
  obtain ⟨g, hg⟩ : ∃ g, g = (w.alloc (cfO 60 zeroC)).heap.size := ⟨_, rfl⟩
  have HGG := Lib.hid (show w.heap.size < g by rw [hg]; simp)
  have HG1 := Lib.hid (show g = w.heap.size + 1 by rw [hg]; simp)
  have HE0 := Lib.hid (show RefEyes w g t 0 ((w.alloc (cfO 60 zeroC)).alloc (.cells #[.string t, .bool false] 143)) from ⟨by rw [hg]; exact heap_alloc_new _ _, (heap_alloc_old _ _ (by simp)).trans (heap_alloc_new w (cfO 60 zeroC)), ((Below.refl w.heap.size w).alloc (Nat.le_refl _) (cfO 60 zeroC)).alloc (by simp) _⟩)
  clear hg
  go_enter Tryz.func82, Tryz.ntmps82
  go_wp2_with (fail)
  rw [← HG1.out]
  refine (H0.out _ g HGG.out HE0.out).mono ?_
  rintro e w2 ⟨rfl, e2⟩
  have E1 := Lib.hid e2
  clear e2 HE0 H0
  go_wp2_with (fail)
  refine (H1.out _ g HGG.out E1.out).mono ?_
  rintro e w3 ⟨rfl, e3⟩
  have E2 := Lib.hid e3
  clear e3 E1 H1
  go_wp2_with (fail)
  refine (H2.out _ g HGG.out E2.out).mono ?_
  rintro e w4 ⟨rfl, e4⟩
  have E3 := Lib.hid e4
  clear e4 E2 H2
  go_wp2_with (fail)
  refine (H3.out _ g HGG.out E3.out).mono ?_
  rintro e w5 ⟨rfl, e5⟩
  have E4 := Lib.hid e5
  clear e5 E3 H3
  go_wp2_with (fail)
  refine (H4.out _ g HGG.out E4.out).mono ?_
  rintro e w6 ⟨rfl, e6⟩
  have E5 := Lib.hid e6
  clear e6 E4 H4
  go_wp2_with (fail)
  refine (H5.out _ g HGG.out E5.out).mono ?_
  rintro e w7 ⟨rfl, e7⟩
  obtain ⟨f1, f2, f3⟩ := e7
  have b8 := (Below.refl w7.heap.size w7).alloc (Nat.le_refl _) (.cells #[.int .i64 x.v, .int .i64 x.d, .int .i64 x.h, .int .i64 x.b, .int .i64 x.n, .int .i64 x.c] 60)
  have F1 := Lib.hid (f1.of_block (b8.block g f1.lt))
  have F2 := Lib.hid (stays f2 b8)
  have F3 := Lib.hid (f3.trans (b8.mono f3.size))
  have HN0 := Lib.hid (show (w7.alloc (.cells #[.int .i64 x.v, .int .i64 x.d, .int .i64 x.h, .int .i64 x.b, .int .i64 x.n, .int .i64 x.c] 60)).heap[w7.heap.size]? = some (cfO 60 x) from heap_alloc_new w7 _)
  clear f1 f2 f3 b8 E5 H5
  generalize rsT free t 6 = rr at F1 HOK
  generalize bsT free t 6 = bb at F1 HOK
  have r0 := F1.out.rest
  have r1 := F1.out.wrong
  obtain ⟨d0, d1, d2, d3, d4, d5⟩ := six F2.out
  have fz := set_frozen F2.out
  have r2 : (0 : Int) ≤ ((rr).size : Int) := by omega
  cases hb : bb with
  | true =>
    rw [hb] at r1
    have HV := Lib.hid (HV2.out fun h => by have := (HOK.out.1 h).2.1; rw [hb] at this; cases this)
    clear hb HV1 HV2 HOK HG
    go_wp2_with (fail)
    refine bodyPost_ret (res_cell_tmp rfl _ _ _ 60 _ _ _ rfl (set6_row F2.out zeroC) Tryz.underlying60 rfl (HZ1.out zeroC)) rfl ?_
    exact ⟨by rw [HV.out]; rfl, set6_below F3.out (Nat.le_refl _) zeroC⟩
  | false =>
    rw [hb] at r1
    by_cases hs : 0 < (rr).size
    · have HV := Lib.hid (HV2.out fun h => by have := (HOK.out.1 h).2.2; omega)
      have y0 : (0 : Int) < ((rr).size : Int) := by omega
      have y1 : decide ((0 : Int) < ((rr).size : Int)) = true := decide_eq_true y0
      have y2 : decide (0 < (rr).size) = true := decide_eq_true hs
      clear hb HV1 HV2 HOK HG r2
      go_wp2_with (fail)
      refine bodyPost_ret (res_cell_tmp rfl _ _ _ 60 _ _ _ rfl (set6_row F2.out zeroC) Tryz.underlying60 rfl (HZ1.out zeroC)) rfl ?_
      exact ⟨by rw [HV.out]; rfl, set6_below F3.out (Nat.le_refl _) zeroC⟩
    · have y0 : ¬ (0 : Int) < ((rr).size : Int) := by omega
      have y1 : decide ((0 : Int) < ((rr).size : Int)) = false := decide_eq_false y0
      have HSZ := Lib.hid (show (rr).size = 0 by omega)
      have HBD := Lib.hid hb
      have y2 : decide (0 < (rr).size) = false := decide_eq_false hs
      clear hb r2 d0 d1 d2 d3 d4 d5 fz
      go_wp2_with (fail)
      refine (HGD.out _).mono ?_
      rintro e w9 ⟨rfl, b9⟩
      have F4 := Lib.hid (stays F2.out b9)
      have F5 := Lib.hid (F3.out.trans (b9.mono F3.out.size))
      have HN1 := Lib.hid (stays HN0.out b9)
      clear b9 F1 F2 F3 HN0 r0 r1 y0 y1 y2 hs HGD
      obtain ⟨d0, d1, d2, d3, d4, d5⟩ := six F4.out
      obtain ⟨n0, n1, n2, n3, n4, n5⟩ := six HN1.out
      have fz := set_frozen F4.out
      cases hg : goodZ x with
      | true =>
        have HV := Lib.hid (HV1.out (HOK.out.2 ⟨HG.out.1 hg, HBD.out, HSZ.out⟩))
        clear hg HV1 HV2 HOK HG
        go_wp2_with (fail)
        refine bodyPost_ret (res_cell_tmp rfl _ _ _ 60 _ _ _ rfl (set6_row F4.out x) Tryz.underlying60 rfl (HZ1.out x)) rfl ?_
        exact ⟨by rw [HV.out]; rfl, set6_below F5.out (Nat.le_refl _) x⟩
      | false =>
        have HV := Lib.hid (HV2.out fun h => by have := good_iff.2 (HOK.out.1 h).1; rw [hg] at this; cases this)
        clear hg HV1 HV2 HOK HG
        go_wp2_with (fail)
        refine bodyPost_ret (res_cell_tmp rfl _ _ _ 60 _ _ _ rfl (set6_row F4.out zeroC) Tryz.underlying60 rfl (HZ1.out zeroC)) rfl ?_
        exact ⟨by rw [HV.out]; rfl, set6_below F5.out (Nat.le_refl _) zeroC⟩
end Go.Proofs.YtlechjpaldpgnaaGreatDoor
namespace Go.Proofs.YtlechjpaldpgnaaGreatDoor
open Go Go.ChangeShapes Go.WideShapes Go.ChangeAt Go.RowKit Cf

def fieldsCf : List (Bool × TypeId × Nat) := [(true, 3, 0), (true, 3, 1), (true, 3, 2), (true, 3, 3), (true, 3, 4), (true, 3, 5)]
def fieldsSh : List (Bool × TypeId × Nat) := [(true, 60, 0)]
set_option maxRecDepth 100000 in
theorem fields_cf : (Tryz.prog.fieldsOf 60).toList.map (fun f => (f.name != "_", f.type, f.offset)) = fieldsCf := by kernel_rfl
set_option maxRecDepth 100000 in
theorem fields_sh : (Tryz.prog.fieldsOf 101).toList.map (fun f => (f.name != "_", f.type, f.offset)) = fieldsSh := by kernel_rfl
theorem run_part_cf (x : Cfg) (w : World) : (part 3 (cfA x) 0).run Tryz.prog w = .ok (.int .i64 x.v) w ∧ (part 3 (cfA x) 1).run Tryz.prog w = .ok (.int .i64 x.d) w ∧ (part 3 (cfA x) 2).run Tryz.prog w = .ok (.int .i64 x.h) w ∧
    (part 3 (cfA x) 3).run Tryz.prog w = .ok (.int .i64 x.b) w ∧ (part 3 (cfA x) 4).run Tryz.prog w = .ok (.int .i64 x.n) w ∧ (part 3 (cfA x) 5).run Tryz.prog w = .ok (.int .i64 x.c) w := by
  refine ⟨?_, ?_, ?_, ?_, ?_, ?_⟩ <;> simp [part, go_sem, cfA]
theorem run_part_sh (x : Cfg) (w : World) : (part 60 (cfA x) 0).run Tryz.prog w = .ok (.agg (cfA x)) w := by
  simp [part, go_sem, cfA]
set_option maxRecDepth 100000 in
theorem run_eqIn_cf (N : Nat) (x : Cfg) (w : World) : (Op.equalIn (N + 2) 60 (.agg (cfA x)) (.agg (cfA x))).run Tryz.prog w = .ok true w := by
  have ht : Tryz.prog.underlying 60 = some (.struct (Tryz.prog.fieldsOf 60)) := by kernel_rfl
  have hp : Tryz.prog.stoodInHeld 60 = false := by kernel_rfl
  have hf := fields_cf
  have h0 : ∀ (n : Int) w, (Op.equalIn (N + 1) 3 (.int .i64 n) (.int .i64 n)).run Tryz.prog w = .ok true w := fun n w => by
    have h3 := run_equalIn_int (P := Tryz.prog) (w := w) N 3 .i64 .i64 n n Tryz.underlying3
    rwa [beq_self_eq_true] at h3
  rw [run_equalIn_struct (P := Tryz.prog) w (N + 1) _ _ _ ht hp]
  generalize (Tryz.prog.fieldsOf 60).toList = fs at hf
  unfold fieldsCf at hf
  obtain ⟨f0, fs, rfl, g0, hf⟩ := List.map_eq_cons_iff.1 hf
  obtain ⟨f1, fs, rfl, g1, hf⟩ := List.map_eq_cons_iff.1 hf
  obtain ⟨f2, fs, rfl, g2, hf⟩ := List.map_eq_cons_iff.1 hf
  obtain ⟨f3, fs, rfl, g3, hf⟩ := List.map_eq_cons_iff.1 hf
  obtain ⟨f4, fs, rfl, g4, hf⟩ := List.map_eq_cons_iff.1 hf
  obtain ⟨f5, fs, rfl, g5, hf⟩ := List.map_eq_cons_iff.1 hf
  obtain rfl := List.map_eq_nil_iff.1 hf
  simp only [Prod.mk.injEq, bne_iff_ne] at g0 g1 g2 g3 g4 g5
  obtain ⟨a0, a1, a2⟩ := g0
  obtain ⟨b0, b1, b2⟩ := g1
  obtain ⟨c0, c1, c2⟩ := g2
  obtain ⟨d0, d1, d2⟩ := g3
  obtain ⟨e0, e1, e2⟩ := g4
  obtain ⟨f0', f1', f2'⟩ := g5
  obtain ⟨p0, p1, p2, p3, p4, p5⟩ := And.intro (fun w => (run_part_cf x w).1) (And.intro (fun w => (run_part_cf x w).2.1) (And.intro (fun w => (run_part_cf x w).2.2.1) (And.intro (fun w => (run_part_cf x w).2.2.2.1) (And.intro (fun w => (run_part_cf x w).2.2.2.2.1) (fun w => (run_part_cf x w).2.2.2.2.2)))))
  simp only [Op.eqFields, a0, a1, a2, b0, b1, b2, c0, c1, c2, d0, d1, d2, e0, e1, e2, f0', f1', f2', ne_eq, not_false_eq_true, if_true, Sem.run_bind, p0, p1, p2, p3, p4, p5, Result.andThen_ok, h0, Bool.not_true, Bool.false_eq_true, if_false, Sem.run_pure]
set_option maxRecDepth 100000 in
theorem run_eqIn_sh (x : Cfg) (w : World) : (Op.equalIn 10000 101 (.agg (cfA x)) (.agg (cfA x))).run Tryz.prog w = .ok true w := by
  have ht : Tryz.prog.underlying 101 = some (.struct (Tryz.prog.fieldsOf 101)) := by kernel_rfl
  have hp : Tryz.prog.stoodInHeld 101 = false := by kernel_rfl
  have hf := fields_sh
  have h0 := run_eqIn_cf 9997 x
  rw [run_equalIn_struct (P := Tryz.prog) w 9999 _ _ _ ht hp]
  generalize (Tryz.prog.fieldsOf 101).toList = fs at hf
  unfold fieldsSh at hf
  obtain ⟨f0, fs, rfl, g0, hf⟩ := List.map_eq_cons_iff.1 hf
  obtain rfl := List.map_eq_nil_iff.1 hf
  simp only [Prod.mk.injEq, bne_iff_ne] at g0
  obtain ⟨a0, a1, a2⟩ := g0
  simp only [Op.eqFields, a0, a1, a2, ne_eq, not_false_eq_true, if_true, Sem.run_bind, run_part_sh, Result.andThen_ok, h0, Bool.not_true, Bool.false_eq_true, if_false, Sem.run_pure]
theorem run_eql_cf (x : Cfg) (w : World) : (binOp .eql 60 (.agg (cfA x)) (.agg (cfA x))).run Tryz.prog w = .ok (.bool true) w := by
  rw [run_eql_struct, run_eqIn_cf 9998]
  rfl
theorem run_neq_cf (x : Cfg) (w : World) : (binOp .neq 60 (.agg (cfA x)) (.agg (cfA x))).run Tryz.prog w = .ok (.bool false) w := by
  rw [run_neq_struct, run_eqIn_cf 9998]
  rfl
theorem run_neq_sh (x : Cfg) (w : World) : (binOp .neq 101 (.agg (cfA x)) (.agg (cfA x))).run Tryz.prog w = .ok (.bool false) w := by
  rw [run_neq_struct, run_eqIn_sh]
  rfl
end Go.Proofs.YtlechjpaldpgnaaGreatDoor
