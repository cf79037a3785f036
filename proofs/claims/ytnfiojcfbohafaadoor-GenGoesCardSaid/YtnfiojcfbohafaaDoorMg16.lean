/-
  The document's Sum and Dot of layer 1. Conditions: the rows' numbers are there.
  Package vecs: Scale. Conditions: the row's numbers are there, at most 4096.
  The reference of layer 11: Scale. Conditions: the row's numbers are there, at most 4096.
  The reference of layer 11: Times. Conditions: the table's numbers and the row's are there.
-/
import Derived.Test.YtnfiojcfbohafaaDoorMg6
import Derived.Test.YtnfiojcfbohafaaDoorMg12
import Derived.Test.YtnfiojcfbohafaaDoorMg15
import Derived.Test.YtnfiojcfbohafaaDoorMg5
import Derived.Lib.AppendStr
import Derived.OwnWalk
import Derived.Laws.OwnMore
import Derived.Deep.AppendLies
import Derived.Deep.RegionHeld3
set_option maxRecDepth 100000
namespace Go.Proofs.YtnfiojcfbohafaaDoor
open Go.ChangeShapes Go.WideShapes Go.ChangeAt Go.RowKit Nm Vc

namespace Vc
/-- A row of numbers that one owns. -/
def icells (l : List Int) : List Value := l.map fun z => .int .i64 z
theorem icells_length (l : List Int) : (icells l).length = l.length := by simp [icells]
theorem icells_add (l : List Int) (z : Int) : icells (l ++ [z]) = icells l ++ [.int .i64 z] := by simp [icells]
theorem icells_at (l : List Int) (j : Nat) (h : j < l.length) : (icells l)[j]? = some (.int .i64 (l.getD j 0)) := by simp [icells, h]
theorem one_src (w : World) (c : Int) : ∀ j u, ([.int .i64 c] : List Value)[j]? = some u → (w.alloc (.cells #[.int .i64 c] 3)).cell? ((⟨w.heap.size, 0, none⟩ : Addr).add j) = some u := fun j u hj => by
  rw [Addr.add_lit, Nat.zero_add, cell_of_row _ _ _ _ _ _ (heap_alloc_new w _), ← hj]
  exact List.getElem?_toArray
theorem one_one (c : Int) : ∀ u ∈ ([.int .i64 c] : List Value), u.oneCell' = true := fun u hu => by
  obtain rfl := List.mem_singleton.1 hu
  rfl
/-- One's own row of the numbers zs, of the blocks from base on. -/
def Own (w : World) (base : Nat) (v : Value) (zs : List Int) : Prop := w.ownsRow base 3 1 v zs.length (icells zs)
theorem Own.below {w w' : World} {B base : Nat} {v : Value} {zs : List Int} (h : Own w base v zs) (hb : Below B w w') (hB : w.heap.size ≤ B) : Own w' base v zs := by
  refine ⟨h.1, ?_⟩
  rcases h.2 with hn | ⟨g, cap, cur, hv, h1, hg, r⟩
  · exact .inl hn
  · exact .inr ⟨g, cap, cur, hv, h1, (hb.block g (by have := (Array.getElem?_eq_some_iff.1 hg).1; omega)).trans hg, r⟩
theorem Own.slice {w : World} {base : Nat} {v : Value} {zs : List Int} (h : Own w base v zs) : ∃ A cap, v = .slice A zs.length cap := by
  rcases h.2 with ⟨hn, h0⟩ | ⟨g, cap, cur, rfl, hb, _⟩
  · exact ⟨none, 0, by rw [hn, h0]⟩
  · exact ⟨_, cap, rfl⟩
theorem Own.new (w : World) (base : Nat) (hb : base ≤ w.heap.size) : Own (w.alloc (.cells #[] 3)) base (.slice (some ⟨w.heap.size, 0, none⟩) 0 0) [] := World.ownsRow_made w #[] 0 hb (Nat.zero_le _) rfl
theorem Own.kin {w : World} {base : Nat} {A : Option Addr} {n c : Nat} {zs : List Int} (h : Own w base (.slice A n c) zs) : KIn .i64 w A zs := fun h0 => by
  rcases h.2 with ⟨_, he⟩ | ⟨g, cap, cur, hv, _⟩
  · omega
  · injection hv with hv1 hv2 hv3
    subst hv1
    refine ⟨g, 0, rfl, fun i hi => ?_⟩
    have := h.cells (g := g) rfl i (.int .i64 (zs.getD i 0)) (icells_at zs i hi)
    rwa [Addr.add_lit] at this
theorem Own.grew {wz : World} {base j gg cap : Nat} {L : List Int} {z : Int} (hL : L.length = j) (h : wz.ownsRow base 3 1 (.slice (some ⟨gg, 0, none⟩) (j + 1) cap) (j + 1) (icells L ++ [.int .i64 z])) : Own wz base (.slice (some ⟨gg, 0, none⟩) (j + 1) cap) (L ++ [z]) := by
  unfold Own
  rw [icells_add, List.length_append, hL, List.length_singleton]
  exact h
theorem Own.at {w : World} {base j : Nat} {v : Value} {L : List Int} (h : Own w base v L) (hL : L.length = j) : w.ownsRow base 3 1 v j (icells L) := by
  unfold Own at h
  rw [hL] at h
  exact h
theorem below_grew {w0 w wz : World} {B : Nat} {v : Value} {L : List Int} (hb : Below B w0 w) (hB : w0.heap.size = B) (ho : Own w B v L) (o : Obj) (hg : (w.alloc o).grownBy wz v.ownBlock) : Below B w0 wz :=
  (hb.alloc (by have := hb.size; omega) o).grown hg (by have := hb.size; simp; omega) (fun i hi => (ho.lt i hi).1)
end Vc
end Go.Proofs.YtnfiojcfbohafaaDoor
namespace Go.Proofs.YtnfiojcfbohafaaDoor
open Go.ChangeShapes Go.WideShapes Go.ChangeAt Go.RowKit Nm Vc

section
variable (w : World) (p q : Int) (V : Option Addr) (m cv : Nat) (zs : List Int)
set_option maxRecDepth 100000 in
set_option maxHeartbeats 1600000 in
theorem vecs_scale_new (hz : zs.length = m) (hm : m ≤ 4096) (hV : KIn .i64 w V zs) :
    Calls Tryd.prog 47 #[.slice V m cv, .int .i64 p, .int .i64 q] w (RowSaysN w (fun v => v) (scaleL zs p q)) := by
  have HV := Lib.hid hV
  obtain ⟨i0, hi, hz0, hz1, hz2⟩ := info_parts info_int
  have HI := Lib.hid hi
  have HZ0 := Lib.hid hz0
  have HZ1 := Lib.hid hz1
  have HZ2 := Lib.hid hz2
  have HZL := Lib.hid hz
  have HLR := Lib.hid (scaleL_length zs p q)
  have HAT := Lib.hid (scaleL_at zs p q)
  rw [hz] at HLR HAT
  clear hi hz0 hz1 hz2 hV hz
  generalize scaleL zs p q = R at HLR HAT ⊢
  go_enter Tryd.func47, Tryd.ntmps47
  go_wp2_with (at_make; refine wpList_make_row _ rfl _ _ 22 rfl 3 i0 (.int .i64 0) Tryd.underlying22 HI.out HZ0.out HZ1.out rfl .i64 .i64 m rfl rfl (by rw [HZ2.out]; omega) (by omega) ?_)
  have HR0 := Lib.hid (show (w.alloc (.cells (madeCells #[.int .i64 0] m) 3)).rowIs w.heap.size 3 m (prt .i64 R 0) from (World.rowIs_made w (.int .i64 0) m 3).congr fun i _ => by rw [prt_none])
  have HB0 := Lib.hid ((Below.refl w.heap.size w).alloc (Nat.le_refl _) (.cells (madeCells #[.int .i64 0] m) 3))
  go_loopw [15] (fun i wr => ∃ j : Nat, i = .int .i64 (j : Int) ∧ j ≤ m ∧ wr.rowIs w.heap.size 3 m (prt .i64 R j) ∧ Below w.heap.size w wr) (fun i _ => match i with | .int _ k => m - k.toNat | _ => 0)
  case atStart => exact ⟨0, rfl, Nat.zero_le _, HR0.out, HB0.out⟩
  case round =>
    clear HR0 HB0
    obtain ⟨j, rfl, hj, hr, hb⟩ := hrel
    have HR := Lib.hid hr
    have HB := Lib.hid hb
    clear hr hb
    have x2 : 0 ≤ (j : Int) := by omega
    by_cases hlt : j < m
    · have x0 : (j : Int) < (m : Int) := by omega
      have x1 : decide ((j : Int) < (m : Int)) = true := decide_eq_true x0
      have HJ := Lib.hid (show j + 1 ≤ m by omega)
      have HXJ := Lib.hid (HAT.out j hlt)
      obtain ⟨pb, po, rfl, hcell⟩ := (HV.out.below HB.out (Nat.le_refl _)).at (show j < zs.length by rw [HZL.out]; exact hlt)
      generalize zs.getD j 0 = z at hcell HXJ
      go_wp2_with (fail)
      refine (mul_any z p q wr).mono ?_
      rintro e w2 ⟨rfl, d, rfl⟩
      rw [← HXJ.out]
      have HB4 := Lib.hid (below_drewN HB.out d)
      have HR4 : Hid ((wr.drewN d).rowIs w.heap.size 3 m (prt .i64 R j)) := HR
      clear HB HR hcell
      generalize wr.drewN d = w7 at HB4 HR4 ⊢
      have f1 := HR4.out.frozen j
      have c1 := HR4.out.cell hlt
      have HP := Lib.hid (prt_set HR4.out (rfl : R.getD j 0 = R.getD j 0))
      have HBS := Lib.hid (HB4.out.setCell (p := ⟨w.heap.size, j, none⟩) (Nat.le_refl _) (.int .i64 (R.getD j 0)))
      have x3 := IntWalk.wrap64_in ((j : Int) + 1) (by omega)
      generalize R.getD j 0 = z at HP HBS ⊢
      go_wp2_with (fail)
      exact ⟨⟨j + 1, rfl, HJ.out, HP.out, HBS.out⟩, vc_less j m hlt⟩
    · have hke : j = m := by omega
      have x0 : ¬ (j : Int) < (m : Int) := by omega
      have x1 : decide ((j : Int) < (m : Int)) = false := decide_eq_false x0
      go_wp2_with (fail)
      refine bodyPost_ret (results_tmp rfl _ _ _) rfl ?_
      refine ⟨some ⟨w.heap.size, 0, none⟩, m, ?_, KIn.row (HR.out.congr fun i hi => by rw [hke]; exact prt_all _ _ _ _ hi) (Nat.le_of_eq HLR.out), Nat.le_of_eq HLR.out, fun a ha => by injection ha with ha; rw [← ha]; exact Nat.le_refl _, HB.out⟩
      rw [HLR.out]
      rfl
theorem vecs_scale (hz : zs.length = m) (hm : m ≤ 4096) (hV : KIn .i64 w V zs) :
    Calls Tryd.prog 47 #[.slice V m cv, .int .i64 p, .int .i64 q] w (RowSays w (fun v => v) (scaleL zs p q)) := (vecs_scale_new w p q V m cv zs hz hm hV).mono fun _ _ h => h.cap.says
end
end Go.Proofs.YtnfiojcfbohafaaDoor
namespace Go.Proofs.YtnfiojcfbohafaaDoor
open Go.ChangeShapes Go.WideShapes Go.ChangeAt Go.RowKit Nm Vc

theorem take_more (R : List Int) (j : Nat) (h : j < R.length) : R.take (j + 1) = R.take j ++ [R.getD j 0] := by
  rw [List.take_succ_eq_append_getElem h, List.getD_eq_getElem?_getD, List.getElem?_eq_getElem h]
  rfl
end Go.Proofs.YtnfiojcfbohafaaDoor
namespace Go.Proofs.YtnfiojcfbohafaaDoor
open Go.ChangeShapes Go.WideShapes Go.ChangeAt Go.RowKit Nm Vc

theorem app_small {k n : Nat} (h : k + 1 ≤ n) (hn : n ≤ 4096) : k + 1 ≤ maxLen ∧ (k + 1) * 8 ≤ 140737488355328 := by unfold maxLen; omega
theorem base_le {B : Nat} {w0 w : World} (h : Below B w0 w) (hB : w0.heap.size = B) (o : Obj) : B ≤ (w.alloc o).heap.size := by have := h.size; simp; omega
theorem idx_lt {j x k y n : Nat} (hj : j < x) (hk : k < y) (hn : n = x * y) (hx : x ≤ 64) (hy : y ≤ 64) : j * y + k < n ∧ n ≤ 4096 := by
  have h1 : (j + 1) * y ≤ x * y := Nat.mul_le_mul_right _ hj
  have h2 : x * y ≤ 64 * 64 := Nat.mul_le_mul hx hy
  rw [Nat.succ_mul] at h1
  omega
end Go.Proofs.YtnfiojcfbohafaaDoor
