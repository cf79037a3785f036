/-
  Package conf: Of. No conditions.
-/
import Derived.Test.YtgenpfhcbopokaaDoorMg13
set_option maxRecDepth 100000
namespace Go.Proofs.YtgenpfhcbopokaaDoor
open Go.ChangeShapes Go.WideShapes Go.ChangeAt Go.RowKit Cf

namespace Cf
def zeroC : Cfg := ⟨0, 0, 0, 0, 0, 0⟩
theorem res_cell_tmp {P : Program} {fn : Func} {p u : Tmp} {ty : TypeId} (h : fn.results = #[.cell p ty, .tmp u]) (tmps : Array Value) (w : World) (g : Nat) (t : TypeId) (cs : Array Value) (fr : Nat × Nat) (d : TypeDesc)
    (hp : tmps.getD p undef = .pointer (some ⟨g, 0, none⟩)) (hg : w.heap[g]? = some (.cells cs t fr))
    (hu : P.underlying ty = some d) (hd : (match d with | .struct _ | .array _ _ => true | _ => false) = true) (hi : (P.info? ty).map (·.size) = some cs.size) :
    (results fn tmps).run P w = .ok (.tuple #[.agg cs, tmps.getD u undef]) w := by
  rw [results_cell_tmp h, hp]
  simp [asAddr, run_loadVar_row w g t ty cs fr d hg hu hd hi]
def set6 (W : World) (b : Nat) (x : Cfg) : World := (((((W.setCell ⟨b, 0, none⟩ (.int .i64 x.v)).setCell ⟨b, 1, none⟩ (.int .i64 x.d)).setCell ⟨b, 2, none⟩ (.int .i64 x.h)).setCell ⟨b, 3, none⟩ (.int .i64 x.b)).setCell ⟨b, 4, none⟩ (.int .i64 x.n)).setCell ⟨b, 5, none⟩ (.int .i64 x.c)
theorem set6_row {W : World} {b : Nat} {t : TypeId} {y : Cfg} (h : W.heap[b]? = some (cfO t y)) (x : Cfg) : (set6 W b x).heap[b]? = some (cfO t x) :=
  heap_setCell_same _ b 5 _ _ _ (heap_setCell_same _ b 4 _ _ _ (heap_setCell_same _ b 3 _ _ _ (heap_setCell_same _ b 2 _ _ _ (heap_setCell_same _ b 1 _ _ _ (heap_setCell_same W b 0 _ _ _ h)))))
theorem set6_other (W : World) (b : Nat) (x : Cfg) (i : Nat) (hi : i ≠ b) : (set6 W b x).heap[i]? = W.heap[i]? := by
  unfold set6
  rw [heap_setCell_other _ ⟨b, 5, none⟩ i _ hi, heap_setCell_other _ ⟨b, 4, none⟩ i _ hi, heap_setCell_other _ ⟨b, 3, none⟩ i _ hi, heap_setCell_other _ ⟨b, 2, none⟩ i _ hi, heap_setCell_other _ ⟨b, 1, none⟩ i _ hi, heap_setCell_other _ ⟨b, 0, none⟩ i _ hi]
theorem set6_size (W : World) (b : Nat) (x : Cfg) : (set6 W b x).heap.size = W.heap.size := by unfold set6; simp [World.setCell]
theorem set6_below {B : Nat} {w0 W : World} (h : Below B w0 W) {b : Nat} (hb : B ≤ b) (x : Cfg) : Below B w0 (set6 W b x) :=
  (((((h.setCell (p := ⟨b, 0, none⟩) hb _).setCell (p := ⟨b, 1, none⟩) hb _).setCell (p := ⟨b, 2, none⟩) hb _).setCell (p := ⟨b, 3, none⟩) hb _).setCell (p := ⟨b, 4, none⟩) hb _).setCell (p := ⟨b, 5, none⟩) hb _
end Cf
theorem cfI (x : Cfg) : (Tryd.prog.info? 36).map (·.size) = some (cfA x).size := by kernel_rfl
/-- What Of answers. -/
def ofZ (x : Cfg) : Value := if goodZ x = true then .tuple #[cfV x, .int .i64 0] else .tuple #[cfV zeroC, .int .i64 1]
set_option maxRecDepth 100000 in
set_option maxHeartbeats 3200000 in
theorem conf_of (w : World) (x : Cfg) : Calls Tryd.prog 29 #[.int .i64 x.v, .int .i64 x.d, .int .i64 x.h, .int .i64 x.b, .int .i64 x.n, .int .i64 x.c] w fun e w' => e = .returned (ofZ x) ∧ Below w.heap.size w w' := by
  have HG := Lib.hid (fun W => conf_good W x)
  have HI := Lib.hid (cfI x)
  have HI0 := Lib.hid (cfI zeroC)
  have HB0 := Lib.hid (((Below.refl w.heap.size w).alloc (Nat.le_refl _) (cfO 36 zeroC)).alloc (by simp) (cfO 23 x))
  have HH0 := Lib.hid ((heap_alloc_old (w.alloc (cfO 36 zeroC)) (cfO 23 x) (by simp : w.heap.size < _)).trans (heap_alloc_new w (cfO 36 zeroC)))
  have HX0 := Lib.hid (show ((w.alloc (cfO 36 zeroC)).alloc (cfO 23 x)).heap[w.heap.size + 1]? = some (cfO 23 x) from heap_alloc2_new w _ _)
  have HT := Lib.hid (show ofZ x = if goodZ x = true then .tuple #[cfV x, .int .i64 0] else .tuple #[cfV zeroC, .int .i64 1] from rfl)
  have HC := Lib.hid (show cfV x = .agg (cfA x) from rfl)
  have HC0 := Lib.hid (show cfV zeroC = .agg (cfA zeroC) from rfl)
  generalize goodZ x = g at HG HT
  generalize ofZ x = T at HT ⊢
  unfold cfV at HG
  have HA := Lib.hid (show cfA x = #[.int .i64 x.v, .int .i64 x.d, .int .i64 x.h, .int .i64 x.b, .int .i64 x.n, .int .i64 x.c] from rfl)
  go_enter Tryd.func29, Tryd.ntmps29
  go_wp2_with (fail)
  refine (HG.out _).mono ?_
  rintro e w1 ⟨rfl, b1⟩
  have HB1 := Lib.hid (HB0.out.trans (b1.mono HB0.out.size))
  have HH1 := Lib.hid (stays HH0.out b1)
  have HX1 := Lib.hid (stays HX0.out b1)
  clear b1 HB0 HH0 HX0 HG
  obtain ⟨e0, e1, e2, e3, e4, e5⟩ := six HX1.out
  have fz := set_frozen HH1.out
  obtain ⟨d0, d1, d2, d3, d4, d5⟩ := six HH1.out
  cases g with
  | true =>
    have HT1 := Lib.hid (show T = .tuple #[cfV x, .int .i64 0] by rw [HT.out, if_pos rfl])
    clear HT
    go_wp2_with (fail)
    refine bodyPost_ret (res_cell_tmp rfl _ _ _ 36 _ _ _ rfl (set6_row HH1.out x) Tryd.underlying36 rfl HI.out) rfl ?_
    exact ⟨by rw [HT1.out, HC.out]; rfl, set6_below HB1.out (Nat.le_refl _) x⟩
  | false =>
    have HT1 := Lib.hid (show T = .tuple #[cfV zeroC, .int .i64 1] by rw [HT.out, if_neg Bool.false_ne_true])
    clear HT
    go_wp2_with (fail)
    refine bodyPost_ret (res_cell_tmp rfl _ _ _ 36 _ _ _ rfl (set6_row HH1.out zeroC) Tryd.underlying36 rfl HI0.out) rfl ?_
    exact ⟨by rw [HT1.out, HC0.out]; rfl, set6_below HB1.out (Nat.le_refl _) zeroC⟩
end Go.Proofs.YtgenpfhcbopokaaDoor
