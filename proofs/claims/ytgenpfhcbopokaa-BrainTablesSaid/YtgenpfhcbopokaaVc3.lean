/-
  Package vecs: Of. Conditions: none; where there is a table, of at most 4096 bytes.
-/
import Derived.Test.YtgenpfhcbopokaaVcText
import Derived.Test.YtgenpfhcbopokaaVc1
import Derived.Deep.OwnRows
import Derived.Laws.ResultCell
namespace Go.Proofs.Ytgenpfhcbopokaa
open Go.ChangeShapes Go.WideShapes Go.ChangeAt Go.RowKit Nm Vc

theorem results_cell_row_tmp {P : Program} {fn : Func} {p u : Tmp} {ty : TypeId} (h : fn.results = #[.cell p ty, .tmp u]) (tmps : Array Value) (w : World) (g : Nat) (t : TypeId) (cs : Array Value) (fr : Nat × Nat) (d : TypeDesc)
    (hp : tmps.getD p undef = .pointer (some ⟨g, 0, none⟩)) (hg : w.heap[g]? = some (.cells cs t fr))
    (hu : P.underlying ty = some d) (hd : (match d with | .struct _ | .array _ _ => true | _ => false) = true) (hi : (P.info? ty).map (·.size) = some cs.size) :
    (results fn tmps).run P w = .ok (.tuple #[.agg cs, tmps.getD u undef]) w := by
  rw [results_cell_tmp h, hp]
  simp [asAddr, run_loadVar_row w g t ty cs fr d hg hu hd hi]
namespace Vc
section
variable {W : World} {b : Nat} {x0 y0 : Int} {A0 : Option Addr} {n0 c0 : Nat} (h : W.heap[b]? = some (tbO x0 y0 A0 n0 c0)) (x y : Int) (A : Option Addr) (n c : Nat)
include h
theorem setT : (((W.setCell ⟨b, 0, none⟩ (.int .i64 x)).setCell ⟨b, 1, none⟩ (.int .i64 y)).setCell ⟨b, 2, none⟩ (.slice A n c)).heap[b]? = some (tbO x y A n c) :=
  heap_setCell_same _ b 2 _ _ _ (heap_setCell_same _ b 1 _ _ _ (heap_setCell_same W b 0 _ _ _ h))
theorem tbFz (i : Nat) : W.frozen? ⟨b, i, none⟩ = false := frozen_of_row W b i _ _ h
end
theorem below_setT {B : Nat} {w0 W : World} (h : Below B w0 W) {b : Nat} (hb : B ≤ b) (r k c : Value) : Below B w0 (((W.setCell ⟨b, 0, none⟩ r).setCell ⟨b, 1, none⟩ k).setCell ⟨b, 2, none⟩ c) :=
  ((h.setCell (p := ⟨b, 0, none⟩) hb r).setCell (p := ⟨b, 1, none⟩) hb k).setCell (p := ⟨b, 2, none⟩) hb c
theorem KIn.setT {kd : IntKind} {W : World} {b : Nat} {A : Option Addr} {zs : List Int} (h : KIn kd W A zs) (hb : ∀ a, A = some a → a.block ≠ b) (r k c : Value) : KIn kd (((W.setCell ⟨b, 0, none⟩ r).setCell ⟨b, 1, none⟩ k).setCell ⟨b, 2, none⟩ c) A zs := fun h0 => by
  obtain ⟨pb, po, e, hc⟩ := h h0
  have hne : pb ≠ b := hb ⟨pb, po, none⟩ e
  refine ⟨pb, po, e, fun i hi => ?_⟩
  rw [World.cell?_of_block (w := W) (a := ⟨pb, po + i, none⟩) (by
    rw [heap_setCell_other _ ⟨b, 2, none⟩ pb _ hne, heap_setCell_other _ ⟨b, 1, none⟩ pb _ hne, heap_setCell_other _ ⟨b, 0, none⟩ pb _ hne])]
  exact hc i hi
end Vc
theorem tbI (x y : Int) (A : Option Addr) (n c : Nat) : (Try.prog.info? 31).map (·.size) = some (tbA x y A n c).size := by kernel_rfl
section
variable (w : World) (x y : Int) (s : ByteArray)
set_option maxRecDepth 100000 in
set_option maxHeartbeats 800000 in
theorem vecs_of_arg (h : (fitB x && fitB y) = false) : Calls Try.prog 17 #[.int .i64 x, .int .i64 y, .string s] w fun e w' => e = .returned (.tuple #[tbV 0 0 none 0 0, .int .i64 1]) ∧ Below w.heap.size w w' := by
  have HB := Lib.hid ((Below.refl w.heap.size w).alloc (Nat.le_refl _) (tbO 0 0 none 0 0))
  have HN := Lib.hid (heap_alloc_new w (tbO 0 0 none 0 0))
  have HI := Lib.hid (tbI 0 0 none 0 0)
  have d0 := tb0 HN.out
  have d1 := tb1 HN.out
  have d2 := tb2 HN.out
  have df := tbFz HN.out
  unfold tbV
  cases hx : fitB x with
  | true =>
    have hy : fitB y = false := by rw [hx, Bool.true_and] at h; exact h
    clear h
    go_enter Try.func17, Try.ntmps17
    go_wp2_with (go_at_call 26; refine (vecs_fits _ _).mono ?_; rintro e w' ⟨rfl, rfl⟩)
    refine bodyPost_ret (results_cell_row_tmp rfl _ _ _ 31 _ _ _ rfl HN.out Try.underlying31 rfl HI.out) rfl ?_
    exact ⟨rfl, HB.out⟩
  | false =>
    clear h
    go_enter Try.func17, Try.ntmps17
    go_wp2_with (go_at_call 26; refine (vecs_fits _ _).mono ?_; rintro e w' ⟨rfl, rfl⟩)
    refine bodyPost_ret (results_cell_row_tmp rfl _ _ _ 31 _ _ _ rfl HN.out Try.underlying31 rfl HI.out) rfl ?_
    exact ⟨rfl, HB.out⟩
set_option maxRecDepth 100000 in
set_option maxHeartbeats 800000 in
theorem vecs_of_form (hx : fitB x = true) (hy : fitB y = true) (h : (s.size : Int) ≠ x * y) : Calls Try.prog 17 #[.int .i64 x, .int .i64 y, .string s] w fun e w' => e = .returned (.tuple #[tbV 0 0 none 0 0, .int .i64 5]) ∧ Below w.heap.size w w' := by
  have HB := Lib.hid ((Below.refl w.heap.size w).alloc (Nat.le_refl _) (tbO 0 0 none 0 0))
  have HN := Lib.hid (heap_alloc_new w (tbO 0 0 none 0 0))
  have HI := Lib.hid (tbI 0 0 none 0 0)
  have d0 := tb0 HN.out
  have d1 := tb1 HN.out
  have d2 := tb2 HN.out
  have df := tbFz HN.out
  have hs := sides (fitB_iff.1 hx) (fitB_iff.1 hy)
  have e1 := IntWalk.wrap64_in (x * y) (by omega)
  have e2 : IntKind.i64.wrap (x * y) = x * y := IntWalk.i64_in _ (by omega)
  generalize hq : x * y = q at e1 e2 hs h
  have t1 : ((s.size : Int) == q) = false := beq_eq_false_iff_ne.2 h
  unfold tbV
  go_enter Try.func17, Try.ntmps17
  go_wp2_with (go_at_call 26; refine (vecs_fits _ _).mono ?_; rintro e w' ⟨rfl, rfl⟩)
  refine bodyPost_ret (results_cell_row_tmp rfl _ _ _ 31 _ _ _ rfl HN.out Try.underlying31 rfl HI.out) rfl ?_
  exact ⟨rfl, HB.out⟩
set_option maxRecDepth 100000 in
set_option maxHeartbeats 1600000 in
theorem vecs_of_ok (hx : fitB x = true) (hy : fitB y = true) (h : (s.size : Int) = x * y) : Calls Try.prog 17 #[.int .i64 x, .int .i64 y, .string s] w fun e w' => ∃ A, e = .returned (.tuple #[tbV x y A s.size s.size, .int .i64 0]) ∧ KIn .i8 w' A (listD s) ∧ Below w.heap.size w w' := by
  have HB := Lib.hid ((Below.refl w.heap.size w).alloc (Nat.le_refl _) (tbO 0 0 none 0 0))
  have HN := Lib.hid (heap_alloc_new w (tbO 0 0 none 0 0))
  have hs1 : (w.alloc (tbO 0 0 none 0 0)).heap.size = w.heap.size + 1 := by simp
  have hs := sides (fitB_iff.1 hx) (fitB_iff.1 hy)
  have e1 := IntWalk.wrap64_in (x * y) (by omega)
  have e2 : IntKind.i64.wrap (x * y) = x * y := IntWalk.i64_in _ (by omega)
  have hm : s.size ≤ 4096 := by omega
  generalize hq : x * y = q at e1 e2 hs h
  subst h
  have HL := Lib.hid (listD_length s)
  obtain ⟨i0, hi, hz0, hz1, hz2⟩ := info_parts info_i8
  have HI := Lib.hid hi
  have HZ0 := Lib.hid hz0
  have HZ1 := Lib.hid hz1
  have HZ2 := Lib.hid hz2
  clear hi hz0 hz1 hz2 hs
  unfold tbV
  go_enter Try.func17, Try.ntmps17
  go_wp2_with (first | (go_at_call 26; refine (vecs_fits _ _).mono ?_; rintro e w' ⟨rfl, rfl⟩) | (at_make; refine wpList_make_row _ rfl _ _ 29 rfl 48 i0 (.int .i8 0) Try.underlying29 HI.out HZ0.out HZ1.out rfl .i64 .i64 s.size rfl rfl (by rw [HZ2.out]; omega) (by omega) ?_))
  have HR0 := Lib.hid (show ((w.alloc (tbO 0 0 none 0 0)).alloc (.cells (madeCells #[.int .i8 0] s.size) 48)).rowIs (w.heap.size + 1) 48 s.size (prt .i8 (listD s) 0) from by
    have := World.rowIs_made (w.alloc (tbO 0 0 none 0 0)) (.int .i8 0) s.size 48
    rw [hs1] at this
    exact this.congr fun i _ => by rw [prt_none])
  have HB0 := Lib.hid (HB.out.alloc (by omega) (.cells (madeCells #[.int .i8 0] s.size) 48))
  have HN0 := Lib.hid ((heap_alloc_old _ _ (by simp : w.heap.size < (w.alloc (tbO 0 0 none 0 0)).heap.size) : ((w.alloc (tbO 0 0 none 0 0)).alloc (.cells (madeCells #[.int .i8 0] s.size) 48)).heap[w.heap.size]? = _).trans HN.out)
  go_loopw [31] (fun i wr => ∃ k : Nat, i = .int .i64 (k : Int) ∧ k ≤ s.size ∧ wr.rowIs (w.heap.size + 1) 48 s.size (prt .i8 (listD s) k) ∧ Below w.heap.size w wr ∧ wr.heap[w.heap.size]? = some (tbO 0 0 none 0 0)) (fun i _ => match i with | .int _ k => s.size - k.toNat | _ => 0)
  case atStart => exact ⟨0, rfl, Nat.zero_le _, HR0.out, HB0.out, HN0.out⟩
  case round =>
    clear HR0 HB0 HB HN HN0 hs1
    obtain ⟨k, rfl, hk, hr, hb, hn⟩ := hrel
    have HR := Lib.hid hr
    have HB := Lib.hid hb
    have HN := Lib.hid hn
    clear hr hb hn
    have x2 : 0 ≤ (k : Int) := by omega
    by_cases hlt : k < s.size
    · have x0 : (k : Int) < (s.size : Int) := by omega
      have x1 : decide ((k : Int) < (s.size : Int)) = true := decide_eq_true x0
      have x3 := IntWalk.wrap64_in ((k : Int) + 1) (by omega)
      have f1 := HR.out.frozen k
      have c1 := HR.out.cell hlt
      have HP := Lib.hid (prt_set HR.out ((listD_at s k hlt).trans (wrap_i8 _).symm))
      have HBS := Lib.hid (HB.out.setCell (p := ⟨w.heap.size + 1, k, none⟩) (Nat.le_succ _) (.int .i8 (IntKind.i8.wrap ((s[k]'hlt).toNat : Int))))
      have HNS := Lib.hid ((heap_setCell_other wr ⟨w.heap.size + 1, k, none⟩ w.heap.size (.int .i8 (IntKind.i8.wrap ((s[k]'hlt).toNat : Int))) (by show w.heap.size ≠ w.heap.size + 1; omega)).trans HN.out)
      go_wp2_with (fail)
      exact ⟨⟨k + 1, rfl, by omega, HP.out, HBS.out, HNS.out⟩, by show s.size - ((k : Int) + 1).toNat < s.size - (k : Int).toNat; omega⟩
    · have hke : k = s.size := by omega
      have x0 : ¬ (k : Int) < (s.size : Int) := by omega
      have x1 : decide ((k : Int) < (s.size : Int)) = false := decide_eq_false x0
      have HI2 := Lib.hid (tbI x y (some ⟨w.heap.size + 1, 0, none⟩) s.size s.size)
      have d0 := tb0 HN.out
      have d1 := tb1 HN.out
      have d2 := tb2 HN.out
      have df := tbFz HN.out
      go_wp2_with (fail)
      refine bodyPost_ret (results_cell_row_tmp rfl _ _ _ 31 _ _ _ rfl (setT HN.out x y (some ⟨w.heap.size + 1, 0, none⟩) s.size s.size) Try.underlying31 rfl HI2.out) rfl ?_
      refine ⟨_, rfl, ?_, below_setT HB.out (Nat.le_refl _) _ _ _⟩
      refine KIn.setT (KIn.row (HR.out.congr fun i hi => by rw [hke]; exact prt_all _ _ _ _ hi) (Nat.le_of_eq HL.out)) (fun a ha => ?_) _ _ _
      injection ha with ha
      rw [← ha]
      exact Nat.succ_ne_self _
end
end Go.Proofs.Ytgenpfhcbopokaa
