/-
  Package conf: Good, Size, Side, HeadDim, Of. No conditions.
-/
import Derived.Test.YtgenpfhcbopokaaDoorMg12
import Derived.Laws.ResultCell
import Derived.Deep.OwnRows
set_option maxRecDepth 100000
namespace Go.Proofs.YtgenpfhcbopokaaDoor
open Go.ChangeShapes Go.WideShapes Go.ChangeAt Go.RowKit Cf

set_option maxRecDepth 100000 in
set_option maxHeartbeats 3200000 in
theorem conf_good (w : World) (x : Cfg) : Calls Tryd.prog 16 #[cfV x] w fun e w' => e = .returned (.bool (goodZ x)) ∧ Below w.heap.size w w' := by
  have HBD := Lib.hid (fun W => conf_bounded W x)
  have HB0 := Lib.hid ((Below.refl w.heap.size w).alloc (Nat.le_refl _) (cfO 23 x))
  have HH0 := Lib.hid (heap_alloc_new w (cfO 23 x))
  have k0 := six HH0.out
  have HT := Lib.hid (fun (h : In x) W => conf_total W x h)
  unfold goodZ
  have HI := Lib.hid (in_iff (x := x))
  generalize hg : inZ x = g at HBD HI ⊢
  clear hg
  unfold cfO at HB0 HH0 k0
  unfold cfV cfA at *
  cases g with
  | false =>
    go_enter Tryd.func16, Tryd.ntmps16
    go_wp2_with (fail)
    refine (HBD.out _).mono ?_
    rintro e w1 ⟨rfl, b1⟩
    have HB1 := Lib.hid (HB0.out.trans (b1.mono HB0.out.size))
    clear b1
    go_wp2_with (fail)
    exact bodyPost_ret (results_tmp rfl _ _ _) rfl ⟨rfl, HB1.out⟩
  | true =>
    have hin := HI.out.1 rfl
    have n0 : ¬ x.h = 0 := by have := hin.h1; omega
    have n1 : ¬ x.h = -1 := by have := hin.h1; omega
    have HT1 := Lib.hid (HT.out hin)
    clear HT hin HI
    by_cases hm : x.d.tmod x.h = 0
    · have hd : decide (x.d.tmod x.h = 0) = true := decide_eq_true hm
      have h2 : (x.d.tmod x.h == 0) = true := beq_iff_eq.2 hm
      rw [hd]
      clear hd hm
      cases h3 : decide (totZ x ≤ 8192)
      all_goals
        have H3 := Lib.hid h3
        clear h3
        go_enter Tryd.func16, Tryd.ntmps16
        go_wp2_with (fail)
        refine (HBD.out _).mono ?_
        rintro e w1 ⟨rfl, b1⟩
        have HH1 := Lib.hid (stays (x := x) (t := 23) HH0.out b1)
        have HB1 := Lib.hid (HB0.out.trans (b1.mono HB0.out.size))
        obtain ⟨e0, e1, e2, e3, e4, e5⟩ := six (x := x) (t := 23) HH1.out
        clear b1 k0
        go_wp2_with (fail)
        refine (HT1.out _).mono ?_
        rintro e w2 ⟨rfl, b2⟩
        have HB2 := Lib.hid (HB1.out.trans (b2.mono HB1.out.size))
        have h4 := H3.out
        clear b2
        go_wp2_with (fail)
        exact bodyPost_ret (results_tmp rfl _ _ _) rfl ⟨rfl, HB2.out⟩
    · have hd : decide (x.d.tmod x.h = 0) = false := decide_eq_false hm
      have h2 : (x.d.tmod x.h == 0) = false := beq_eq_false_iff_ne.2 hm
      rw [hd]
      clear hd hm
      go_enter Tryd.func16, Tryd.ntmps16
      go_wp2_with (fail)
      refine (HBD.out _).mono ?_
      rintro e w1 ⟨rfl, b1⟩
      have HH1 := Lib.hid (stays (x := x) (t := 23) HH0.out b1)
      have HB1 := Lib.hid (HB0.out.trans (b1.mono HB0.out.size))
      obtain ⟨e0, e1, e2, e3, e4, e5⟩ := six (x := x) (t := 23) HH1.out
      clear b1 k0
      go_wp2_with (fail)
      exact bodyPost_ret (results_tmp rfl _ _ _) rfl ⟨rfl, HB1.out⟩
theorem set_frozen {w : World} {b : Nat} {t : TypeId} {x : Cfg} (h : w.heap[b]? = some (cfO t x)) (i : Nat) : w.frozen? ⟨b, i, none⟩ = false := frozen_of_row w b i _ _ h
set_option maxRecDepth 100000 in
set_option maxHeartbeats 1600000 in
theorem conf_size (w : World) (x : Cfg) : Calls Tryd.prog 15 #[cfV x] w fun e w' => e = .returned (.int .i64 (if goodZ x = true then totZ x else 0)) ∧ Below w.heap.size w w' := by
  have HG := Lib.hid (fun W => conf_good W x)
  have HB0 := Lib.hid ((Below.refl w.heap.size w).alloc (Nat.le_refl _) (cfO 36 x))
  have HH0 := Lib.hid (heap_alloc_new w (cfO 36 x))
  have k0 := six HH0.out
  have HT := Lib.hid (fun (h : In x) W => conf_total W x h)
  have HI := Lib.hid (good_iff (x := x))
  generalize goodZ x = g at HG HI ⊢
  unfold cfO at HB0 HH0 k0
  unfold cfV cfA at *
  cases g with
  | false =>
    go_enter Tryd.func15, Tryd.ntmps15
    go_wp2_with (fail)
    refine (HG.out _).mono ?_
    rintro e w1 ⟨rfl, b1⟩
    have HB1 := Lib.hid (HB0.out.trans (b1.mono HB0.out.size))
    clear b1
    go_wp2_with (fail)
    exact bodyPost_ret (results_tmp rfl _ _ _) rfl ⟨rfl, HB1.out⟩
  | true =>
    have HT1 := Lib.hid (HT.out (HI.out.1 rfl).is)
    rw [if_pos rfl]
    go_enter Tryd.func15, Tryd.ntmps15
    go_wp2_with (fail)
    refine (HG.out _).mono ?_
    rintro e w1 ⟨rfl, b1⟩
    have HH1 := Lib.hid (stays (x := x) (t := 36) HH0.out b1)
    have HB1 := Lib.hid (HB0.out.trans (b1.mono HB0.out.size))
    obtain ⟨e0, e1, e2, e3, e4, e5⟩ := six (x := x) (t := 36) HH1.out
    clear b1 k0
    go_wp2_with (fail)
    refine (HT1.out _).mono ?_
    rintro e w2 ⟨rfl, b2⟩
    have HB2 := Lib.hid (HB1.out.trans (b2.mono HB1.out.size))
    clear b2
    go_wp2_with (fail)
    exact bodyPost_ret (results_tmp rfl _ _ _) rfl ⟨rfl, HB2.out⟩
set_option maxRecDepth 100000 in
set_option maxHeartbeats 1600000 in
theorem conf_Side (w : World) (x : Cfg) (p : Int) : Calls Tryd.prog 22 #[cfV x, .int .i64 p] w fun e w' => e = .returned (.tuple #[.int .i64 (if goodZ x = true then rowsZ x p else 0), .int .i64 (if goodZ x = true then colsZ x p else 0)]) ∧ Below w.heap.size w w' := by
  have HG := Lib.hid (fun W => conf_good W x)
  have HB0 := Lib.hid ((Below.refl w.heap.size w).alloc (Nat.le_refl _) (cfO 36 x))
  have HH0 := Lib.hid (heap_alloc_new w (cfO 36 x))
  have k0 := six HH0.out
  have HT := Lib.hid (fun W => conf_side W x p)
  generalize goodZ x = g at HG ⊢
  unfold cfO at HB0 HH0 k0
  unfold cfV cfA at *
  cases g with
  | false =>
    go_enter Tryd.func22, Tryd.ntmps22
    go_wp2_with (fail)
    refine (HG.out _).mono ?_
    rintro e w1 ⟨rfl, b1⟩
    have HB1 := Lib.hid (HB0.out.trans (b1.mono HB0.out.size))
    clear b1
    go_wp2_with (fail)
    exact bodyPost_ret (results_tmp2 rfl _ _ _) rfl ⟨rfl, HB1.out⟩
  | true =>
    rw [if_pos rfl, if_pos rfl]
    go_enter Tryd.func22, Tryd.ntmps22
    go_wp2_with (fail)
    refine (HG.out _).mono ?_
    rintro e w1 ⟨rfl, b1⟩
    have HH1 := Lib.hid (stays (x := x) (t := 36) HH0.out b1)
    have HB1 := Lib.hid (HB0.out.trans (b1.mono HB0.out.size))
    obtain ⟨e0, e1, e2, e3, e4, e5⟩ := six (x := x) (t := 36) HH1.out
    clear b1 k0
    go_wp2_with (fail)
    refine (HT.out _).mono ?_
    rintro e w2 ⟨rfl, b2⟩
    have HB2 := Lib.hid (HB1.out.trans (b2.mono HB1.out.size))
    clear b2
    go_wp2_with (fail)
    exact bodyPost_ret (results_tmp2 rfl _ _ _) rfl ⟨rfl, HB2.out⟩
theorem quo_in {x : Cfg} (h : In x) : wrap64 (x.d.tdiv x.h) = x.d.tdiv x.h := by
  have h1 := h.d1
  have h2 := h.d16
  have h3 := h.h1
  have h4 : x.d.tdiv x.h = x.d / x.h := Int.tdiv_eq_ediv_of_nonneg (by omega)
  have h5 : 0 ≤ x.d / x.h := Int.ediv_nonneg (by omega) (by omega)
  have h6 : x.d / x.h ≤ x.d := Int.ediv_le_self _ (by omega)
  exact IntWalk.wrap64_in _ (by omega)
set_option maxRecDepth 100000 in
set_option maxHeartbeats 1600000 in
theorem conf_headDim (w : World) (x : Cfg) : Calls Tryd.prog 13 #[cfV x] w fun e w' => e = .returned (.int .i64 (if goodZ x = true then x.d.tdiv x.h else 0)) ∧ Below w.heap.size w w' := by
  have HG := Lib.hid (fun W => conf_good W x)
  have HB0 := Lib.hid ((Below.refl w.heap.size w).alloc (Nat.le_refl _) (cfO 36 x))
  have HH0 := Lib.hid (heap_alloc_new w (cfO 36 x))
  have k0 := six HH0.out
  have HI := Lib.hid (good_iff (x := x))
  generalize goodZ x = g at HG HI ⊢
  unfold cfO at HB0 HH0 k0
  unfold cfV cfA at *
  cases g with
  | false =>
    go_enter Tryd.func13, Tryd.ntmps13
    go_wp2_with (fail)
    refine (HG.out _).mono ?_
    rintro e w1 ⟨rfl, b1⟩
    have HB1 := Lib.hid (HB0.out.trans (b1.mono HB0.out.size))
    clear b1
    go_wp2_with (fail)
    exact bodyPost_ret (results_tmp rfl _ _ _) rfl ⟨rfl, HB1.out⟩
  | true =>
    have hin := (HI.out.1 rfl).is
    have n0 : ¬ x.h = 0 := by have := hin.h1; omega
    have n1 : ¬ x.h = -1 := by have := hin.h1; omega
    have HQ := Lib.hid (quo_in hin)
    rw [if_pos rfl]
    clear hin
    go_enter Tryd.func13, Tryd.ntmps13
    go_wp2_with (fail)
    refine (HG.out _).mono ?_
    rintro e w1 ⟨rfl, b1⟩
    have HH1 := Lib.hid (stays (x := x) (t := 36) HH0.out b1)
    have HB1 := Lib.hid (HB0.out.trans (b1.mono HB0.out.size))
    obtain ⟨e0, e1, e2, e3, e4, e5⟩ := six (x := x) (t := 36) HH1.out
    clear b1 k0
    go_wp2_with (fail)
    refine bodyPost_ret (results_tmp rfl _ _ _) rfl ⟨?_, HB1.out⟩
    show Ending.returned (.int .i64 (wrap64 (x.d.tdiv x.h))) = _
    rw [HQ.out]
end Go.Proofs.YtgenpfhcbopokaaDoor
