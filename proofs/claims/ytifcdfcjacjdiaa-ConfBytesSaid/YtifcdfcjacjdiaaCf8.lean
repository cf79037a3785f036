/-
  The reference of layer 15: Size, Good, Side. Condition of Size: each number alone can be.
-/
import Derived.Test.YtifcdfcjacjdiaaCf7
import Derived.Test.YtifcdfcjacjdiaaCfEnd
namespace Go.Proofs.Ytifcdfcjacjdiaa
open Go.ChangeShapes Go.WideShapes Go.ChangeAt Go.RowKit Cf

namespace Cf
/-- A row's cells, where rows lie. -/
theorem row_cells {W : World} {g : Nat} {L : List Rw} (h : RowsIn W g L) {i : Nat} {r : Rw} (hr : L[i]? = some r) : W.cell? ⟨g, i * 4, none⟩ = some (.int .i64 r.p) ∧ W.cell? ⟨g, i * 4 + 1, none⟩ = some (.int .i64 r.k) ∧ W.cell? ⟨g, i * 4 + 2, none⟩ = some (.int .i64 r.a) ∧ W.cell? ⟨g, i * 4 + 3, none⟩ = some (.int .i64 r.m) :=
  ⟨h (i * 4) _ (by have := rwsL_at L i r hr 0 (by omega); rw [Nat.add_zero] at this; rw [this]; rfl), h _ _ (by rw [rwsL_at L i r hr 1 (by omega)]; rfl), h _ _ (by rw [rwsL_at L i r hr 2 (by omega)]; rfl), h _ _ (by rw [rwsL_at L i r hr 3 (by omega)]; rfl)⟩
end Cf
set_option maxRecDepth 100000 in
set_option maxHeartbeats 3200000 in
theorem ref15_size (w : World) (x : Cfg) (h : In x) : Calls Try.prog 10 #[cfV x] w fun e w' => e = .returned (.int .i64 (totZ x)) ∧ Below w.heap.size w w' := by
  have HR := Lib.hid (show ∀ W, Calls Try.prog 24 #[cfV x] W fun e w' => Below W.heap.size W w' ∧ ∃ g c, e = .returned (.slice (some ⟨g, 0, none⟩) (allRows x).length c) ∧ RowsIn w' g (allRows x) from fun W => by
    have := ref15_rows W x h
    rw [outer_all h.b1] at this
    exact this)
  obtain ⟨l, r, hl, hr⟩ := last_row x
  have HLR := Lib.hid (show (allRows x)[l.length]? = some r by rw [hl, List.getElem?_append_right (Nat.le_refl _), Nat.sub_self]; rfl)
  have HLN := Lib.hid (show (allRows x).length = l.length + 1 by rw [hl, List.length_append]; rfl)
  have HRT := Lib.hid hr
  have HTT := Lib.hid (tot_in h)
  have HL30 := Lib.hid (all_len h)
  have HB0 := Lib.hid ((Below.refl w.heap.size w).alloc (Nat.le_refl _) (cfO 23 x))
  clear hl hr h
  generalize allRows x = L at HR HLR HLN HL30
  generalize l.length = k at HLR HLN
  generalize totZ x = T at HRT HTT ⊢
  unfold cfO at HB0
  unfold cfV cfA at *
  go_enter Try.func10, Try.ntmps10
  go_wp2_with (fail)
  refine (HR.out _).mono ?_
  rintro e w1 ⟨b1, g, c, rfl, hin⟩
  have HB1 := Lib.hid (HB0.out.trans (b1.mono HB0.out.size))
  obtain ⟨c0, c1, c2, c3⟩ := row_cells hin HLR.out
  have hn := HLN.out
  have hn30 := HL30.out
  generalize L.length = n at *
  have y0 : IntKind.i64.wrap ((n : Int) - 1) = (k : Int) := by rw [IntWalk.i64_in _ (by omega)]; omega
  have y1 : 0 ≤ (k : Int) := by omega
  have y2 : (k : Int) < (n : Int) := by omega
  have y3 : k < n := by omega
  have y4 : IntKind.i64.wrap (r.a + r.m) = T := by rw [HRT.out]; have := HTT.out; exact IntWalk.i64_in _ (by omega)
  clear b1 hin hn hn30
  go_wp2_with (fail)
  go_quiet (fail)
  have HB2 := Lib.hid (below_drewN HB1.out nq)
  go_wp2_with (fail)
  exact bodyPost_ret (results_tmp rfl _ _ _) rfl ⟨rfl, HB2.out⟩
namespace Cf
theorem in_false {x : Cfg} (h : inZ x = false) : withinZ x.v 2 32 = false ∨ (withinZ x.v 2 32 = true ∧ withinZ x.d 1 16 = false) ∨ (withinZ x.v 2 32 = true ∧ withinZ x.d 1 16 = true ∧ withinZ x.h 1 4 = false) ∨ (withinZ x.v 2 32 = true ∧ withinZ x.d 1 16 = true ∧ withinZ x.h 1 4 = true ∧ withinZ x.b 1 3 = false) ∨
    (withinZ x.v 2 32 = true ∧ withinZ x.d 1 16 = true ∧ withinZ x.h 1 4 = true ∧ withinZ x.b 1 3 = true ∧ withinZ x.n 1 32 = false) ∨ (withinZ x.v 2 32 = true ∧ withinZ x.d 1 16 = true ∧ withinZ x.h 1 4 = true ∧ withinZ x.b 1 3 = true ∧ withinZ x.n 1 32 = true ∧ withinZ x.c 1 32 = false) := by
  unfold inZ at h
  cases h1 : withinZ x.v 2 32 <;> cases h2 : withinZ x.d 1 16 <;> cases h3 : withinZ x.h 1 4 <;> cases h4 : withinZ x.b 1 3 <;> cases h5 : withinZ x.n 1 32 <;> cases h6 : withinZ x.c 1 32 <;> simp_all
theorem in_true {x : Cfg} (h : inZ x = true) : withinZ x.v 2 32 = true ∧ withinZ x.d 1 16 = true ∧ withinZ x.h 1 4 = true ∧ withinZ x.b 1 3 = true ∧ withinZ x.n 1 32 = true ∧ withinZ x.c 1 32 = true := by
  unfold inZ at h
  simpa only [Bool.and_eq_true] using h
end Cf
section
variable (w : World) (x : Cfg)
set_option maxRecDepth 100000 in
set_option maxHeartbeats 6400000 in
theorem ref15_good_not (h : inZ x = false) : Calls Try.prog 7 #[cfV x] w fun e w' => e = .returned (.bool false) ∧ Below w.heap.size w w' := by
  have hf := in_false h
  have H1 := Lib.hid (fun W => ref15_in W x.v 2 32)
  have H2 := Lib.hid (fun W => ref15_in W x.d 1 16)
  have H3 := Lib.hid (fun W => ref15_in W x.h 1 4)
  have H4 := Lib.hid (fun W => ref15_in W x.b 1 3)
  have H5 := Lib.hid (fun W => ref15_in W x.n 1 32)
  have H6 := Lib.hid (fun W => ref15_in W x.c 1 32)
  have HB := Lib.hid ((Below.refl w.heap.size w).alloc (Nat.le_refl _) (cfO 23 x))
  clear h
  unfold cfO at HB
  unfold cfV cfA at *
  generalize withinZ x.v 2 32 = b1 at H1 hf
  generalize withinZ x.d 1 16 = b2 at H2 hf
  generalize withinZ x.h 1 4 = b3 at H3 hf
  generalize withinZ x.b 1 3 = b4 at H4 hf
  generalize withinZ x.n 1 32 = b5 at H5 hf
  generalize withinZ x.c 1 32 = b6 at H6 hf
  rcases hf with rfl | ⟨rfl, rfl⟩ | ⟨rfl, rfl, rfl⟩ | ⟨rfl, rfl, rfl, rfl⟩ | ⟨rfl, rfl, rfl, rfl, rfl⟩ | ⟨rfl, rfl, rfl, rfl, rfl, rfl⟩
  all_goals
    go_enter Try.func7, Try.ntmps7
    go_wp2_with (fail)
    try (refine (H1.out _).mono ?_; rintro e w1 ⟨rfl, rfl⟩; go_wp2_with (fail))
    try (refine (H2.out _).mono ?_; rintro e w1 ⟨rfl, rfl⟩; go_wp2_with (fail))
    try (refine (H3.out _).mono ?_; rintro e w1 ⟨rfl, rfl⟩; go_wp2_with (fail))
    try (refine (H4.out _).mono ?_; rintro e w1 ⟨rfl, rfl⟩; go_wp2_with (fail))
    try (refine (H5.out _).mono ?_; rintro e w1 ⟨rfl, rfl⟩; go_wp2_with (fail))
    try (refine (H6.out _).mono ?_; rintro e w1 ⟨rfl, rfl⟩; go_wp2_with (fail))
    exact bodyPost_ret (results_tmp rfl _ _ _) rfl ⟨rfl, HB.out⟩
set_option maxRecDepth 100000 in
set_option maxHeartbeats 6400000 in
theorem ref15_good_in (h : inZ x = true) : Calls Try.prog 7 #[cfV x] w fun e w' => e = .returned (.bool (decide (x.d.tmod x.h = 0) && decide (totZ x ≤ 8192))) ∧ Below w.heap.size w w' := by
  obtain ⟨t1, t2, t3, t4, t5, t6⟩ := in_true h
  have H1 := Lib.hid (fun W => t1 ▸ ref15_in W x.v 2 32)
  have H2 := Lib.hid (fun W => t2 ▸ ref15_in W x.d 1 16)
  have H3 := Lib.hid (fun W => t3 ▸ ref15_in W x.h 1 4)
  have H4 := Lib.hid (fun W => t4 ▸ ref15_in W x.b 1 3)
  have H5 := Lib.hid (fun W => t5 ▸ ref15_in W x.n 1 32)
  have H6 := Lib.hid (fun W => t6 ▸ ref15_in W x.c 1 32)
  have HS := Lib.hid (fun W => ref15_size W x (in_iff.1 h))
  have hin := in_iff.1 h
  have n0 : ¬ x.h = 0 := by have := hin.h1; omega
  have n1 : ¬ x.h = -1 := by have := hin.h1; omega
  have HB0 := Lib.hid ((Below.refl w.heap.size w).alloc (Nat.le_refl _) (cfO 23 x))
  clear h t1 t2 t3 t4 t5 t6 hin
  unfold cfO at HB0
  unfold cfV cfA at *
  by_cases hm : x.d.tmod x.h = 0
  · have hd : decide (x.d.tmod x.h = 0) = true := decide_eq_true hm
    have h2 : (x.d.tmod x.h == 0) = true := beq_iff_eq.2 hm
    rw [hd]
    clear hd hm
    cases h3 : decide (totZ x ≤ 8192)
    all_goals
      have HD := Lib.hid h3
      clear h3
      go_enter Try.func7, Try.ntmps7
      go_wp2_with (fail)
      refine (H1.out _).mono ?_
      rintro e w1 ⟨rfl, rfl⟩
      go_wp2_with (fail)
      refine (H2.out _).mono ?_
      rintro e w1 ⟨rfl, rfl⟩
      go_wp2_with (fail)
      refine (H3.out _).mono ?_
      rintro e w1 ⟨rfl, rfl⟩
      go_wp2_with (fail)
      refine (H4.out _).mono ?_
      rintro e w1 ⟨rfl, rfl⟩
      go_wp2_with (fail)
      refine (H5.out _).mono ?_
      rintro e w1 ⟨rfl, rfl⟩
      go_wp2_with (fail)
      refine (H6.out _).mono ?_
      rintro e w1 ⟨rfl, rfl⟩
      go_wp2_with (fail)
      refine (HS.out _).mono ?_
      rintro e w2 ⟨rfl, b2⟩
      have HB2 := Lib.hid (HB0.out.trans (b2.mono HB0.out.size))
      have h4 := HD.out
      clear b2
      go_wp2_with (fail)
      exact bodyPost_ret (results_tmp rfl _ _ _) rfl ⟨rfl, HB2.out⟩
  · have hd : decide (x.d.tmod x.h = 0) = false := decide_eq_false hm
    have h2 : (x.d.tmod x.h == 0) = false := beq_eq_false_iff_ne.2 hm
    rw [hd]
    clear hd hm
    go_enter Try.func7, Try.ntmps7
    go_wp2_with (fail)
    refine (H1.out _).mono ?_
    rintro e w1 ⟨rfl, rfl⟩
    go_wp2_with (fail)
    refine (H2.out _).mono ?_
    rintro e w1 ⟨rfl, rfl⟩
    go_wp2_with (fail)
    refine (H3.out _).mono ?_
    rintro e w1 ⟨rfl, rfl⟩
    go_wp2_with (fail)
    refine (H4.out _).mono ?_
    rintro e w1 ⟨rfl, rfl⟩
    go_wp2_with (fail)
    refine (H5.out _).mono ?_
    rintro e w1 ⟨rfl, rfl⟩
    go_wp2_with (fail)
    refine (H6.out _).mono ?_
    rintro e w1 ⟨rfl, rfl⟩
    go_wp2_with (fail)
    exact bodyPost_ret (results_tmp rfl _ _ _) rfl ⟨rfl, HB0.out⟩
end
theorem ref15_good (w : World) (x : Cfg) : Calls Try.prog 7 #[cfV x] w fun e w' => e = .returned (.bool (goodZ x)) ∧ Below w.heap.size w w' := by
  unfold goodZ
  cases h : inZ x with
  | false => exact ref15_good_not w x h
  | true => exact ref15_good_in w x h
set_option maxRecDepth 100000 in
set_option maxHeartbeats 1600000 in
theorem ref15_Side (w : World) (x : Cfg) (p : Int) : Calls Try.prog 12 #[cfV x, .int .i64 p] w fun e w' => e = .returned (.tuple #[.int .i64 (if goodZ x = true then rowsZ x p else 0), .int .i64 (if goodZ x = true then colsZ x p else 0)]) ∧ Below w.heap.size w w' := by
  have HG := Lib.hid (fun W => ref15_good W x)
  have HB0 := Lib.hid ((Below.refl w.heap.size w).alloc (Nat.le_refl _) (cfO 23 x))
  have HH0 := Lib.hid (heap_alloc_new w (cfO 23 x))
  have k0 := six HH0.out
  have HT := Lib.hid (fun W => ref15_side W x p)
  generalize goodZ x = g at HG ⊢
  unfold cfO at HB0 HH0 k0
  unfold cfV cfA at *
  cases g with
  | false =>
    go_enter Try.func12, Try.ntmps12
    go_wp2_with (fail)
    refine (HG.out _).mono ?_
    rintro e w1 ⟨rfl, b1⟩
    have HB1 := Lib.hid (HB0.out.trans (b1.mono HB0.out.size))
    clear b1
    go_wp2_with (fail)
    exact bodyPost_ret (results_tmp2 rfl _ _ _) rfl ⟨rfl, HB1.out⟩
  | true =>
    rw [if_pos rfl, if_pos rfl]
    go_enter Try.func12, Try.ntmps12
    go_wp2_with (fail)
    refine (HG.out _).mono ?_
    rintro e w1 ⟨rfl, b1⟩
    have HH1 := Lib.hid (stays (x := x) (t := 23) HH0.out b1)
    have HB1 := Lib.hid (HB0.out.trans (b1.mono HB0.out.size))
    obtain ⟨e0, e1, e2, e3, e4, e5⟩ := six (x := x) (t := 23) HH1.out
    clear b1 k0
    go_wp2_with (fail)
    refine (HT.out _).mono ?_
    rintro e w2 ⟨rfl, b2⟩
    have HB2 := Lib.hid (HB1.out.trans (b2.mono HB1.out.size))
    clear b2
    go_wp2_with (fail)
    exact bodyPost_ret (results_tmp2 rfl _ _ _) rfl ⟨rfl, HB2.out⟩
end Go.Proofs.Ytifcdfcjacjdiaa
