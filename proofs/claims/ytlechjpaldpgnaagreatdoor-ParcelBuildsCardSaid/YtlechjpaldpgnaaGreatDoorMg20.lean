/-
  Package conf: Bytes, Parse. No conditions.
-/
import Derived.Test.YtlechjpaldpgnaaGreatDoorMg11
import Derived.Test.YtlechjpaldpgnaaGreatDoorMg19
import Derived.Test.YtlechjpaldpgnaaGreatDoorMg3
import Derived.Great.Walk
set_option maxRecDepth 100000
namespace Go.Proofs.YtlechjpaldpgnaaGreatDoor
open Go.ChangeShapes Go.WideShapes Go.ChangeAt Go.RowKit Pn Cf

theorem cf_calls {P : Program} {f : FuncId} {args : Array Value} {w : World} {Q : Ending → World → Prop} (R : World → Prop) (h0 : R w) (h : ∀ wr, R wr → Calls P f args wr Q) : Calls P f args w Q := h w h0
theorem sixInts (a b c d e f : Int) : Tryz.prog.builtSlice 3 6 [(0, .int .i64 a), (1, .int .i64 b), (2, .int .i64 c), (3, .int .i64 d), (4, .int .i64 e), (5, .int .i64 f)] = some #[.int .i64 a, .int .i64 b, .int .i64 c, .int .i64 d, .int .i64 e, .int .i64 f] := by kernel_rfl
set_option maxRecDepth 100000 in
set_option maxHeartbeats 1600000 in
theorem conf_bytes (w : World) (x : Cfg) : Calls Tryz.prog 55 #[cfV x] w fun e w' => e = .returned (.string (cfgB x)) ∧ Below w.heap.size w w' := by
  have HPL := Lib.hid (cfgB_pen x)
  have HNT := Lib.hid (show ∀ j, j < 6 → (#[.int .i64 x.v, .int .i64 x.d, .int .i64 x.h, .int .i64 x.b, .int .i64 x.n, .int .i64 x.c] : Array Value)[j]? = some (.int .i64 (nthZ x j)) from fun j hj => by
    rcases (show j = 0 ∨ j = 1 ∨ j = 2 ∨ j = 3 ∨ j = 4 ∨ j = 5 by omega) with rfl | rfl | rfl | rfl | rfl | rfl <;> rfl)
  have HCB := Lib.hid (show cfgB x = ⟨(numsL (nthZ x) 6).toArray⟩ from rfl)
  have HS6 := Lib.hid (numsL_length (nthZ x) 6)
  generalize cfgB x = CB at HCB ⊢
  unfold cfV cfA
  go_enter Tryz.func55, Tryz.ntmps55
  go_wp2_with (refine Great.wpList_buildSliceTo rfl 130 3 6 #[(0, .tmp 6), (1, .tmp 9), (2, .tmp 12), (3, .tmp 15), (4, .tmp 18), (5, .tmp 21)] rfl _ rfl (some 22) rfl Tryz.underlying130 #[.int .i64 x.v, .int .i64 x.d, .int .i64 x.h, .int .i64 x.b, .int .i64 x.n, .int .i64 x.c] (sixInts x.v x.d x.h x.b x.n x.c) ?_)
  refine cf_calls (fun W => PenHd W (w.heap.size + 1) none false ∧ W.heap[w.heap.size + 1 + 1]? = some (.cells #[.int .i64 x.v, .int .i64 x.d, .int .i64 x.h, .int .i64 x.b, .int .i64 x.n, .int .i64 x.c] 3 (0, 0)) ∧ Below w.heap.size w W) ?_ ?_
  · refine ⟨?_, ?_, (((Below.refl _ _).alloc (Nat.le_refl _) _).alloc (by simp) _).alloc (by simp; omega) _⟩
    · exact (heap_alloc_old _ _ (by simp)).trans (heap_alloc2_new w _ _)
    · have := heap_alloc_new ((w.alloc (.cells #[.int .i64 x.v, .int .i64 x.d, .int .i64 x.h, .int .i64 x.b, .int .i64 x.n, .int .i64 x.c] 101)).alloc (.cells #[.pointer none, .bool false] 117)) (.cells #[.int .i64 x.v, .int .i64 x.d, .int .i64 x.h, .int .i64 x.b, .int .i64 x.n, .int .i64 x.c] 3)
      simpa using this
  rintro w1 ⟨p1, c1, b1⟩
  have B1 := Lib.hid b1
  refine (pen_num w1 (w.heap.size + 1) [] false ⟨none, p1, rfl⟩ (some ⟨w.heap.size + 1 + 1, 0, none⟩) 6 6 (nthZ x) (by omega) (fun _ => ⟨_, 0, rfl, by omega, fun j hj => ?_⟩) (by simp only [total]; omega)).mono ?_
  · rw [cell_of_row _ _ _ _ _ _ c1, Nat.zero_add]
    exact HNT.out j hj
  rintro e w2 ⟨rfl, h2, o2⟩
  have H2 := Lib.hid h2
  have B2 := Lib.hid (b1.trans (o2.below (by omega) b1.size))
  clear h2 o2 p1 c1 b1 B1
  go_wp2_with (fail)
  refine (pen_bytes w2 (w.heap.size + 1) _ _ H2.out (by simp only [total, size_list, HS6.out]; omega)).mono ?_
  rintro e w3 ⟨rfl, b3⟩
  rw [HPL.out]
  have B3 := Lib.hid (B2.out.trans (b3.mono B2.out.size))
  clear b3
  go_wp2_with (fail)
  refine bodyPost_ret (results_tmp rfl _ _ _) rfl ⟨?_, B3.out⟩
  rw [HCB.out]
  rfl
/-- What Parse answers. -/
def parseV (t : ByteArray) : Value := if okT lim t = true then .tuple #[cfV (cfgT lim t), .int .i64 0] else .tuple #[cfV zeroC, .int .i64 5]
/-- An eye in the block g, behind i numbers; the result's block is as it was. -/
def Eyes (w : World) (g : Nat) (t : ByteArray) (i : Nat) (W : World) : Prop := EyeAt W g (rsT lim t i) (bsT lim t i) ∧ W.heap[w.heap.size]? = some (cfO 101 zeroC) ∧ Below w.heap.size w W
theorem eyes_step {w W : World} {g : Nat} {t : ByteArray} {i : Nat} (hg : w.heap.size < g) (h : Eyes w g t i W) : Calls Tryz.prog 99 #[.pointer (some ⟨g, 0, none⟩), .int .i64 (lim i)] W fun e w' => e = .returned (.int .i64 (vsT lim t i : Int)) ∧ Eyes w g t (i + 1) w' := by
  obtain ⟨h1, h2, h3⟩ := h
  refine (eye_num W g _ _ h1 (lim i)).mono ?_
  rintro e w' ⟨rfl, e1, o1⟩
  exact ⟨rfl, e1, (o1.block _ (Array.getElem?_eq_some_iff.1 h2).1 (by omega)).trans h2, h3.trans (o1.below (by omega) h3.size)⟩
set_option maxRecDepth 100000 in
set_option maxHeartbeats 3200000 in
theorem conf_parse (w : World) (t : ByteArray) : Calls Tryz.prog 77 #[.string t] w fun e w' => e = .returned (parseV t) ∧ Below w.heap.size w w' := by
  have HOF := Lib.hid (fun W => show Calls Tryz.prog 103 #[.int .i64 (vsT lim t 0 : Int), .int .i64 (vsT lim t 1 : Int), .int .i64 (vsT lim t 2 : Int), .int .i64 (vsT lim t 3 : Int), .int .i64 (vsT lim t 4 : Int), .int .i64 (vsT lim t 5 : Int)] W fun e w' => e = .returned (ofZ (cfgT lim t)) ∧ Below W.heap.size W w' from conf_of W (cfgT lim t))
  have HO1 := Lib.hid (fun h => show ofZ (cfgT lim t) = .tuple #[cfV (cfgT lim t), .int .i64 0] from if_pos h)
  have HO2 := Lib.hid (fun h => show ofZ (cfgT lim t) = .tuple #[cfV zeroC, .int .i64 1] from if_neg h)
  have HV1 := Lib.hid (fun h => show parseV t = .tuple #[cfV (cfgT lim t), .int .i64 0] from if_pos h)
  have HV2 := Lib.hid (fun h => show parseV t = .tuple #[cfV zeroC, .int .i64 5] from if_neg h)
  have HOK := Lib.hid (okT_iff (m := lim) (t := t))
  have HZ0 := Lib.hid (cfI zeroC)
  have HX0 := Lib.hid (show cfV zeroC = .agg #[.int .i64 0, .int .i64 0, .int .i64 0, .int .i64 0, .int .i64 0, .int .i64 0] from rfl)
  have HX1 := Lib.hid (show ∀ y : Cfg, cfV y = .agg #[.int .i64 y.v, .int .i64 y.d, .int .i64 y.h, .int .i64 y.b, .int .i64 y.n, .int .i64 y.c] from fun _ => rfl)
  have HZ1 := Lib.hid (fun y => cfI y)
  have HG := Lib.hid (good_iff (x := cfgT lim t))
  have H0 := Lib.hid (fun W g (hg : w.heap.size < g) h => show Calls Tryz.prog 99 #[.pointer (some ⟨g, 0, none⟩), .int .i64 32] W fun e w' => e = .returned (.int .i64 (vsT lim t 0 : Int)) ∧ Eyes w g t 1 w' from eyes_step (i := 0) hg h)
  have H1 := Lib.hid (fun W g (hg : w.heap.size < g) h => show Calls Tryz.prog 99 #[.pointer (some ⟨g, 0, none⟩), .int .i64 16] W fun e w' => e = .returned (.int .i64 (vsT lim t 1 : Int)) ∧ Eyes w g t 2 w' from eyes_step (i := 1) hg h)
  have H2 := Lib.hid (fun W g (hg : w.heap.size < g) h => show Calls Tryz.prog 99 #[.pointer (some ⟨g, 0, none⟩), .int .i64 4] W fun e w' => e = .returned (.int .i64 (vsT lim t 2 : Int)) ∧ Eyes w g t 3 w' from eyes_step (i := 2) hg h)
  have H3 := Lib.hid (fun W g (hg : w.heap.size < g) h => show Calls Tryz.prog 99 #[.pointer (some ⟨g, 0, none⟩), .int .i64 3] W fun e w' => e = .returned (.int .i64 (vsT lim t 3 : Int)) ∧ Eyes w g t 4 w' from eyes_step (i := 3) hg h)
  have H4 := Lib.hid (fun W g (hg : w.heap.size < g) h => show Calls Tryz.prog 99 #[.pointer (some ⟨g, 0, none⟩), .int .i64 32] W fun e w' => e = .returned (.int .i64 (vsT lim t 4 : Int)) ∧ Eyes w g t 5 w' from eyes_step (i := 4) hg h)
  have H5 := Lib.hid (fun W g (hg : w.heap.size < g) h => show Calls Tryz.prog 99 #[.pointer (some ⟨g, 0, none⟩), .int .i64 32] W fun e w' => e = .returned (.int .i64 (vsT lim t 5 : Int)) ∧ Eyes w g t 6 w' from eyes_step (i := 5) hg h)
  generalize ofZ (cfgT lim t) = V at HOF HO1 HO2
  generalize parseV t = T at HV1 HV2 ⊢
  generalize cfgT lim t = x at HO1 HO2 HV1 HV2 HOK HG
  generalize (vsT lim t 0 : Int) = v0 at H0 HOF
  generalize (vsT lim t 1 : Int) = v1 at H1 HOF
  generalize (vsT lim t 2 : Int) = v2 at H2 HOF
  generalize (vsT lim t 3 : Int) = v3 at H3 HOF
  generalize (vsT lim t 4 : Int) = v4 at H4 HOF
  generalize (vsT lim t 5 : Int) = v5 at H5 HOF
  go_enter Tryz.func77, Tryz.ntmps77
  go_wp2_with (fail)
  refine (eye_of t _).mono ?_
  rintro e w1 ⟨rfl, e1, b1⟩
  obtain ⟨g, hg⟩ : ∃ g, g = (w.alloc (cfO 101 zeroC)).heap.size := ⟨_, rfl⟩
  have HGG := Lib.hid (show w.heap.size < g by rw [hg]; simp)
  have E0 := Lib.hid (show Eyes w g t 0 w1 from ⟨by rw [hg]; exact e1, (b1.block w.heap.size (by simp)).trans (heap_alloc_new w (cfO 101 zeroC)), ((Below.refl w.heap.size w).alloc (Nat.le_refl _) (cfO 101 zeroC)).trans (b1.mono (by simp))⟩)
  have hg2 : (w.alloc (.cells #[.int .i64 0, .int .i64 0, .int .i64 0, .int .i64 0, .int .i64 0, .int .i64 0] 101)).heap.size = g := hg.symm
  rw [hg2]
  clear e1 b1 hg hg2
  go_wp2_with (fail)
  refine (H0.out _ g HGG.out E0.out).mono ?_
  rintro e w2 ⟨rfl, e2⟩
  have E1 := Lib.hid e2
  clear e2 E0 H0
  go_wp2_with (fail)
  refine (H1.out _ g HGG.out E1.out).mono ?_
  rintro e w3 ⟨rfl, e3⟩
  have E2 := Lib.hid e3
  clear e3 E1 H1
  go_wp2_with (fail)
  refine (H2.out _ g HGG.out E2.out).mono ?_
  rintro e w4 ⟨rfl, e4⟩
  have E3 := Lib.hid e4
  clear e4 E2 H2
  go_wp2_with (fail)
  refine (H3.out _ g HGG.out E3.out).mono ?_
  rintro e w5 ⟨rfl, e5⟩
  have E4 := Lib.hid e5
  clear e5 E3 H3
  go_wp2_with (fail)
  refine (H4.out _ g HGG.out E4.out).mono ?_
  rintro e w6 ⟨rfl, e6⟩
  have E5 := Lib.hid e6
  clear e6 E4 H4
  go_wp2_with (fail)
  refine (H5.out _ g HGG.out E5.out).mono ?_
  rintro e w7 ⟨rfl, e7⟩
  have E6 := Lib.hid e7
  clear e7 E5 H5
  go_wp2_with (fail)
  refine (HOF.out _).mono ?_
  rintro e w8 ⟨rfl, b8⟩
  obtain ⟨f1, f2, f3⟩ := E6.out
  have F1 := Lib.hid (show EyeAt w8 g (rsT lim t 6) (bsT lim t 6) from f1.of_block (b8.block g f1.lt))
  have F2 := Lib.hid (stays f2 b8)
  have F3 := Lib.hid (f3.trans (b8.mono f3.size))
  clear f1 f2 f3 b8 E6 HOF
  cases hg : goodZ x with
  | false =>
    have HV := Lib.hid (HV2.out fun h => by
      have := good_iff.2 (HOK.out.1 h).1
      rw [hg] at this
      cases this)
    rw [HO2.out (by rw [hg]; exact Bool.false_ne_true), HX0.out]
    clear HO1 HO2 HV1 HV2 HOK HG hg
    have b9 : Below w8.heap.size w8 (w8.alloc (cfO 101 zeroC)) := (Below.refl _ _).alloc (Nat.le_refl _) _
    have G2 := Lib.hid (stays F2.out b9)
    have G3 := Lib.hid (F3.out.trans (b9.mono F3.out.size))
    obtain ⟨d0, d1, d2, d3, d4, d5⟩ := six G2.out
    have fz := set_frozen G2.out
    clear b9 F1 F2 F3
    unfold cfO cfA zeroC at d0 d1 d2 d3 d4 d5 fz
    go_wp2_with (fail)
    refine bodyPost_ret (res_cell_tmp rfl _ _ _ 101 _ _ _ rfl (set6_row G2.out zeroC) Tryz.underlying101 rfl HZ0.out) rfl ?_
    exact ⟨by rw [HV.out, HX0.out]; rfl, set6_below G3.out (Nat.le_refl _) zeroC⟩
  | true =>
    rw [HO1.out hg, HX1.out]
    have b9 : Below w8.heap.size w8 (w8.alloc (cfO 101 x)) := (Below.refl _ _).alloc (Nat.le_refl _) _
    have G1 := Lib.hid (show EyeAt (w8.alloc (cfO 101 x)) g (rsT lim t 6) (bsT lim t 6) from F1.out.of_block (b9.block g F1.out.lt))
    have G2 := Lib.hid (stays F2.out b9)
    have G3 := Lib.hid (F3.out.trans (b9.mono F3.out.size))
    have HEN := Lib.hid (eye_end _ g _ _ G1.out)
    have N0 := Lib.hid (heap_alloc_new w8 (cfO 101 x))
    clear b9 F1 F2 F3 HO1 HO2 G1
    obtain ⟨d0, d1, d2, d3, d4, d5⟩ := six G2.out
    have fz := set_frozen G2.out
    obtain ⟨n0, n1, n2, n3, n4, n5⟩ := six N0.out
    unfold cfO cfA at *
    unfold zeroC at d0 d1 d2 d3 d4 d5
    by_cases he : bsT lim t 6 = false ∧ (rsT lim t 6).size = 0
    · have HV := Lib.hid (HV1.out (HOK.out.2 ⟨HG.out.1 hg, he.1, he.2⟩))
      have HE0 := Lib.hid (show endOf (rsT lim t 6) (bsT lim t 6) = 0 by unfold endOf; rw [if_neg (by omega), he.1]; rfl)
      rw [HE0.out] at HEN
      clear HV1 HV2 HOK HG hg he HE0
      go_wp2_with (fail)
      refine HEN.out.mono ?_
      rintro e wa ⟨rfl, rfl⟩
      go_wp2_with (fail)
      refine bodyPost_ret (res_cell_tmp rfl _ _ _ 101 _ _ _ rfl (set6_row (t := 101) (y := zeroC) G2.out x) Tryz.underlying101 rfl (HZ1.out x)) rfl ?_
      exact ⟨by rw [HV.out, HX1.out]; rfl, set6_below G3.out (Nat.le_refl _) x⟩
    · have HV := Lib.hid (HV2.out fun h => he (HOK.out.1 h).2)
      obtain ⟨q, hq⟩ : ∃ q, q = endOf (rsT lim t 6) (bsT lim t 6) := ⟨_, rfl⟩
      have hq0 : (q != 0) = true := by
        rw [bne_iff_ne, hq]
        unfold endOf errOf
        intro h
        apply he
        cases hb : bsT lim t 6 with
        | true => rw [hb] at h; split at h <;> cases h
        | false =>
          refine ⟨rfl, ?_⟩
          split at h
          · cases h
          · omega
      rw [← hq] at HEN
      clear HV1 HV2 HOK HG hg he hq
      go_wp2_with (fail)
      refine HEN.out.mono ?_
      rintro e wa ⟨rfl, rfl⟩
      go_wp2_with (fail)
      refine bodyPost_ret (res_cell_tmp rfl _ _ _ 101 _ _ _ rfl (set6_row (t := 101) (y := zeroC) G2.out zeroC) Tryz.underlying101 rfl HZ0.out) rfl ?_
      exact ⟨by rw [HV.out, HX0.out]; rfl, set6_below G3.out (Nat.le_refl _) zeroC⟩
end Go.Proofs.YtlechjpaldpgnaaGreatDoor
