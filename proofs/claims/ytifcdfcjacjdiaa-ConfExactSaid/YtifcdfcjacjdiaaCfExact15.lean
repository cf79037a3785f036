/-
  ConfExact: of every shape whether it can be, its sizes, and where each part stands, are the document's. The walk. No conditions.
-/
import Derived.Test.YtifcdfcjacjdiaaCfAwake15
import Derived.Test.YtifcdfcjacjdiaaCf9
import Derived.Test.YtifcdfcjacjdiaaCfEq
namespace Go.Proofs.Ytifcdfcjacjdiaa
open Go.ChangeShapes Go.WideShapes Go.ChangeAt Go.RowKit Cf

namespace confExact
theorem range_parts (x : Cfg) (p k : Int) : ∃ F A I, rangeV x p k = .tuple #[.int .i64 F, .int .i64 A, .bool I] := by
  unfold rangeV
  split
  · exact ⟨_, _, _, rfl⟩
  · exact ⟨_, _, _, rfl⟩
set_option maxRecDepth 100000 in
set_option maxHeartbeats 6400000 in
theorem walk (w : World) (x : Cfg) (p k : Int) : Calls Try.prog 3 #[cfV x, .int .i64 p, .int .i64 k] w fun e w' => e = .returned (.bool true) ∧ Below w.heap.size w w' := by
  have HAW := Lib.hid awake15
  have HRG := Lib.hid (fun W => ref15_good W x)
  have HOF := Lib.hid (fun W => conf_of W x)
  have HCG := Lib.hid (fun W => conf_good W x)
  have HCS := Lib.hid (fun W => conf_size W x)
  have HCH := Lib.hid (fun W => conf_headDim W x)
  have HCI := Lib.hid (fun W => conf_Side W x p)
  have HRI := Lib.hid (fun W => ref15_Side W x p)
  obtain ⟨F, A, I, hrv⟩ := range_parts x p k
  have HCR := Lib.hid (fun W => hrv ▸ conf_range W x p k)
  have HRR := Lib.hid (fun W => hrv ▸ ref15_range W x p k)
  have HB0 := Lib.hid ((Below.refl w.heap.size w).alloc (Nat.le_refl _) (cfO 23 x))
  have HH0 := Lib.hid (heap_alloc_new w (cfO 23 x))
  have HEQ := Lib.hid (fun W => run_eqIn_cf 9998 x W)
  have HEZ := Lib.hid (fun W => run_eqIn_sh zeroC W)
  have fF : (F == F) = true := beq_self_eq_true _
  have fA : (A == A) = true := beq_self_eq_true _
  have fI : (I == I) = true := beq_self_eq_true _
  clear hrv
  cases hg : goodZ x with
  | true =>
    have hgd := good_iff.1 hg
    rw [hg] at HRG HCG HCS HCH HCI HRI
    simp only [if_true] at HCS HCH HCI HRI
    have HOF1 := Lib.hid (show ∀ W, Calls Try.prog 8 #[.int .i64 x.v, .int .i64 x.d, .int .i64 x.h, .int .i64 x.b, .int .i64 x.n, .int .i64 x.c] W fun e w' => e = .returned (.tuple #[cfV x, .int .i64 0]) ∧ Below W.heap.size W w' from fun W => by
      have := HOF.out W
      rw [show ofZ x = _ from if_pos hg] at this
      exact this)
    have HRS := Lib.hid (fun W => ref15_size W x hgd.is)
    have HQ := Lib.hid (quo_in hgd.is)
    have n0 : ¬ x.h = 0 := by have := hgd.is.h1; omega
    have n1 : ¬ x.h = -1 := by have := hgd.is.h1; omega
    clear HOF HEZ hgd hg
    generalize totZ x = T at *
    generalize rowsZ x p = R at *
    generalize colsZ x p = C at *
    have fT : (T == T) = true := beq_self_eq_true _
    have fR : (R == R) = true := beq_self_eq_true _
    have fC : (C == C) = true := beq_self_eq_true _
    unfold cfV cfA at *
    go_enter Try.func3, Try.ntmps3
    go_wp2_with (fail)
    refine (HAW.out _).mono ?_
    rintro e w1 ⟨rfl, b1⟩
    have HB1 := Lib.hid (HB0.out.trans (b1.mono HB0.out.size))
    have HH1 := Lib.hid (stays HH0.out b1)
    obtain ⟨e0, e1, e2, e3, e4, e5⟩ := six HH1.out
    clear b1 HAW HB0 HH0
    go_wp2_with (fail)
    refine (HRG.out _).mono ?_
    rintro e w2 ⟨rfl, b2⟩
    have HB2 := Lib.hid (HB1.out.trans (b2.mono HB1.out.size))
    have HH2 := Lib.hid (stays HH1.out b2)
    clear e0 e1 e2 e3 e4 e5 b2 HRG HB1 HH1
    obtain ⟨e0, e1, e2, e3, e4, e5⟩ := six HH2.out
    go_wp2_with (fail)
    refine (HOF1.out _).mono ?_
    rintro e w3 ⟨rfl, b3⟩
    have b4 := b3.alloc b3.size (cfO 27 x)
    have HB3 := Lib.hid (HB2.out.trans (b4.mono HB2.out.size))
    have HH3 := Lib.hid (show (w3.alloc (cfO 27 x)).heap[w.heap.size]? = some (cfO 23 x) from stays HH2.out b4)
    have HS3 := Lib.hid (heap_alloc_new w3 (cfO 27 x))
    clear e0 e1 e2 e3 e4 e5 b3 b4 HOF1 HB2 HH2
    obtain ⟨e0, e1, e2, e3, e4, e5⟩ := six HH3.out
    unfold cfO cfA at e0 e1 e2 e3 e4 e5
    go_wp2_with (fail)
    refine (HCG.out _).mono ?_
    rintro e w4 ⟨rfl, b4⟩
    have b5 := b4.alloc b4.size (cfO 27 x)
    have HB5 := Lib.hid (HB3.out.trans (b5.mono HB3.out.size))
    have HH4 := Lib.hid (stays HH3.out b4)
    have HS4 := Lib.hid (stays HS3.out b4)
    have HH5 := Lib.hid (show (w4.alloc (cfO 27 x)).heap[w.heap.size]? = some (cfO 23 x) from stays HH3.out b5)
    have HS5 := Lib.hid (heap_alloc_new w4 (cfO 27 x))
    clear e0 e1 e2 e3 e4 e5 b4 b5 HCG HB3 HH3 HS3
    generalize w3.heap.size = m at *
    obtain ⟨e0, e1, e2, e3, e4, e5⟩ := six HH4.out
    obtain ⟨d0, d1, d2, d3, d4, d5⟩ := six HS4.out
    obtain ⟨f0, f1, f2, f3, f4, f5⟩ := six HH5.out
    obtain ⟨g0, g1, g2, g3, g4, g5⟩ := six HS5.out
    have hq := HEQ.out
    unfold cfO cfA at f0 f1 f2 f3 f4 f5 g0 g1 g2 g3 g4 g5
    go_wp2_with (fail)
    refine (HRS.out _).mono ?_
    rintro e w6 ⟨rfl, b6⟩
    have HB6 := Lib.hid (HB5.out.trans (b6.mono HB5.out.size))
    have HH6 := Lib.hid (stays HH5.out b6)
    have HS6 := Lib.hid (stays HS5.out b6)
    generalize w4.heap.size = q at *
    clear e0 e1 e2 e3 e4 e5 d0 d1 d2 d3 d4 d5 f0 f1 f2 f3 f4 f5 g0 g1 g2 g3 g4 g5 HH4 HS4 hq b6 HRS HB5 HH5 HS5
    obtain ⟨e0, e1, e2, e3, e4, e5⟩ := six HH6.out
    obtain ⟨d0, d1, d2, d3, d4, d5⟩ := six HS6.out
    go_wp2_with (fail)
    refine (HCI.out _).mono ?_
    rintro e w7 ⟨rfl, b7⟩
    have HB7 := Lib.hid (HB6.out.trans (b7.mono HB6.out.size))
    have HH7 := Lib.hid (stays HH6.out b7)
    have HS7 := Lib.hid (stays HS6.out b7)
    clear e0 e1 e2 e3 e4 e5 d0 d1 d2 d3 d4 d5 b7 HCI HB6 HH6 HS6
    obtain ⟨e0, e1, e2, e3, e4, e5⟩ := six HH7.out
    obtain ⟨d0, d1, d2, d3, d4, d5⟩ := six HS7.out
    go_wp2_with (fail)
    refine (HRI.out _).mono ?_
    rintro e w8 ⟨rfl, b8⟩
    have HB8 := Lib.hid (HB7.out.trans (b8.mono HB7.out.size))
    have HH8 := Lib.hid (stays HH7.out b8)
    have HS8 := Lib.hid (stays HS7.out b8)
    clear e0 e1 e2 e3 e4 e5 d0 d1 d2 d3 d4 d5 b8 HRI HB7 HH7 HS7
    obtain ⟨e0, e1, e2, e3, e4, e5⟩ := six HH8.out
    obtain ⟨d0, d1, d2, d3, d4, d5⟩ := six HS8.out
    go_wp2_with (fail)
    refine (HCR.out _).mono ?_
    rintro e w9 ⟨rfl, b9⟩
    have HB9 := Lib.hid (HB8.out.trans (b9.mono HB8.out.size))
    have HH9 := Lib.hid (stays HH8.out b9)
    have HS9 := Lib.hid (stays HS8.out b9)
    clear e0 e1 e2 e3 e4 e5 d0 d1 d2 d3 d4 d5 b9 HCR HB8 HH8 HS8
    obtain ⟨e0, e1, e2, e3, e4, e5⟩ := six HH9.out
    obtain ⟨d0, d1, d2, d3, d4, d5⟩ := six HS9.out
    go_wp2_with (fail)
    refine (HRR.out _).mono ?_
    rintro e w10 ⟨rfl, b10⟩
    have HB10 := Lib.hid (HB9.out.trans (b10.mono HB9.out.size))
    have HH10 := Lib.hid (stays HH9.out b10)
    have HS10 := Lib.hid (stays HS9.out b10)
    clear e0 e1 e2 e3 e4 e5 d0 d1 d2 d3 d4 d5 b10 HRR HB9 HH9 HS9
    obtain ⟨e0, e1, e2, e3, e4, e5⟩ := six HH10.out
    obtain ⟨d0, d1, d2, d3, d4, d5⟩ := six HS10.out
    go_wp2_with (fail)
    refine (HCS.out _).mono ?_
    rintro e w11 ⟨rfl, b11⟩
    have HB11 := Lib.hid (HB10.out.trans (b11.mono HB10.out.size))
    have HH11 := Lib.hid (stays HH10.out b11)
    have HS11 := Lib.hid (stays HS10.out b11)
    clear e0 e1 e2 e3 e4 e5 d0 d1 d2 d3 d4 d5 b11 HCS HB10 HH10 HS10
    obtain ⟨e0, e1, e2, e3, e4, e5⟩ := six HH11.out
    obtain ⟨d0, d1, d2, d3, d4, d5⟩ := six HS11.out
    go_wp2_with (fail)
    refine (HCH.out _).mono ?_
    rintro e w12 ⟨rfl, b12⟩
    have HB12 := Lib.hid (HB11.out.trans (b12.mono HB11.out.size))
    have HH12 := Lib.hid (stays HH11.out b12)
    have HS12 := Lib.hid (stays HS11.out b12)
    clear e0 e1 e2 e3 e4 e5 d0 d1 d2 d3 d4 d5 b12 HCH HB11 HH11 HS11
    obtain ⟨e0, e1, e2, e3, e4, e5⟩ := six HH12.out
    obtain ⟨d0, d1, d2, d3, d4, d5⟩ := six HS12.out
    have hqq := HQ.out
    go_wp2_with (fail)
    exact bodyPost_ret (results_tmp rfl _ _ _) rfl ⟨rfl, HB12.out⟩
  | false =>
    rw [hg] at HRG HCG HCS HCH HCI HRI
    simp only [Bool.false_eq_true, if_false] at HCS HCH HCI HRI
    have HOF1 := Lib.hid (show ∀ W, Calls Try.prog 8 #[.int .i64 x.v, .int .i64 x.d, .int .i64 x.h, .int .i64 x.b, .int .i64 x.n, .int .i64 x.c] W fun e w' => e = .returned (.tuple #[.agg #[.int .i64 0, .int .i64 0, .int .i64 0, .int .i64 0, .int .i64 0, .int .i64 0], .int .i64 1]) ∧ Below W.heap.size W w' from fun W => by
      have := HOF.out W
      rw [show ofZ x = _ from if_neg (by rw [hg]; exact Bool.false_ne_true)] at this
      exact this)
    clear HOF HEQ hg
    unfold cfV cfA at *
    go_enter Try.func3, Try.ntmps3
    go_wp2_with (fail)
    refine (HAW.out _).mono ?_
    rintro e w1 ⟨rfl, b1⟩
    have HB1 := Lib.hid (HB0.out.trans (b1.mono HB0.out.size))
    have HH1 := Lib.hid (stays HH0.out b1)
    obtain ⟨e0, e1, e2, e3, e4, e5⟩ := six HH1.out
    clear b1 HAW HB0 HH0
    go_wp2_with (fail)
    refine (HRG.out _).mono ?_
    rintro e w2 ⟨rfl, b2⟩
    have HB2 := Lib.hid (HB1.out.trans (b2.mono HB1.out.size))
    have HH2 := Lib.hid (stays HH1.out b2)
    clear e0 e1 e2 e3 e4 e5 b2 HRG HB1 HH1
    obtain ⟨e0, e1, e2, e3, e4, e5⟩ := six HH2.out
    go_wp2_with (fail)
    refine (HOF1.out _).mono ?_
    rintro e w3 ⟨rfl, b3⟩
    have b4 := b3.alloc b3.size (cfO 27 zeroC)
    have HB3 := Lib.hid (HB2.out.trans (b4.mono HB2.out.size))
    have HH3 := Lib.hid (show (w3.alloc (cfO 27 zeroC)).heap[w.heap.size]? = some (cfO 23 x) from stays HH2.out b4)
    have HS3 := Lib.hid (heap_alloc_new w3 (cfO 27 zeroC))
    clear e0 e1 e2 e3 e4 e5 b3 b4 HOF1 HB2 HH2
    obtain ⟨e0, e1, e2, e3, e4, e5⟩ := six HH3.out
    unfold cfO cfA zeroC at e0 e1 e2 e3 e4 e5
    go_wp2_with (fail)
    refine (HCG.out _).mono ?_
    rintro e w4 ⟨rfl, b4⟩
    have b5 := b4.alloc b4.size (cfO 27 x)
    have HB5 := Lib.hid (HB3.out.trans (b5.mono HB3.out.size))
    have HH4 := Lib.hid (stays HH3.out b4)
    have HS4 := Lib.hid (stays HS3.out b4)
    have HH5 := Lib.hid (show (w4.alloc (cfO 27 x)).heap[w.heap.size]? = some (cfO 23 x) from stays HH3.out b5)
    have HS5 := Lib.hid (heap_alloc_new w4 (cfO 27 x))
    clear e0 e1 e2 e3 e4 e5 b4 b5 HCG HB3 HH3 HS3
    generalize w3.heap.size = m at *
    obtain ⟨e0, e1, e2, e3, e4, e5⟩ := six HH4.out
    obtain ⟨d0, d1, d2, d3, d4, d5⟩ := six HS4.out
    obtain ⟨f0, f1, f2, f3, f4, f5⟩ := six HH5.out
    obtain ⟨g0, g1, g2, g3, g4, g5⟩ := six HS5.out
    have hq := HEZ.out
    unfold cfO cfA at f0 f1 f2 f3 f4 f5 g0 g1 g2 g3 g4 g5
    simp only [zeroC] at hq d0 d1 d2 d3 d4 d5
    go_wp2_with (fail)
    refine (HCI.out _).mono ?_
    rintro e w6 ⟨rfl, b6⟩
    have HB6 := Lib.hid (HB5.out.trans (b6.mono HB5.out.size))
    have HH6 := Lib.hid (stays HH5.out b6)
    have HS6 := Lib.hid (stays HS5.out b6)
    generalize w4.heap.size = q at *
    clear e0 e1 e2 e3 e4 e5 d0 d1 d2 d3 d4 d5 f0 f1 f2 f3 f4 f5 g0 g1 g2 g3 g4 g5 HH4 HS4 hq b6 HCI HB5 HH5 HS5
    obtain ⟨e0, e1, e2, e3, e4, e5⟩ := six HH6.out
    obtain ⟨d0, d1, d2, d3, d4, d5⟩ := six HS6.out
    go_wp2_with (fail)
    refine (HRI.out _).mono ?_
    rintro e w7 ⟨rfl, b7⟩
    have HB7 := Lib.hid (HB6.out.trans (b7.mono HB6.out.size))
    have HH7 := Lib.hid (stays HH6.out b7)
    have HS7 := Lib.hid (stays HS6.out b7)
    clear e0 e1 e2 e3 e4 e5 d0 d1 d2 d3 d4 d5 b7 HRI HB6 HH6 HS6
    obtain ⟨e0, e1, e2, e3, e4, e5⟩ := six HH7.out
    obtain ⟨d0, d1, d2, d3, d4, d5⟩ := six HS7.out
    go_wp2_with (fail)
    refine (HCR.out _).mono ?_
    rintro e w8 ⟨rfl, b8⟩
    have HB8 := Lib.hid (HB7.out.trans (b8.mono HB7.out.size))
    have HH8 := Lib.hid (stays HH7.out b8)
    have HS8 := Lib.hid (stays HS7.out b8)
    clear e0 e1 e2 e3 e4 e5 d0 d1 d2 d3 d4 d5 b8 HCR HB7 HH7 HS7
    obtain ⟨e0, e1, e2, e3, e4, e5⟩ := six HH8.out
    obtain ⟨d0, d1, d2, d3, d4, d5⟩ := six HS8.out
    go_wp2_with (fail)
    refine (HRR.out _).mono ?_
    rintro e w9 ⟨rfl, b9⟩
    have HB9 := Lib.hid (HB8.out.trans (b9.mono HB8.out.size))
    have HH9 := Lib.hid (stays HH8.out b9)
    have HS9 := Lib.hid (stays HS8.out b9)
    clear e0 e1 e2 e3 e4 e5 d0 d1 d2 d3 d4 d5 b9 HRR HB8 HH8 HS8
    obtain ⟨e0, e1, e2, e3, e4, e5⟩ := six HH9.out
    obtain ⟨d0, d1, d2, d3, d4, d5⟩ := six HS9.out
    go_wp2_with (fail)
    refine (HCS.out _).mono ?_
    rintro e w10 ⟨rfl, b10⟩
    have HB10 := Lib.hid (HB9.out.trans (b10.mono HB9.out.size))
    have HH10 := Lib.hid (stays HH9.out b10)
    have HS10 := Lib.hid (stays HS9.out b10)
    clear e0 e1 e2 e3 e4 e5 d0 d1 d2 d3 d4 d5 b10 HCS HB9 HH9 HS9
    obtain ⟨e0, e1, e2, e3, e4, e5⟩ := six HH10.out
    obtain ⟨d0, d1, d2, d3, d4, d5⟩ := six HS10.out
    go_wp2_with (fail)
    refine (HCH.out _).mono ?_
    rintro e w11 ⟨rfl, b11⟩
    have HB11 := Lib.hid (HB10.out.trans (b11.mono HB10.out.size))
    have HH11 := Lib.hid (stays HH10.out b11)
    have HS11 := Lib.hid (stays HS10.out b11)
    clear e0 e1 e2 e3 e4 e5 d0 d1 d2 d3 d4 d5 b11 HCH HB10 HH10 HS10
    obtain ⟨e0, e1, e2, e3, e4, e5⟩ := six HH11.out
    obtain ⟨d0, d1, d2, d3, d4, d5⟩ := six HS11.out
    go_wp2_with (fail)
    exact bodyPost_ret (results_tmp rfl _ _ _) rfl ⟨rfl, HB11.out⟩
end confExact
end Go.Proofs.Ytifcdfcjacjdiaa
