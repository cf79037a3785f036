/-
  What layer 15's statements ask first: some answers by number. No conditions.
-/
import Derived.Test.YtifcdfcjacjdiaaCf5
import Derived.Test.YtifcdfcjacjdiaaCf6
namespace Go.Proofs.Ytifcdfcjacjdiaa
open Go.ChangeShapes Go.WideShapes Go.ChangeAt Go.RowKit Cf

namespace Cf
def exC : Cfg := ⟨4, 2, 1, 1, 2, 3⟩
def exD : Cfg := ⟨4, 3, 2, 1, 2, 3⟩
theorem ex_good : goodZ exC = true := by decide +kernel
theorem ex_bad : ¬ goodZ exD = true := by decide +kernel
theorem ex_tot : totZ exC = 48 := by decide +kernel
theorem ex_is : isZ exC 10 0 = true := by decide +kernel
theorem ex_from : fromZ exC 10 0 = 42 := by decide +kernel
theorem ex_area : areaZ exC 10 = 4 := by decide +kernel
end Cf
set_option maxRecDepth 100000 in
set_option maxHeartbeats 3200000 in
theorem awake15 (w : World) : Calls Try.prog 6 #[] w fun e w' => e = .returned (.bool true) ∧ Below w.heap.size w w' := by
  have HO1 := Lib.hid (show ∀ W, Calls Try.prog 8 #[.int .i64 4, .int .i64 2, .int .i64 1, .int .i64 1, .int .i64 2, .int .i64 3] W fun e w' => e = .returned (.tuple #[.agg #[.int .i64 4, .int .i64 2, .int .i64 1, .int .i64 1, .int .i64 2, .int .i64 3], .int .i64 0]) ∧ Below W.heap.size W w' from fun W => by
    have := conf_of W exC
    rw [show ofZ exC = _ from if_pos ex_good] at this
    exact this)
  have HO2 := Lib.hid (show ∀ W, Calls Try.prog 8 #[.int .i64 4, .int .i64 3, .int .i64 2, .int .i64 1, .int .i64 2, .int .i64 3] W fun e w' => e = .returned (.tuple #[.agg #[.int .i64 0, .int .i64 0, .int .i64 0, .int .i64 0, .int .i64 0, .int .i64 0], .int .i64 1]) ∧ Below W.heap.size W w' from fun W => by
    have := conf_of W exD
    rw [show ofZ exD = _ from if_neg ex_bad] at this
    exact this)
  have HRG := Lib.hid (show ∀ W, Calls Try.prog 13 #[.agg #[.int .i64 4, .int .i64 2, .int .i64 1, .int .i64 1, .int .i64 2, .int .i64 3], .int .i64 10, .int .i64 0] W fun e w' => e = .returned (.tuple #[.int .i64 42, .int .i64 4, .bool true]) ∧ Below W.heap.size W w' from fun W => by
    have := conf_range W exC 10 0
    rw [show rangeV exC 10 0 = _ from if_pos ex_is, ex_from, ex_area] at this
    exact this)
  have HSZ := Lib.hid (show ∀ W, Calls Try.prog 15 #[.agg #[.int .i64 4, .int .i64 2, .int .i64 1, .int .i64 1, .int .i64 2, .int .i64 3]] W fun e w' => e = .returned (.int .i64 48) ∧ Below W.heap.size W w' from fun W => by
    have := conf_size W exC
    rw [if_pos ex_good, ex_tot] at this
    exact this)
  have HHD := Lib.hid (show ∀ W, Calls Try.prog 16 #[.agg #[.int .i64 4, .int .i64 2, .int .i64 1, .int .i64 1, .int .i64 2, .int .i64 3]] W fun e w' => e = .returned (.int .i64 2) ∧ Below W.heap.size W w' from fun W => by
    have := conf_headDim W exC
    rw [if_pos ex_good] at this
    exact this)
  have HBY := Lib.hid (show ∀ W, Calls Try.prog 18 #[.agg #[.int .i64 4, .int .i64 2, .int .i64 1, .int .i64 1, .int .i64 2, .int .i64 3]] W fun e w' => e = .returned (.string (cfgB exC)) ∧ Below W.heap.size W w' from fun W => conf_bytes W exC)
  have HCS := Lib.hid (cfgB_size exC)
  generalize cfgB exC = CB at HBY HCS
  have S6 := Lib.hid (fun (W : World) (b : Nat) (h : W.heap[b]? = some (cfO 27 exC)) => show W.cell? ⟨b, 0, none⟩ = some (.int .i64 4) ∧ W.cell? ⟨b, 1, none⟩ = some (.int .i64 2) ∧ W.cell? ⟨b, 2, none⟩ = some (.int .i64 1) ∧ W.cell? ⟨b, 3, none⟩ = some (.int .i64 1) ∧ W.cell? ⟨b, 4, none⟩ = some (.int .i64 2) ∧ W.cell? ⟨b, 5, none⟩ = some (.int .i64 3) from six h)
  go_enter Try.func6, Try.ntmps6
  go_wp2_with (fail)
  refine (HO1.out _).mono ?_
  rintro e w1 ⟨rfl, b1⟩
  have HB1 := Lib.hid (b1.alloc b1.size (cfO 27 exC))
  have HH1 := Lib.hid (heap_alloc_new w1 (cfO 27 exC))
  have HL1 := Lib.hid b1.size
  clear b1 HO1
  go_wp2_with (fail)
  refine (HO2.out _).mono ?_
  rintro e w2 ⟨rfl, b2⟩
  have b3 := b2.alloc b2.size (cfO 27 zeroC)
  have HB2 := Lib.hid (HB1.out.trans (b3.mono HB1.out.size))
  have HH2 := Lib.hid (show (w2.alloc (cfO 27 zeroC)).heap[w1.heap.size]? = some (cfO 27 exC) from stays HH1.out b3)
  obtain ⟨e0, e1, e2, e3, e4, e5⟩ := S6.out _ _ HH2.out
  clear b2 b3 HO2 HB1 HH1
  generalize hwq : w1.heap.size = q at *
  unfold cfO cfA zeroC at e0 e1 e2 e3 e4 e5
  go_wp2_with (fail)
  refine (HRG.out _).mono ?_
  rintro e w3 ⟨rfl, b3⟩
  have HB3 := Lib.hid (HB2.out.trans (b3.mono HB2.out.size))
  have HH3 := Lib.hid (stays HH2.out b3)
  clear e0 e1 e2 e3 e4 e5
  obtain ⟨e0, e1, e2, e3, e4, e5⟩ := S6.out _ _ HH3.out
  clear b3 HRG HB2 HH2
  go_wp2_with (fail)
  refine (HSZ.out _).mono ?_
  rintro e w4 ⟨rfl, b4⟩
  have HB4 := Lib.hid (HB3.out.trans (b4.mono HB3.out.size))
  have HH4 := Lib.hid (stays HH3.out b4)
  clear e0 e1 e2 e3 e4 e5
  obtain ⟨e0, e1, e2, e3, e4, e5⟩ := S6.out _ _ HH4.out
  clear b4 HSZ HB3 HH3
  go_wp2_with (fail)
  refine (HHD.out _).mono ?_
  rintro e w5 ⟨rfl, b5⟩
  have HB5 := Lib.hid (HB4.out.trans (b5.mono HB4.out.size))
  have HH5 := Lib.hid (stays HH4.out b5)
  clear e0 e1 e2 e3 e4 e5
  obtain ⟨e0, e1, e2, e3, e4, e5⟩ := S6.out _ _ HH5.out
  clear b5 HHD HB4 HH4
  go_wp2_with (fail)
  refine (HBY.out _).mono ?_
  rintro e w6 ⟨rfl, b6⟩
  have HB6 := Lib.hid (HB5.out.trans (b6.mono HB5.out.size))
  have hs : (CB.size : Int) = 24 := by rw [HCS.out]; rfl
  clear b6 HBY HB5 HH5 e0 e1 e2 e3 e4 e5
  go_wp2_with (fail)
  exact bodyPost_ret (results_tmp rfl _ _ _) rfl ⟨rfl, HB6.out⟩
end Go.Proofs.Ytifcdfcjacjdiaa
