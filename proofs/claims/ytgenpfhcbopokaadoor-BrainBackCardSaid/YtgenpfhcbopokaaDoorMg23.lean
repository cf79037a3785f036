/-
  What layer 16's statements ask first: some answers by number. No conditions.
-/
import Derived.Test.YtgenpfhcbopokaaDoorMg17
import Derived.Test.YtgenpfhcbopokaaDoorMg22
import Derived.Test.YtgenpfhcbopokaaDoorMg9
set_option maxRecDepth 100000
namespace Go.Proofs.YtgenpfhcbopokaaDoor
open Go.ChangeShapes Go.WideShapes Go.ChangeAt Go.RowKit Cf Vc Br

namespace Br
def exC : Cfg := ⟨2, 1, 1, 1, 1, 2⟩
def exS : ByteArray := ⟨#[1, 255, 3, 4, 5, 6, 7, 8, 9, 10, 11, 12, 13, 14]⟩
theorem ex_good : goodZ exC = true := by decide +kernel
theorem ex_tot : totZ exC = 14 := by decide +kernel
theorem ex_ok : Ok exC exS := ⟨good_iff.1 ex_good, by rw [ex_tot]; rfl⟩
theorem ex_is : isZ exC 0 0 = true := by decide +kernel
theorem ex_piece : (pieceB exC exS 0 0).data = #[1, 255] := by decide +kernel
theorem ex_piece' : pieceB exC exS 0 0 = ⟨#[1, 255]⟩ := ByteArray.ext ex_piece
theorem ex_row : rowZ exC exS 11 0 0 = [14] := by
  have h1 : (pieceB exC exS 11 0).data = #[14] := by decide +kernel
  have h2 : pieceB exC exS 11 0 = ⟨#[14]⟩ := ByteArray.ext h1
  unfold rowZ
  rw [h2]
  decide +kernel
end Br
set_option maxRecDepth 100000 in
set_option maxHeartbeats 3200000 in
theorem awake16 (w : World) : Calls Tryd.prog 4 #[] w fun e w' => e = .returned (.bool true) ∧ Below w.heap.size w w' := by
  have HO := Lib.hid (fun W => show Calls Tryd.prog 5 #[.agg #[.int .i64 2, .int .i64 1, .int .i64 1, .int .i64 1, .int .i64 1, .int .i64 2], .string ⟨#[1, 255, 3, 4, 5, 6, 7, 8, 9, 10, 11, 12, 13, 14]⟩] W fun e w' => ∃ b, e = .returned (.tuple #[.pointer (some ⟨b, 0, none⟩), .int .i64 0]) ∧ W.heap.size ≤ b ∧ w'.heap[b]? = some (brO exC exS) ∧ Below W.heap.size W w' from brain_of W exC exS ex_ok)
  have HT := Lib.hid (fun (W : World) (b : Nat) (h : W.heap[b]? = some (brO exC exS)) => show Calls Tryd.prog 14 #[.pointer (some ⟨b, 0, none⟩), .int .i64 0, .int .i64 0] W fun e w' => ∃ A, e = .returned (.tuple #[.agg #[.int .i64 2, .int .i64 1, .slice A 2 2], .bool true]) ∧ KIn .i8 w' A [1, -1] ∧ Below W.heap.size W w' from by
    have := brain_table W b exC exS h ex_ok 0 0 ex_is
    rw [ex_piece'] at this
    exact this)
  have HR := Lib.hid (fun (W : World) (b : Nat) (h : W.heap[b]? = some (brO exC exS)) => show Calls Tryd.prog 12 #[.pointer (some ⟨b, 0, none⟩), .int .i64 11, .int .i64 0, .int .i64 0] W fun e w' => ∃ A c, e = .returned (.slice A 1 c) ∧ KIn .i64 w' A [14] ∧ Below W.heap.size W w' from by
    have := brain_row W b exC exS h ex_ok 11 0 0
    rw [ex_row] at this
    exact this)
  have HBY := Lib.hid (fun (W : World) (b : Nat) (h : W.heap[b]? = some (brO exC exS)) => brain_bytes W b exC exS h (by decide))
  have HPA := Lib.hid (fun (W : World) => show Calls Tryd.prog 7 #[.string (bytesB exC exS)] W fun e w' => ∃ b, e = .returned (.tuple #[.pointer (some ⟨b, 0, none⟩), .int .i64 0]) ∧ W.heap.size ≤ b ∧ w'.heap[b]? = some (brO exC exS) ∧ Below W.heap.size W w' from by
    have := brain_parse W (bytesB exC exS) (ok_bytes ex_ok)
    rw [shape_bytes ex_ok.good, rest_bytes] at this
    exact this)
  have HSZ := Lib.hid (fun (W : World) => show Calls Tryd.prog 15 #[.agg #[.int .i64 2, .int .i64 1, .int .i64 1, .int .i64 1, .int .i64 1, .int .i64 2]] W fun e w' => e = .returned (.int .i64 14) ∧ Below W.heap.size W w' from by
    have := conf_size W exC
    rw [if_pos ex_good, ex_tot] at this
    exact this)
  have HSM := Lib.hid (fun (W : World) (a b : Nat) (h1 : W.heap[a]? = some (brO exC exS)) (h2 : W.heap[b]? = some (brO exC exS)) => show Calls Tryd.prog 8 #[.pointer (some ⟨a, 0, none⟩), .pointer (some ⟨b, 0, none⟩)] W fun e w' => e = .returned (.bool true) ∧ Below W.heap.size W w' from by
    have := brain_same W a b exC exC exS exS h1 h2 (by decide) (by decide)
    rw [decide_eq_true rfl] at this
    exact this)
  have H7 := Lib.hid (fun (W : World) (b : Nat) (h : W.heap[b]? = some (brO exC exS)) => show W.cell? ⟨b, 0, none⟩ = some (.int .i64 2) ∧ W.cell? ⟨b, 1, none⟩ = some (.int .i64 1) ∧ W.cell? ⟨b, 2, none⟩ = some (.int .i64 1) ∧ W.cell? ⟨b, 3, none⟩ = some (.int .i64 1) ∧ W.cell? ⟨b, 4, none⟩ = some (.int .i64 1) ∧ W.cell? ⟨b, 5, none⟩ = some (.int .i64 2) ∧ W.cell? ⟨b, 6, none⟩ = some (.string exS) from seven h)
  have HCS := Lib.hid (show ((bytesB exC exS).size : Int) = 38 by rw [bytesB_size]; rfl)
  generalize bytesB exC exS = CB at *
  have HB0 := Lib.hid ((Below.refl w.heap.size w).alloc (Nat.le_refl _) (.cells #[.int .i64 2, .int .i64 1, .int .i64 1, .int .i64 1, .int .i64 1, .int .i64 2] 23))
  go_enter Tryd.func4, Tryd.ntmps4
  go_wp2_with (fail)
  refine (HO.out _).mono ?_
  rintro e w1 ⟨b, rfl, hb, hh, b1⟩
  have HB1 := Lib.hid (HB0.out.trans (b1.mono HB0.out.size))
  have HH1 := Lib.hid hh
  clear b1 hb hh HO HB0
  go_wp2_with (fail)
  refine (HT.out _ _ HH1.out).mono ?_
  rintro e w2 ⟨A, rfl, hA, b2⟩
  have b3 := b2.alloc b2.size (tbO 2 1 A 2 2)
  have HB3 := Lib.hid (HB1.out.trans (b3.mono HB1.out.size))
  have HH3 := Lib.hid (Br.stays HH1.out b3)
  have HA3 := Lib.hid (show KIn .i8 (w2.alloc (tbO 2 1 A 2 2)) A [1, -1] from hA.alloc _)
  have HT3 := Lib.hid (heap_alloc_new w2 (tbO 2 1 A 2 2))
  unfold tbO tbA at HB3 HH3 HA3
  clear b2 b3 hA HT HB1 HH1
  generalize hT : w2.heap.size = T at *
  go_wp2_with (fail)
  refine (HBY.out _ _ HH3.out).mono ?_
  rintro e w4 ⟨rfl, b4⟩
  have HB4 := Lib.hid (HB3.out.trans (b4.mono HB3.out.size))
  have HH4 := Lib.hid (Br.stays HH3.out b4)
  have HA4 := Lib.hid (HA3.out.below b4 (Nat.le_refl _))
  have HT4 := Lib.hid ((b4.block _ (Array.getElem?_eq_some_iff.1 HT3.out).1).trans HT3.out)
  clear b4 HB3 HH3 HA3 HT3
  go_wp2_with (fail)
  refine (HPA.out _).mono ?_
  rintro e w5 ⟨d, rfl, hd, hh, b5⟩
  have HB5 := Lib.hid (HB4.out.trans (b5.mono HB4.out.size))
  have HH5 := Lib.hid (Br.stays HH4.out b5)
  have HD5 := Lib.hid hh
  have hA5 := HA4.out.below b5 (Nat.le_refl _)
  have hT5 := (b5.block _ (Array.getElem?_eq_some_iff.1 HT4.out).1).trans HT4.out
  obtain ⟨pb, po, rfl, hc⟩ := hA5.at (i := 1) (by decide)
  have d0 := tb0 hT5
  have d1 := tb1 hT5
  have d2 := tb2 hT5
  clear b5 hd hh HB4 HH4 HA4 HT4 HPA hA5 hT5
  go_wp2_with (fail)
  refine (HR.out _ _ HH5.out).mono ?_
  rintro e w6 ⟨R, c, rfl, hR, b6⟩
  have HB6 := Lib.hid (HB5.out.trans (b6.mono HB5.out.size))
  have HH6 := Lib.hid (Br.stays HH5.out b6)
  have HD6 := Lib.hid (Br.stays HD5.out b6)
  have HR6 := Lib.hid hR
  clear d0 d1 d2 hc b6 hR HB5 HH5 HD5
  go_wp2_with (fail)
  refine (ints_same _ R 1 c _ 1 [14] rfl (by omega) (HR6.out.alloc _) (kin1 w6 _ 14 rfl)).mono ?_
  rintro e w7 ⟨rfl, k, rfl⟩
  have b7 : Below w6.heap.size w6 ((w6.alloc (.cells #[.int .i64 14] 3)).drewN k) := below_drewN ((Below.refl _ _).alloc (Nat.le_refl _) _) k
  have HB7 := Lib.hid (HB6.out.trans (b7.mono HB6.out.size))
  have HH7 := Lib.hid (Br.stays HH6.out b7)
  have HD7 := Lib.hid (Br.stays HD6.out b7)
  clear b7 HB6 HH6 HD6 HR6
  generalize (w6.alloc (.cells #[.int .i64 14] 3)).drewN k = w7 at *
  obtain ⟨e0, e1, e2, e3, e4, e5, e6⟩ := H7.out _ _ HH7.out
  go_wp2_with (fail)
  refine (HSZ.out _).mono ?_
  rintro e w8 ⟨rfl, b8⟩
  have HB8 := Lib.hid (HB7.out.trans (b8.mono HB7.out.size))
  have HH8 := Lib.hid (Br.stays HH7.out b8)
  have HD8 := Lib.hid (Br.stays HD7.out b8)
  clear e0 e1 e2 e3 e4 e5 e6 b8 HB7 HH7 HD7
  obtain ⟨e0, e1, e2, e3, e4, e5, e6⟩ := H7.out _ _ HH8.out
  go_wp2_with (fail)
  refine (HSM.out _ _ _ HH8.out HD8.out).mono ?_
  rintro e w9 ⟨rfl, b9⟩
  have HB9 := Lib.hid (HB8.out.trans (b9.mono HB8.out.size))
  have HH9 := Lib.hid (Br.stays HH8.out b9)
  clear e0 e1 e2 e3 e4 e5 e6 b9 HB8 HH8 HD8
  go_wp2_with (fail)
  refine (HBY.out _ _ HH9.out).mono ?_
  rintro e w10 ⟨rfl, b10⟩
  have HB10 := Lib.hid (HB9.out.trans (b10.mono HB9.out.size))
  have hs := HCS.out
  clear b10 HB9 HH9
  go_wp2_with (fail)
  exact bodyPost_ret (results_tmp rfl _ _ _) rfl ⟨rfl, HB10.out⟩
end Go.Proofs.YtgenpfhcbopokaaDoor
