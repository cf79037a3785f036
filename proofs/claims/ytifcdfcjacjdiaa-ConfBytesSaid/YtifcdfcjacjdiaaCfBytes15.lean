/-
  ConfBytes: of every shape that can be the bytes, and of all bytes the shape, are the document's. The walk. No conditions.
-/
import Derived.Test.YtifcdfcjacjdiaaCfAwake15
import Derived.Test.YtifcdfcjacjdiaaCfA
import Derived.Test.YtifcdfcjacjdiaaCfEq
namespace Go.Proofs.Ytifcdfcjacjdiaa
open Go.ChangeShapes Go.WideShapes Go.ChangeAt Go.RowKit Pn Cf

namespace confBytes
theorem parse_both (t : ByteArray) : ∃ (y : Cfg) (f : Int) (b : Bool), parseV t = .tuple #[cfV y, .int .i64 f] ∧ parseW t = .tuple #[cfV y, .bool b] ∧ ((b = true ∧ f = 0) ∨ (b = false ∧ f = 5)) := by
  obtain ⟨h1, h2⟩ := read_alike t
  cases hf : okT free t with
  | true =>
    rw [hf] at h1
    exact ⟨cfgT free t, 0, true, by rw [← h2 hf]; exact if_pos h1, if_pos hf, .inl ⟨rfl, rfl⟩⟩
  | false =>
    rw [hf] at h1
    exact ⟨zeroC, 5, false, if_neg (by rw [h1]; exact Bool.false_ne_true), if_neg (by rw [hf]; exact Bool.false_ne_true), .inr ⟨rfl, rfl⟩⟩
theorem parse_back (x : Cfg) (h : Cf.Good x) : parseV (cfgB x) = .tuple #[cfV x, .int .i64 0] := by
  obtain ⟨h1, h2⟩ := back_cfg x h
  unfold parseV
  rw [if_pos h1, h2]
set_option maxRecDepth 100000 in
set_option maxHeartbeats 12800000 in
theorem walk (w : World) (x : Cfg) (t : ByteArray) (htm : t.size ≤ maxLen) : Calls Try.prog 4 #[cfV x, .string t] w fun e w' => e = .returned (.bool true) ∧ Below w.heap.size w w' := by
  have HAW := Lib.hid awake15
  have HRG := Lib.hid (fun W => ref15_good W x)
  have HB0 := Lib.hid ((Below.refl w.heap.size w).alloc (Nat.le_refl _) (cfO 23 x))
  have HH0 := Lib.hid (heap_alloc_new w (cfO 23 x))
  have HEX := Lib.hid (fun W => run_eqIn_sh x W)
  obtain ⟨y, f, b, hpv, hpw, hfb⟩ := parse_both t
  have HPV := Lib.hid (fun W => hpv ▸ conf_parse W t)
  have HPW := Lib.hid (fun W => hpw ▸ ref15_parse W t)
  have HEY := Lib.hid (fun W => run_eqIn_cf 9998 y W)
  clear hpv hpw
  unfold maxLen at htm
  have bt : (t.size : Int) ≤ 9223372036854775807 := by omega
  by_cases c1 : 100 < t.size
  · have t1' : (100 : Int) < (t.size : Int) := by omega
    have t1 : decide ((100 : Int) < (t.size : Int)) = true := decide_eq_true t1'
    clear htm hfb
    unfold cfV cfA at *
    go_enter Try.func4, Try.ntmps4
    go_wp2_with (fail)
    refine (HAW.out _).mono ?_
    rintro e w1 ⟨rfl, b1⟩
    have HB1 := Lib.hid (HB0.out.trans (b1.mono HB0.out.size))
    clear b1
    go_wp2_with (fail)
    exact bodyPost_ret (results_tmp rfl _ _ _) rfl ⟨rfl, HB1.out⟩
  have t1' : ¬ (100 : Int) < (t.size : Int) := by omega
  have t1 : decide ((100 : Int) < (t.size : Int)) = false := decide_eq_false t1'
  have HTM := Lib.hid htm
  clear htm c1
  cases hg : goodZ x with
  | false =>
    rw [hg] at HRG
    clear hg HEX
    unfold cfV cfA at *
    go_enter Try.func4, Try.ntmps4
    go_wp2_with (fail)
    refine (HAW.out _).mono ?_
    rintro e w1 ⟨rfl, b1⟩
    have HB1 := Lib.hid (HB0.out.trans (b1.mono HB0.out.size))
    have HH1 := Lib.hid (stays HH0.out b1)
    obtain ⟨e0, e1, e2, e3, e4, e5⟩ := six HH1.out
    clear b1 HAW HB0 HH0
    go_wp2_with (fail)
    clear t1 t1'
    refine (HRG.out _).mono ?_
    rintro e w2 ⟨rfl, b2⟩
    have HB2 := Lib.hid (HB1.out.trans (b2.mono HB1.out.size))
    have HH2 := Lib.hid (stays HH1.out b2)
    clear e0 e1 e2 e3 e4 e5 b2 HRG HB1 HH1
    go_wp2_with (fail)
    have HBx := Lib.hid HB2.out
    clear HB2 HH2
    refine (HPV.out _).mono ?_
    rintro e wa ⟨rfl, ba⟩
    have bb := ba.alloc ba.size (cfO 27 y)
    have HBa := Lib.hid (HBx.out.trans (bb.mono HBx.out.size))
    have HYa := Lib.hid (heap_alloc_new wa (cfO 27 y))
    clear ba bb HPV HBx
    go_wp2_with (fail)
    refine (HPW.out _).mono ?_
    rintro e wb ⟨rfl, bc⟩
    have bd := bc.alloc bc.size (cfO 23 y)
    have HBb := Lib.hid (HBa.out.trans (bd.mono HBa.out.size))
    have HYb := Lib.hid (show (wb.alloc (cfO 23 y)).heap[wa.heap.size]? = some (cfO 27 y) from stays HYa.out bd)
    have HZb := Lib.hid (heap_alloc_new wb (cfO 23 y))
    clear bc bd HPW HBa HYa
    generalize wa.heap.size = m at *
    obtain ⟨e0, e1, e2, e3, e4, e5⟩ := six HYb.out
    obtain ⟨d0, d1, d2, d3, d4, d5⟩ := six HZb.out
    have hq := HEY.out
    unfold cfO cfA at e0 e1 e2 e3 e4 e5 d0 d1 d2 d3 d4 d5
    rcases hfb with ⟨rfl, rfl⟩ | ⟨rfl, rfl⟩
    · go_wp2_with (fail)
      exact bodyPost_ret (results_tmp rfl _ _ _) rfl ⟨rfl, HBb.out⟩
    · go_wp2_with (fail)
      exact bodyPost_ret (results_tmp rfl _ _ _) rfl ⟨rfl, HBb.out⟩
  | true =>
    have hgd := good_iff.1 hg
    rw [hg] at HRG
    have HBY := Lib.hid (fun W => conf_bytes W x)
    have HRB := Lib.hid (fun W => ref15_bytes W x hgd.is)
    have HPB := Lib.hid (fun W => (parse_back x hgd) ▸ conf_parse W (cfgB x))
    generalize cfgB x = CB at *
    have sa : (CB.toList != CB.toList) = false := bne_self_eq_false _
    have sb : (CB.toList == CB.toList) = true := beq_self_eq_true _
    clear hg hgd
    unfold cfV cfA at *
    go_enter Try.func4, Try.ntmps4
    go_wp2_with (fail)
    refine (HAW.out _).mono ?_
    rintro e w1 ⟨rfl, b1⟩
    have HB1 := Lib.hid (HB0.out.trans (b1.mono HB0.out.size))
    have HH1 := Lib.hid (stays HH0.out b1)
    obtain ⟨e0, e1, e2, e3, e4, e5⟩ := six HH1.out
    clear b1 HAW HB0 HH0
    go_wp2_with (fail)
    clear t1 t1'
    refine (HRG.out _).mono ?_
    rintro e w2 ⟨rfl, b2⟩
    have HB2 := Lib.hid (HB1.out.trans (b2.mono HB1.out.size))
    have HH2 := Lib.hid (stays HH1.out b2)
    clear e0 e1 e2 e3 e4 e5 b2 HRG HB1 HH1
    have b3 := (Below.refl w2.heap.size w2).alloc (Nat.le_refl _) (cfO 27 x)
    have HB3 := Lib.hid (HB2.out.trans (b3.mono HB2.out.size))
    have HH3 := Lib.hid (stays HH2.out b3)
    have HS3 := Lib.hid (heap_alloc_new w2 (cfO 27 x))
    obtain ⟨e0, e1, e2, e3, e4, e5⟩ := six HH2.out
    clear b3 HB2
    go_wp2_with (fail)
    refine (HBY.out _).mono ?_
    rintro e w4 ⟨rfl, b4⟩
    have HB4 := Lib.hid (HB3.out.trans (b4.mono HB3.out.size))
    have HH4 := Lib.hid (stays HH3.out b4)
    have HS4 := Lib.hid (stays HS3.out b4)
    clear b4 HB3 HH3 HS3 HH2 e0 e1 e2 e3 e4 e5
    generalize w2.heap.size = q1 at *
    go_wp2_with (fail)
    refine (HPB.out _).mono ?_
    rintro e w5 ⟨rfl, b5⟩
    have b6 := b5.alloc b5.size (cfO 27 x)
    have HB6 := Lib.hid (HB4.out.trans (b6.mono HB4.out.size))
    have HH6 := Lib.hid (stays HH4.out b6)
    have HS6 := Lib.hid (stays HS4.out b6)
    have HX6 := Lib.hid (heap_alloc_new w5 (cfO 27 x))
    clear b5 b6 HB4 HH4 HS4 HPB
    go_wp2_with (fail)
    generalize w5.heap.size = q2 at *
    unfold cfO cfA at HB6 HH6 HS6 HX6
    generalize w5.alloc (.cells #[.int .i64 x.v, .int .i64 x.d, .int .i64 x.h, .int .i64 x.b, .int .i64 x.n, .int .i64 x.c] 27) = w6 at *
    have HBD := Lib.hid (show Below w.heap.size w w6.drew from below_drewN HB6.out 1)
    have H3 := Lib.hid (fun (W : World) (hW : Below w6.heap.size w6 W) => show (W.cell? ⟨w.heap.size, 0, none⟩ = some (.int .i64 x.v) ∧ W.cell? ⟨w.heap.size, 1, none⟩ = some (.int .i64 x.d) ∧ W.cell? ⟨w.heap.size, 2, none⟩ = some (.int .i64 x.h) ∧ W.cell? ⟨w.heap.size, 3, none⟩ = some (.int .i64 x.b) ∧ W.cell? ⟨w.heap.size, 4, none⟩ = some (.int .i64 x.n) ∧ W.cell? ⟨w.heap.size, 5, none⟩ = some (.int .i64 x.c)) ∧ (W.cell? ⟨q1, 0, none⟩ = some (.int .i64 x.v) ∧ W.cell? ⟨q1, 1, none⟩ = some (.int .i64 x.d) ∧ W.cell? ⟨q1, 2, none⟩ = some (.int .i64 x.h) ∧ W.cell? ⟨q1, 3, none⟩ = some (.int .i64 x.b) ∧ W.cell? ⟨q1, 4, none⟩ = some (.int .i64 x.n) ∧ W.cell? ⟨q1, 5, none⟩ = some (.int .i64 x.c)) ∧ (W.cell? ⟨q2, 0, none⟩ = some (.int .i64 x.v) ∧ W.cell? ⟨q2, 1, none⟩ = some (.int .i64 x.d) ∧ W.cell? ⟨q2, 2, none⟩ = some (.int .i64 x.h) ∧ W.cell? ⟨q2, 3, none⟩ = some (.int .i64 x.b) ∧ W.cell? ⟨q2, 4, none⟩ = some (.int .i64 x.n) ∧ W.cell? ⟨q2, 5, none⟩ = some (.int .i64 x.c)) from
      ⟨six (x := x) (t := 23) (stays (x := x) (t := 23) HH6.out hW), six (x := x) (t := 27) (stays (x := x) (t := 27) HS6.out hW), six (x := x) (t := 27) (stays (x := x) (t := 27) HX6.out hW)⟩)
    have B0 := Lib.hid (show Below w6.heap.size w6 w6.drew from below_drewN (Below.refl _ _) 1)
    have k0 := H3.out _ B0.out
    have hq := HEX.out
    go_region_held3 (fun W : World => (W.cell? ⟨w.heap.size, 0, none⟩ = some (.int .i64 x.v) ∧ W.cell? ⟨w.heap.size, 1, none⟩ = some (.int .i64 x.d) ∧ W.cell? ⟨w.heap.size, 2, none⟩ = some (.int .i64 x.h) ∧ W.cell? ⟨w.heap.size, 3, none⟩ = some (.int .i64 x.b) ∧ W.cell? ⟨w.heap.size, 4, none⟩ = some (.int .i64 x.n) ∧ W.cell? ⟨w.heap.size, 5, none⟩ = some (.int .i64 x.c)) ∧ (W.cell? ⟨q1, 0, none⟩ = some (.int .i64 x.v) ∧ W.cell? ⟨q1, 1, none⟩ = some (.int .i64 x.d) ∧ W.cell? ⟨q1, 2, none⟩ = some (.int .i64 x.h) ∧ W.cell? ⟨q1, 3, none⟩ = some (.int .i64 x.b) ∧ W.cell? ⟨q1, 4, none⟩ = some (.int .i64 x.n) ∧ W.cell? ⟨q1, 5, none⟩ = some (.int .i64 x.c)) ∧ (W.cell? ⟨q2, 0, none⟩ = some (.int .i64 x.v) ∧ W.cell? ⟨q2, 1, none⟩ = some (.int .i64 x.d) ∧ W.cell? ⟨q2, 2, none⟩ = some (.int .i64 x.h) ∧ W.cell? ⟨q2, 3, none⟩ = some (.int .i64 x.b) ∧ W.cell? ⟨q2, 4, none⟩ = some (.int .i64 x.n) ∧ W.cell? ⟨q2, 5, none⟩ = some (.int .i64 x.c))) (first | exact k0 | assumption) (first
      | (go_at_call 18; (with_reducible refine (HBY.out _).mono ?_); rintro e w7 ⟨rfl, b7⟩; have B1 := Lib.hid (B0.out.trans (b7.mono B0.out.size)); have k1 := H3.out _ B1.out; clear b7)
      | (go_at_call 19; (with_reducible refine (HRB.out _).mono ?_); rintro e w8 ⟨rfl, b8⟩; have B2 := Lib.hid (B1.out.trans (b8.mono B1.out.size)); have k2 := H3.out _ B2.out; clear b8))
    go_wp2_with (fail)
    have HBx := Lib.hid (HB6.out.trans (B2.out.mono HB6.out.size))
    clear k0 k1 k2 hq H3 B0 B1 B2 HBD HH6 HS6 HX6 HB6 sa sb
    refine (HPV.out _).mono ?_
    rintro e wa ⟨rfl, ba⟩
    have bb := ba.alloc ba.size (cfO 27 y)
    have HBa := Lib.hid (HBx.out.trans (bb.mono HBx.out.size))
    have HYa := Lib.hid (heap_alloc_new wa (cfO 27 y))
    clear ba bb HPV HBx
    go_wp2_with (fail)
    refine (HPW.out _).mono ?_
    rintro e wb ⟨rfl, bc⟩
    have bd := bc.alloc bc.size (cfO 23 y)
    have HBb := Lib.hid (HBa.out.trans (bd.mono HBa.out.size))
    have HYb := Lib.hid (show (wb.alloc (cfO 23 y)).heap[wa.heap.size]? = some (cfO 27 y) from stays HYa.out bd)
    have HZb := Lib.hid (heap_alloc_new wb (cfO 23 y))
    clear bc bd HPW HBa HYa
    generalize wa.heap.size = m at *
    obtain ⟨e0, e1, e2, e3, e4, e5⟩ := six HYb.out
    obtain ⟨d0, d1, d2, d3, d4, d5⟩ := six HZb.out
    have hq := HEY.out
    unfold cfO cfA at e0 e1 e2 e3 e4 e5 d0 d1 d2 d3 d4 d5
    rcases hfb with ⟨rfl, rfl⟩ | ⟨rfl, rfl⟩
    · go_wp2_with (fail)
      exact bodyPost_ret (results_tmp rfl _ _ _) rfl ⟨rfl, HBb.out⟩
    · go_wp2_with (fail)
      exact bodyPost_ret (results_tmp rfl _ _ _) rfl ⟨rfl, HBb.out⟩
end confBytes
end Go.Proofs.Ytifcdfcjacjdiaa
