/-
  ConfCover: the parts of a shape, of all blocks, cover its weights, none twice. The walk. No conditions.
-/
import Derived.Test.YtifcdfcjacjdiaaCfAwake15
import Derived.Test.YtifcdfcjacjdiaaCfCov
import Derived.Deep.OwnRows
namespace Go.Proofs.Ytifcdfcjacjdiaa
open Go.ChangeShapes Go.WideShapes Go.ChangeAt Go.RowKit Cf

namespace confCover
theorem info_n : (Try.prog.info? 3).map (fun i => (i.zero, i.size, i.bytes)) = some (some (.int .i64 0), 1, 8) := by kernel_rfl
/-- The law's state: the counts in the block g, both boxes as they were. -/
structure CovAt (w : World) (x : Cfg) (q g N : Nat) (f : Nat → Int) (W : World) : Prop where
  row : W.rowIs g 3 N (fun i => .int .i64 (f i))
  box : W.heap[w.heap.size]? = some (cfO 23 x)
  shape : W.heap[q]? = some (cfO 27 x)
  below : Below w.heap.size w W
  boxq : w.heap.size < q
  qg : q < g
namespace CovAt
variable {w W W' : World} {x : Cfg} {q g N : Nat} {f f' : Nat → Int}
theorem step (h : CovAt w x q g N f W) (hb : Below W.heap.size W W') : CovAt w x q g N f W' :=
  ⟨h.row.of_block (hb.block g h.row.lt), stays h.box hb, stays h.shape hb, h.below.trans (hb.mono h.below.size), h.boxq, h.qg⟩
theorem congr (h : CovAt w x q g N f W) (e : ∀ i, i < N → f i = f' i) : CovAt w x q g N f' W :=
  ⟨h.row.congr fun i hi => by rw [e i hi], h.box, h.shape, h.below, h.boxq, h.qg⟩
theorem set (h : CovAt w x q g N f W) (j : Nat) (v : Int) : CovAt w x q g N (fun i => if i = j then v else f i) (W.setCell ⟨g, j, none⟩ (.int .i64 v)) := by
  have h1 := h.boxq
  have h2 := h.qg
  exact ⟨(h.row.set j (.int .i64 v)).congr fun i _ => by split <;> rfl, (heap_setCell_other _ ⟨g, j, none⟩ _ _ (by show w.heap.size ≠ g; omega)).trans h.box, (heap_setCell_other _ ⟨g, j, none⟩ _ _ (by show q ≠ g; omega)).trans h.shape,
    h.below.setCell (p := ⟨g, j, none⟩) (by show w.heap.size ≤ g; omega) _, h.boxq, h.qg⟩
end CovAt
theorem head_back {x : Cfg} (h : Cf.Good x) : IntKind.i64.wrap (x.d.tdiv x.h * x.h) = x.d := by
  have h1 := Int.tdiv_mul_add_tmod x.d x.h
  rw [h.rest, Int.add_zero] at h1
  rw [h1]
  have := h.is.d1
  have := h.is.d16
  exact IntWalk.i64_in _ (by omega)
set_option maxRecDepth 100000 in
set_option maxHeartbeats 12800000 in
theorem walk (w : World) (x : Cfg) : Calls Try.prog 5 #[cfV x] w fun e w' => e = .returned (.bool true) ∧ Below w.heap.size w w' := by
  have HAW := Lib.hid awake15
  have HCG := Lib.hid (fun W => conf_good W x)
  have HB0 := Lib.hid ((Below.refl w.heap.size w).alloc (Nat.le_refl _) (cfO 23 x))
  have HH0 := Lib.hid (heap_alloc_new w (cfO 23 x))
  cases hg : goodZ x with
  | false =>
    rw [hg] at HCG
    clear hg
    unfold cfV cfA at *
    go_enter Try.func5, Try.ntmps5
    go_wp2_with (fail)
    refine (HAW.out _).mono ?_
    rintro e w1 ⟨rfl, b1⟩
    have HB1 := Lib.hid (HB0.out.trans (b1.mono HB0.out.size))
    have HH1 := Lib.hid (stays HH0.out b1)
    obtain ⟨e0, e1, e2, e3, e4, e5⟩ := six HH1.out
    clear b1 HAW HB0 HH0
    go_wp2_with (fail)
    refine (HCG.out _).mono ?_
    rintro e w2 ⟨rfl, b2⟩
    have HB2 := Lib.hid (HB1.out.trans (b2.mono HB1.out.size))
    clear b2
    go_wp2_with (fail)
    exact bodyPost_ret (results_tmp rfl _ _ _) rfl ⟨rfl, HB2.out⟩
  | true =>
    have hgd := good_iff.1 hg
    have HGD := Lib.hid hgd
    rw [hg] at HCG
    obtain ⟨O, hO⟩ := owners hgd.is
    have HO := Lib.hid hO
    obtain ⟨N, hN⟩ : ∃ N : Nat, (N : Int) = totZ x := ⟨(totZ x).toNat, by have := (tot_in hgd.is).1; omega⟩
    have HN := Lib.hid hN
    have HN8 := Lib.hid (show N ≤ 8192 by have := hgd.fits; omega)
    have HCS := Lib.hid (show ∀ W, Calls Try.prog 15 #[cfV x] W fun e w' => e = .returned (.int .i64 (N : Int)) ∧ Below W.heap.size W w' from fun W => by
      have := conf_size W x
      rw [if_pos hg, ← hN] at this
      exact this)
    have HCH := Lib.hid (show ∀ W, Calls Try.prog 16 #[cfV x] W fun e w' => e = .returned (.int .i64 (x.d.tdiv x.h)) ∧ Below W.heap.size W w' from fun W => by
      have := conf_headDim W x
      rw [if_pos hg] at this
      exact this)
    have HRG := Lib.hid (fun W p k => conf_range W x p k)
    have HSD := Lib.hid (show ∀ W p, Calls Try.prog 11 #[cfV x, .int .i64 p] W fun e w' => e = .returned (.tuple #[.int .i64 (rowsZ x p), .int .i64 (colsZ x p)]) ∧ Below W.heap.size W w' from fun W p => by
      have := conf_Side W x p
      rw [if_pos hg, if_pos hg] at this
      exact this)
    obtain ⟨B, hB⟩ : ∃ B : Nat, (B : Int) = x.b := ⟨x.b.toNat, by have := hgd.is.b1; omega⟩
    have HBB := Lib.hid (show (B : Int) = x.b ∧ 1 ≤ B ∧ B ≤ 3 by have := hgd.is.b1; have := hgd.is.b3; omega)
    obtain ⟨i0, hi, hz0, hz1, hz2⟩ := info_parts info_n
    have HI := Lib.hid hi
    have HZ0 := Lib.hid hz0
    have HZ1 := Lib.hid hz1
    have HZ2 := Lib.hid hz2
    clear hg hgd hO hN hB hi hz0 hz1 hz2
    unfold cfV cfA at *
    go_enter Try.func5, Try.ntmps5
    go_wp2_with (fail)
    refine (HAW.out _).mono ?_
    rintro e w1 ⟨rfl, b1⟩
    have HB1 := Lib.hid (HB0.out.trans (b1.mono HB0.out.size))
    have HH1 := Lib.hid (stays HH0.out b1)
    obtain ⟨e0, e1, e2, e3, e4, e5⟩ := six HH1.out
    clear b1 HAW HB0 HH0
    go_wp2_with (fail)
    refine (HCG.out _).mono ?_
    rintro e w2 ⟨rfl, b2⟩
    have HB2 := Lib.hid (HB1.out.trans (b2.mono HB1.out.size))
    have HH2 := Lib.hid (stays HH1.out b2)
    have b3 := (Below.refl w2.heap.size w2).alloc (Nat.le_refl _) (cfO 27 x)
    have HB3 := Lib.hid (HB2.out.trans (b3.mono HB2.out.size))
    have HH3 := Lib.hid (stays HH2.out b3)
    have HS3 := Lib.hid (heap_alloc_new w2 (cfO 27 x))
    have HQ := Lib.hid (show w.heap.size < w2.heap.size from (Array.getElem?_eq_some_iff.1 HH2.out).1)
    clear e0 e1 e2 e3 e4 e5 b2 b3 HCG HB1 HH1 HB2
    obtain ⟨e0, e1, e2, e3, e4, e5⟩ := six HH2.out
    go_wp2_with (fail)
    refine (HCS.out _).mono ?_
    rintro e w4 ⟨rfl, b4⟩
    have HB4 := Lib.hid (HB3.out.trans (b4.mono HB3.out.size))
    have HH4 := Lib.hid (stays HH3.out b4)
    have HS4 := Lib.hid (stays HS3.out b4)
    clear e0 e1 e2 e3 e4 e5 b4 HB3 HH3 HS3 HH2
    generalize w2.heap.size = q at *
    go_wp2_with (at_make; refine wpList_make_row _ rfl _ _ 46 rfl 3 i0 (.int .i64 0) Try.underlying46 HI.out HZ0.out HZ1.out rfl .i64 .i64 N rfl rfl (by rw [HZ2.out]; have := HN8.out; omega) (by have := HN8.out; omega) ?_)
    have HC0 := Lib.hid (show CovAt w x q w4.heap.size N (seenZ O 0 0) (w4.alloc (.cells (madeCells #[.int .i64 0] N) 3)) from
      ⟨(World.rowIs_made w4 (.int .i64 0) N 3).congr fun i _ => by rw [seen_none], (heap_alloc_old _ _ (Array.getElem?_eq_some_iff.1 HH4.out).1).trans HH4.out, (heap_alloc_old _ _ (Array.getElem?_eq_some_iff.1 HS4.out).1).trans HS4.out, HB4.out.alloc HB4.out.size _, HQ.out, (Array.getElem?_eq_some_iff.1 HS4.out).1⟩)
    clear HB4 HH4 HS4 HQ
    generalize w4.alloc (.cells (madeCells #[.int .i64 0] N) 3) = w5 at *
    generalize w4.heap.size = g at *
    go_loopw [5] (fun vp wr => ∃ p : Nat, vp = .int .i64 (p : Int) ∧ p ≤ 12 ∧ CovAt w x q g N (seenZ O p 0) wr) (fun vp _ => match vp with | .int _ p => 12 - p.toNat | _ => 0)
    case atStart => exact ⟨0, rfl, by omega, HC0.out⟩
    case round =>
      clear HC0
      obtain ⟨p, rfl, hp, hc⟩ := hrel
      have HC := Lib.hid hc
      clear hc
      by_cases hpt : p ≤ 11
      · have x0 : (p : Int) ≤ 11 := by omega
        have x1 : decide ((p : Int) ≤ 11) = true := decide_eq_true x0
        have X2 := Lib.hid (IntWalk.wrap64_in ((p : Int) + 1) (by omega))
        have HP := Lib.hid hpt
        have HPM := Lib.hid (less p 12 (by omega))
        clear hp hpt
        go_wp2_with (fail)
        go_loopw [6] (fun vb wr => ∃ k : Nat, vb = .int .i64 (k : Int) ∧ k ≤ B ∧ CovAt w x q g N (seenZ O p k) wr) (fun vb _ => match vb with | .int _ k => B - k.toNat | _ => 0)
        case atStart => exact ⟨0, rfl, by omega, HC.out⟩
        case round =>
          clear HC
          obtain ⟨k, rfl, hk, hc⟩ := hrel
          have HC := Lib.hid hc
          have hc3 := (six hc.box).2.2.2.1
          clear hc
          by_cases hkt : k < B
          · have y0 : (k : Int) < x.b := by have := HBB.out; omega
            have y1 : decide ((k : Int) < x.b) = true := decide_eq_true y0
            have Y2 := Lib.hid (IntWalk.wrap64_in ((k : Int) + 1) (by have := HBB.out; omega))
            have HK1 := Lib.hid (show k + 1 ≤ B from hkt)
            have HKM := Lib.hid (less k B hkt)
            obtain ⟨d0, d1, d2, d3, d4, d5⟩ := six HC.out.shape
            clear hk hkt
            by_cases hti : (k : Int) < timesZ x (p : Int)
            · have hw := hit_within HGD.out.is HP.out hti
              have har := area_in HGD.out.is (p := (p : Int)) (by omega) (by have := HP.out; omega)
              obtain ⟨Fn, hFn⟩ : ∃ Fn : Nat, (Fn : Int) = fromZ x (p : Int) (k : Int) := ⟨(fromZ x (p : Int) (k : Int)).toNat, by omega⟩
              obtain ⟨En, hEn⟩ : ∃ En : Nat, (En : Int) = fromZ x (p : Int) (k : Int) + areaZ x (p : Int) := ⟨(fromZ x (p : Int) (k : Int) + areaZ x (p : Int)).toNat, by omega⟩
              have HRV := Lib.hid (show Calls Try.prog 13 #[.agg #[.int .i64 x.v, .int .i64 x.d, .int .i64 x.h, .int .i64 x.b, .int .i64 x.n, .int .i64 x.c], .int .i64 (p : Int), .int .i64 (k : Int)] wr fun e w' => e = .returned (.tuple #[.int .i64 (Fn : Int), .int .i64 (areaZ x (p : Int)), .bool true]) ∧ Below wr.heap.size wr w' from by
                have := HRG.out wr (p : Int) (k : Int)
                rw [range_yes ⟨HGD.out, by omega, by have := HP.out; omega, by omega, hti⟩, ← hFn] at this
                exact this)
              have HFE := Lib.hid (show Fn ≤ En ∧ En ≤ N ∧ (Fn : Int) + areaZ x (p : Int) = (En : Int) by have := HN.out; omega)
              have HBG := Lib.hid (show ∀ i, i < N → seenZ O p k i = seenJ O p k Fn i from fun i hi => by
                have := seen_begin HGD.out.is HO.out HP.out hti (i := i) (by have := HN.out; omega)
                rw [← hFn, Int.toNat_natCast] at this
                exact this.symm)
              have HEG := Lib.hid (show ∀ i, i < N → seenJ O p k En i = seenZ O p (k + 1) i from fun i hi => by
                have := seen_end HGD.out.is HO.out HP.out hti (i := i) (by have := HN.out; omega)
                rw [← hEn, Int.toNat_natCast] at this
                exact this)
              have HNW := Lib.hid (show ∀ j : Nat, Fn ≤ j → j < En → seenJ O p k j j = 0 ∧ seenJ O p k (j + 1) j = 1 from fun j h1 h2 => seen_new HGD.out.is HO.out HP.out hti (by omega) (by omega))
              have HAR := Lib.hid har
              have HA2 := Lib.hid (show wrap64 (rowsZ x (p : Int) * colsZ x (p : Int)) = areaZ x (p : Int) from IntWalk.wrap64_in _ (by unfold areaZ at har; omega))
              clear hw har hFn hEn hti
              generalize areaZ x (p : Int) = A at *
              go_wp2_with (fail)
              refine HRV.out.mono ?_
              rintro e w6 ⟨rfl, b6⟩
              have HC6 := Lib.hid (HC.out.step b6)
              clear b6 HC HRV d0 d1 d2 d3 d4 d5 hc3
              obtain ⟨d0, d1, d2, d3, d4, d5⟩ := six HC6.out.shape
              go_wp2_with (fail)
              refine (HSD.out _ _).mono ?_
              rintro e w7 ⟨rfl, b7⟩
              have HC7 := Lib.hid ((HC6.out.step b7).congr HBG.out)
              clear b7 HC6 d0 d1 d2 d3 d4 d5
              generalize rowsZ x (p : Int) = R at *
              generalize colsZ x (p : Int) = C at *
              have a2 := HA2.out
              have a3 : (A != A) = false := bne_self_eq_false _
              have a4 : decide ((Fn : Int) < 0) = false := decide_eq_false (by omega)
              have a4' : ¬ (Fn : Int) < 0 := by omega
              have a5 : wrap64 ((Fn : Int) + A) = (En : Int) := by rw [HFE.out.2.2]; exact IntWalk.wrap64_in _ (by have := HFE.out; have := HN8.out; omega)
              have a6' : ¬ (N : Int) < (En : Int) := by have := HFE.out; omega
              have a6 : decide ((N : Int) < (En : Int)) = false := decide_eq_false a6'
              go_wp2_with (fail)
              have A5 := Lib.hid a5
              clear a2 a3 a4 a4' a5 a6 a6'
              go_loopw [12] (fun vi wr => ∃ j : Nat, vi = .int .i64 (j : Int) ∧ Fn ≤ j ∧ j ≤ En ∧ CovAt w x q g N (seenJ O p k j) wr) (fun vi _ => match vi with | .int _ j => En - j.toNat | _ => 0)
              case atStart => exact ⟨Fn, rfl, Nat.le_refl _, HFE.out.1, HC7.out⟩
              case round =>
                clear HC7
                obtain ⟨j, rfl, hj1, hj2, hc⟩ := hrel
                have HC := Lib.hid hc
                clear hc
                by_cases hjt : j < En
                · have z0 : (j : Int) < (En : Int) := by omega
                  have z1 : decide ((j : Int) < (En : Int)) = true := decide_eq_true z0
                  have z3 : 0 ≤ (j : Int) := by omega
                  have z4 : j < N := by have := HFE.out; omega
                  have z5 : (j : Int) < (N : Int) := by omega
                  have HJ := Lib.hid (And.intro (show Fn ≤ j + 1 by omega) (show j + 1 ≤ En from hjt))
                  have HJM := Lib.hid (less j En hjt)
                  have hnw := HNW.out j hj1 hjt
                  have hcell := HC.out.row.cell z4
                  rw [hnw.1] at hcell
                  have hfz := HC.out.row.frozen j
                  have HC2 := Lib.hid (show CovAt w x q g N (seenJ O p k (j + 1)) (wr.setCell ⟨g, j, none⟩ (.int .i64 1)) from (HC.out.set j 1).congr fun i _ => by
                    by_cases hij : i = j
                    · rw [if_pos hij, hij, hnw.2]
                    · rw [if_neg hij, seen_other O hij])
                  have z2 := IntWalk.wrap64_in ((j : Int) + 1) (by have := HN8.out; omega)
                  have a5 := A5.out
                  clear HC hj1 hj2 hjt hnw
                  go_wp2_with (fail)
                  rw [z2]
                  exact ⟨⟨j + 1, rfl, HJ.out.1, HJ.out.2, HC2.out⟩, HJM.out⟩
                · have z0 : ¬ (j : Int) < (En : Int) := by omega
                  have z1 : decide ((j : Int) < (En : Int)) = false := decide_eq_false z0
                  have hjE : j = En := by omega
                  have HC2 := Lib.hid (show CovAt w x q g N (seenZ O p (k + 1)) wr from HC.out.congr fun i hi => by rw [hjE]; exact HEG.out i hi)
                  clear HC hj1 hj2 hjt hjE
                  have y2 := Y2.out
                  have a5 := A5.out
                  go_wp2_with (fail)
                  rw [y2]
                  exact ⟨⟨k + 1, rfl, HK1.out, HC2.out⟩, HKM.out⟩
            · have HRV := Lib.hid (show Calls Try.prog 13 #[.agg #[.int .i64 x.v, .int .i64 x.d, .int .i64 x.h, .int .i64 x.b, .int .i64 x.n, .int .i64 x.c], .int .i64 (p : Int), .int .i64 (k : Int)] wr fun e w' => e = .returned (.tuple #[.int .i64 0, .int .i64 0, .bool false]) ∧ Below wr.heap.size wr w' from by
                have := HRG.out wr (p : Int) (k : Int)
                rw [range_no fun h => hti h.2.2.2.2] at this
                exact this)
              have hpp : p = 0 ∨ p = 1 ∨ p = 11 := by
                have hp := HP.out
                have hb := HBB.out
                unfold timesZ at hti
                split at hti <;> omega
              have hk0 : ((k : Int) == 0) = false := by
                rw [beq_eq_false_iff_ne]
                have := HBB.out
                unfold timesZ at hti
                split at hti <;> omega
              have HC2 := Lib.hid (show CovAt w x q g N (seenZ O p (k + 1)) wr from HC.out.congr fun i hi => seen_skip HO.out (by omega) (by have := HN.out; omega))
              clear hti HC
              have h3 : (((p : Int) != 0) = false) ∨ (((p : Int) != 0) = true ∧ ((p : Int) != 1) = false) ∨ (((p : Int) != 0) = true ∧ ((p : Int) != 1) = true ∧ ((p : Int) != 11) = false) := by
                rcases hpp with rfl | rfl | rfl
                · exact .inl rfl
                · exact .inr (.inl ⟨rfl, rfl⟩)
                · exact .inr (.inr ⟨rfl, rfl, rfl⟩)
              clear hpp
              have y2 := Y2.out
              rcases h3 with m0 | ⟨m0, m1⟩ | ⟨m0, m1, m2⟩
              all_goals
                go_wp2_with (fail)
                refine HRV.out.mono ?_
                rintro e w6 ⟨rfl, b6⟩
                have HC6 := Lib.hid (HC2.out.step b6)
                clear b6 HC2 HRV d0 d1 d2 d3 d4 d5 hc3
                go_wp2_with (fail)
                rw [y2]
                exact ⟨⟨k + 1, rfl, HK1.out, HC6.out⟩, HKM.out⟩
          · have y0 : ¬ (k : Int) < x.b := by have := HBB.out; omega
            have y1 : decide ((k : Int) < x.b) = false := decide_eq_false y0
            have hkB : k = B := by omega
            have HC2 := Lib.hid (show CovAt w x q g N (seenZ O (p + 1) 0) wr from HC.out.congr fun i hi => by rw [hkB]; exact seen_row HGD.out.is HO.out HBB.out.1 (by have := HN.out; omega))
            clear hk hkt hkB HC
            have x2 := X2.out
            go_wp2_with (fail)
            exact ⟨⟨p + 1, rfl, by have := HP.out; omega, HC2.out⟩, HPM.out⟩
      · have x0 : ¬ (p : Int) ≤ 11 := by omega
        have x1 : decide ((p : Int) ≤ 11) = false := decide_eq_false x0
        have hp12 : p = 12 := by omega
        have HC2 := Lib.hid (show CovAt w x q g N (fun _ => 1) wr from HC.out.congr fun i hi => by rw [hp12]; exact seen_all HO.out (by have := HN.out; omega))
        clear HC hp hpt hp12
        go_wp2_with (fail)
        go_loopw [13] (fun vi wr => ∃ j : Nat, vi = .int .i64 (j : Int) ∧ j ≤ N ∧ CovAt w x q g N (fun _ => 1) wr) (fun vi _ => match vi with | .int _ j => N - j.toNat | _ => 0)
        case atStart => exact ⟨0, rfl, Nat.zero_le _, HC2.out⟩
        case round =>
          clear HC2
          obtain ⟨j, rfl, hj, hc⟩ := hrel
          have HC := Lib.hid hc
          clear hc
          by_cases hjt : j < N
          · have z0 : (j : Int) < (N : Int) := by omega
            have z1 : decide ((j : Int) < (N : Int)) = true := decide_eq_true z0
            have z2 := IntWalk.wrap64_in ((j : Int) + 1) (by have := HN8.out; omega)
            have z3 : 0 ≤ (j : Int) := by omega
            have HJM := Lib.hid (less j N hjt)
            have HJ1 := Lib.hid (show j + 1 ≤ N from hjt)
            have hcell := HC.out.row.cell hjt
            clear hj
            go_wp2_with (fail)
            rw [z2]
            exact ⟨⟨j + 1, rfl, HJ1.out, HC.out⟩, HJM.out⟩
          · have z0 : ¬ (j : Int) < (N : Int) := by omega
            have z1 : decide ((j : Int) < (N : Int)) = false := decide_eq_false z0
            clear hj hjt
            have HR1 := Lib.hid (fun W => show Calls Try.prog 13 #[.agg #[.int .i64 x.v, .int .i64 x.d, .int .i64 x.h, .int .i64 x.b, .int .i64 x.n, .int .i64 x.c], .int .i64 4, .int .i64 x.b] W fun e w' => e = .returned (.tuple #[.int .i64 0, .int .i64 0, .bool false]) ∧ Below W.heap.size W w' from by
              have := HRG.out W 4 x.b
              rw [range_no fun h => by have := h.2.2.2.2; unfold timesZ at this; rw [if_pos (by omega)] at this; omega] at this
              exact this)
            have HR2 := Lib.hid (fun W => show Calls Try.prog 13 #[.agg #[.int .i64 x.v, .int .i64 x.d, .int .i64 x.h, .int .i64 x.b, .int .i64 x.n, .int .i64 x.c], .int .i64 12, .int .i64 0] W fun e w' => e = .returned (.tuple #[.int .i64 0, .int .i64 0, .bool false]) ∧ Below W.heap.size W w' from by
              have := HRG.out W 12 0
              rw [range_no fun h => by have := h.2.2.1; omega] at this
              exact this)
            obtain ⟨d0, d1, d2, d3, d4, d5⟩ := six HC.out.shape
            obtain ⟨e0, e1, e2, e3, e4, e5⟩ := six HC.out.box
            go_wp2_with (fail)
            refine (HR1.out _).mono ?_
            rintro e w6 ⟨rfl, b6⟩
            have HC6 := Lib.hid (HC.out.step b6)
            clear b6 HC d0 d1 d2 d3 d4 d5 e0 e1 e2 e3 e4 e5 HR1
            obtain ⟨d0, d1, d2, d3, d4, d5⟩ := six HC6.out.shape
            go_wp2_with (fail)
            refine (HR2.out _).mono ?_
            rintro e w7 ⟨rfl, b7⟩
            have HC7 := Lib.hid (HC6.out.step b7)
            clear b7 HC6 d0 d1 d2 d3 d4 d5 HR2 HRG HSD
            have H3 := Lib.hid (fun (W : World) (hW : Below w7.heap.size w7 W) => show (W.cell? ⟨w.heap.size, 0, none⟩ = some (.int .i64 x.v) ∧ W.cell? ⟨w.heap.size, 1, none⟩ = some (.int .i64 x.d) ∧ W.cell? ⟨w.heap.size, 2, none⟩ = some (.int .i64 x.h) ∧ W.cell? ⟨w.heap.size, 3, none⟩ = some (.int .i64 x.b) ∧ W.cell? ⟨w.heap.size, 4, none⟩ = some (.int .i64 x.n) ∧ W.cell? ⟨w.heap.size, 5, none⟩ = some (.int .i64 x.c)) ∧ (W.cell? ⟨q, 0, none⟩ = some (.int .i64 x.v) ∧ W.cell? ⟨q, 1, none⟩ = some (.int .i64 x.d) ∧ W.cell? ⟨q, 2, none⟩ = some (.int .i64 x.h) ∧ W.cell? ⟨q, 3, none⟩ = some (.int .i64 x.b) ∧ W.cell? ⟨q, 4, none⟩ = some (.int .i64 x.n) ∧ W.cell? ⟨q, 5, none⟩ = some (.int .i64 x.c)) from ⟨six (HC7.out.step hW).box, six (HC7.out.step hW).shape⟩)
            have B0 := Lib.hid (show Below w7.heap.size w7 w7.drew from below_drewN (Below.refl _ _) 1)
            have k0 := H3.out _ B0.out
            have n8' : (N : Int) ≤ 8192 := by have := HN8.out; omega
            have n8 : decide ((N : Int) ≤ 8192) = true := decide_eq_true n8'
            have hd1 := head_back HGD.out
            have hd2 : (x.d == x.d) = true := beq_self_eq_true _
            generalize hx : x.d.tdiv x.h * x.h = dh at hd1
            go_wp2_with (fail)
            go_region_held3 (fun W : World => (W.cell? ⟨w.heap.size, 0, none⟩ = some (.int .i64 x.v) ∧ W.cell? ⟨w.heap.size, 1, none⟩ = some (.int .i64 x.d) ∧ W.cell? ⟨w.heap.size, 2, none⟩ = some (.int .i64 x.h) ∧ W.cell? ⟨w.heap.size, 3, none⟩ = some (.int .i64 x.b) ∧ W.cell? ⟨w.heap.size, 4, none⟩ = some (.int .i64 x.n) ∧ W.cell? ⟨w.heap.size, 5, none⟩ = some (.int .i64 x.c)) ∧ (W.cell? ⟨q, 0, none⟩ = some (.int .i64 x.v) ∧ W.cell? ⟨q, 1, none⟩ = some (.int .i64 x.d) ∧ W.cell? ⟨q, 2, none⟩ = some (.int .i64 x.h) ∧ W.cell? ⟨q, 3, none⟩ = some (.int .i64 x.b) ∧ W.cell? ⟨q, 4, none⟩ = some (.int .i64 x.n) ∧ W.cell? ⟨q, 5, none⟩ = some (.int .i64 x.c))) (first | exact k0 | assumption) (first
              | (go_at_call 15; (with_reducible refine (HCS.out _).mono ?_); rintro e w8 ⟨rfl, b8⟩; have B1 := Lib.hid (B0.out.trans (b8.mono B0.out.size)); have k1 := H3.out _ B1.out; clear b8)
              | (go_at_call 16; (with_reducible refine (HCH.out _).mono ?_); rintro e w9 ⟨rfl, b9⟩; have B2 := Lib.hid (B1.out.trans (b9.mono B1.out.size)); have k2 := H3.out _ B2.out; clear b9))
            go_wp2_with (fail)
            exact bodyPost_ret (results_tmp rfl _ _ _) rfl ⟨rfl, (HC7.out.step B2.out).below⟩
end confCover
end Go.Proofs.Ytifcdfcjacjdiaa
