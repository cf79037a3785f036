/-
  The reference of layer 15: Bytes, Parse. Condition of Bytes: each number alone can be.
-/
import Derived.Test.YtifcdfcjacjdiaaCf8
import Derived.Test.YtifcdfcjacjdiaaCf6
import Derived.Test.YtifcdfcjacjdiaaPenRef
import Derived.Test.YtifcdfcjacjdiaaPenRefW
namespace Go.Proofs.Ytifcdfcjacjdiaa
open Go.ChangeShapes Go.WideShapes Go.ChangeAt Go.RowKit Pn Cf

namespace Cf
theorem nth_in {x : Cfg} (h : In x) (i : Nat) : 1 ≤ nthZ x i ∧ nthZ x i ≤ 32 := by
  obtain ⟨a, b, c, d, e, f, g, h, i', j, k, l⟩ := h
  unfold nthZ
  split <;> omega
theorem join_nums (x : Cfg) (j : Nat) : (⟨(numsL (nthZ x) j).toArray⟩ : ByteArray) ++ ⟨(numL (nthZ x j)).toArray⟩ = ⟨(numsL (nthZ x) (j + 1)).toArray⟩ := by
  rw [numsL_next]
  apply ByteArray.ext
  rw [ByteArray.data_append]
  simp
end Cf
set_option maxRecDepth 100000 in
set_option maxHeartbeats 1600000 in
theorem ref15_bytes (w : World) (x : Cfg) (h : In x) : Calls Try.prog 19 #[cfV x] w fun e w' => e = .returned (.string (cfgB x)) ∧ Below w.heap.size w w' := by
  have HN := Lib.hid (fun W i => refw_num W (nthZ x i) (by have := nth_in h i; omega) (by have := nth_in h i; omega))
  have HJ := Lib.hid (join_nums x)
  have HCB := Lib.hid (show cfgB x = ⟨(numsL (nthZ x) 6).toArray⟩ from rfl)
  have HSZ := Lib.hid (show ∀ j, (⟨(numsL (nthZ x) j).toArray⟩ : ByteArray).size = 4 * j from fun j => by rw [size_list, numsL_length])
  have HS4 := Lib.hid (show ∀ j, (⟨(numL (nthZ x j)).toArray⟩ : ByteArray).size = 4 from fun j => by rw [size_list, numL_length])
  have HS0 := Lib.hid (show (⟨(numsL (nthZ x) 0).toArray⟩ : ByteArray) = ⟨#[]⟩ from rfl)
  have HCE := Lib.hid (show ∀ j, j < 6 → (cfA x)[j]? = some (.int .i64 (nthZ x j)) from fun j hj => by
    rcases (show j = 0 ∨ j = 1 ∨ j = 2 ∨ j = 3 ∨ j = 4 ∨ j = 5 by omega) with rfl | rfl | rfl | rfl | rfl | rfl <;> rfl)
  have HB0 := Lib.hid (((Below.refl w.heap.size w).alloc (Nat.le_refl _) (cfO 23 x)).alloc (by simp) (cfO 60 x))
  have HA0 := Lib.hid (show ((w.alloc (cfO 23 x)).alloc (cfO 60 x)).heap[w.heap.size + 1]? = some (cfO 60 x) from heap_alloc2_new w _ _)
  have hcell : ∀ W : World, W.heap[w.heap.size + 1]? = some (cfO 60 x) → ∀ j, j < 6 → W.cell? ⟨w.heap.size + 1, j, none⟩ = some (.int .i64 (nthZ x j)) := fun W hW j hj => by
    rw [cell_of_row W _ j _ _ _ hW]
    exact HCE.out j hj
  have HCL := Lib.hid hcell
  clear hcell h
  generalize cfgB x = CB at HCB ⊢
  generalize hS : (fun j => (⟨(numsL (nthZ x) j).toArray⟩ : ByteArray)) = S
  have hSj : ∀ j, (⟨(numsL (nthZ x) j).toArray⟩ : ByteArray) = S j := fun j => by rw [← hS]
  simp only [hSj] at HJ HCB HSZ HS0
  clear hS hSj HCE
  unfold cfV cfA
  go_enter Try.func19, Try.ntmps19
  go_wp2_with (fail)
  go_loopw [3, 5] (fun s i wr => ∃ j : Nat, i = .int .i64 (j : Int) ∧ j ≤ 6 ∧ s = .string (S j) ∧ wr.heap[w.heap.size + 1]? = some (cfO 60 x) ∧ Below w.heap.size w wr) (fun _ i _ => match i with | .int _ q => 6 - q.toNat | _ => 0)
  case atStart => exact ⟨0, rfl, Nat.zero_le _, by rw [HS0.out], HA0.out, HB0.out⟩
  case round =>
    clear HB0 HA0
    obtain ⟨j, rfl, hj, rfl, hh, hb⟩ := hrel
    have HH := Lib.hid hh
    have HB := Lib.hid hb
    clear hh hb
    have x2 : 0 ≤ (j : Int) := by omega
    by_cases hlt : j < 6
    · have x0 : (j : Int) < 6 := by omega
      have x1 : decide ((j : Int) < 6) = true := decide_eq_true x0
      have x3 := IntWalk.wrap64_in ((j : Int) + 1) (by omega)
      have hc := HCL.out _ HH.out j hlt
      have HJ1 := Lib.hid (show j + 1 ≤ 6 from hlt)
      have HN1 := Lib.hid (HN.out wr j)
      have HJJ := Lib.hid (HJ.out j)
      have hs1 := HSZ.out j
      have hs2 := HS4.out j
      clear hj
      generalize nthZ x j = z at hc HN1 HJJ hs2
      generalize (⟨(numL z).toArray⟩ : ByteArray) = nz at HN1 HJJ hs2
      have hs3 : ¬ 9223372036854775807 < (S j).size + nz.size := by omega
      clear hs1 hs2
      go_wp2_with (fail)
      refine HN1.out.mono ?_
      rintro e w1 ⟨rfl, b1⟩
      have HB1 := Lib.hid (HB.out.trans (b1.mono HB.out.size))
      have HH1 := Lib.hid (stays HH.out b1)
      clear b1 HB HH
      go_wp2_with (fail)
      exact ⟨⟨j + 1, rfl, HJ1.out, by rw [HJJ.out], HH1.out, HB1.out⟩, less j 6 HJ1.out⟩
    · have x0 : ¬ (j : Int) < 6 := by omega
      have x1 : decide ((j : Int) < 6) = false := decide_eq_false x0
      obtain rfl : j = 6 := by omega
      clear hlt hj
      go_wp2_with (fail)
      exact bodyPost_ret (results_tmp rfl _ _ _) rfl ⟨by rw [HCB.out]; rfl, HB.out⟩
theorem cfI2 (x : Cfg) : (Try.prog.info? 23).map (·.size) = some (cfA x).size := by kernel_rfl
/-- What the document's Parse answers. -/
def parseW (t : ByteArray) : Value := if okT free t = true then .tuple #[cfV (cfgT free t), .bool true] else .tuple #[cfV zeroC, .bool false]
/-- The document's eye in the block g, behind i numbers; the result's block is as it was. -/
def RefEyes (w : World) (g : Nat) (t : ByteArray) (i : Nat) (W : World) : Prop := RefAt W g (rsT free t i) (bsT free t i) ∧ W.heap[w.heap.size]? = some (cfO 23 zeroC) ∧ Below w.heap.size w W
theorem refEyes_step {w W : World} {g : Nat} {t : ByteArray} {i : Nat} (hg : w.heap.size < g) (h : RefEyes w g t i W) : Calls Try.prog 35 #[.pointer (some ⟨g, 0, none⟩), .int .i64 4294967295] W fun e w' => e = .returned (.int .i64 (vsT free t i : Int)) ∧ RefEyes w g t (i + 1) w' := by
  obtain ⟨h1, h2, h3⟩ := h
  refine (ref_num W g _ _ h1 (sane_T free t i) 4294967295).mono ?_
  rintro e w' ⟨rfl, e1, o1⟩
  exact ⟨rfl, e1, (o1.block _ (Array.getElem?_eq_some_iff.1 h2).1 (by omega)).trans h2, h3.trans (o1.below (by omega) h3.size)⟩
set_option maxRecDepth 100000 in
set_option maxHeartbeats 3200000 in
theorem ref15_parse (w : World) (t : ByteArray) : Calls Try.prog 20 #[.string t] w fun e w' => e = .returned (parseW t) ∧ Below w.heap.size w w' := by
  have HGD := Lib.hid (fun W => show Calls Try.prog 7 #[.agg #[.int .i64 (cfgT free t).v, .int .i64 (cfgT free t).d, .int .i64 (cfgT free t).h, .int .i64 (cfgT free t).b, .int .i64 (cfgT free t).n, .int .i64 (cfgT free t).c]] W fun e w' => e = .returned (.bool (goodZ (cfgT free t))) ∧ Below W.heap.size W w' from ref15_good W (cfgT free t))
  have HV1 := Lib.hid (fun h => show parseW t = .tuple #[cfV (cfgT free t), .bool true] from if_pos h)
  have HV2 := Lib.hid (fun h => show parseW t = .tuple #[cfV zeroC, .bool false] from if_neg h)
  have HOK := Lib.hid (okT_iff (m := free) (t := t))
  have HZ1 := Lib.hid (fun y => cfI2 y)
  have HX1 := Lib.hid (show ∀ y : Cfg, cfV y = .agg #[.int .i64 y.v, .int .i64 y.d, .int .i64 y.h, .int .i64 y.b, .int .i64 y.n, .int .i64 y.c] from fun _ => rfl)
  have HG := Lib.hid (good_iff (x := cfgT free t))
  have H0 := Lib.hid (fun W g (hg : w.heap.size < g) h => show Calls Try.prog 35 #[.pointer (some ⟨g, 0, none⟩), .int .i64 4294967295] W fun e w' => e = .returned (.int .i64 (cfgT free t).v) ∧ RefEyes w g t 1 w' from refEyes_step (w := w) (W := W) (g := g) (t := t) (i := 0) hg h)
  have H1 := Lib.hid (fun W g (hg : w.heap.size < g) h => show Calls Try.prog 35 #[.pointer (some ⟨g, 0, none⟩), .int .i64 4294967295] W fun e w' => e = .returned (.int .i64 (cfgT free t).d) ∧ RefEyes w g t 2 w' from refEyes_step (w := w) (W := W) (g := g) (t := t) (i := 1) hg h)
  have H2 := Lib.hid (fun W g (hg : w.heap.size < g) h => show Calls Try.prog 35 #[.pointer (some ⟨g, 0, none⟩), .int .i64 4294967295] W fun e w' => e = .returned (.int .i64 (cfgT free t).h) ∧ RefEyes w g t 3 w' from refEyes_step (w := w) (W := W) (g := g) (t := t) (i := 2) hg h)
  have H3 := Lib.hid (fun W g (hg : w.heap.size < g) h => show Calls Try.prog 35 #[.pointer (some ⟨g, 0, none⟩), .int .i64 4294967295] W fun e w' => e = .returned (.int .i64 (cfgT free t).b) ∧ RefEyes w g t 4 w' from refEyes_step (w := w) (W := W) (g := g) (t := t) (i := 3) hg h)
  have H4 := Lib.hid (fun W g (hg : w.heap.size < g) h => show Calls Try.prog 35 #[.pointer (some ⟨g, 0, none⟩), .int .i64 4294967295] W fun e w' => e = .returned (.int .i64 (cfgT free t).n) ∧ RefEyes w g t 5 w' from refEyes_step (w := w) (W := W) (g := g) (t := t) (i := 4) hg h)
  have H5 := Lib.hid (fun W g (hg : w.heap.size < g) h => show Calls Try.prog 35 #[.pointer (some ⟨g, 0, none⟩), .int .i64 4294967295] W fun e w' => e = .returned (.int .i64 (cfgT free t).c) ∧ RefEyes w g t 6 w' from refEyes_step (w := w) (W := W) (g := g) (t := t) (i := 5) hg h)
  generalize parseW t = T at HV1 HV2 ⊢
  generalize cfgT free t = x at *
  obtain ⟨g, hg⟩ : ∃ g, g = (w.alloc (cfO 23 zeroC)).heap.size := ⟨_, rfl⟩
  have HGG := Lib.hid (show w.heap.size < g by rw [hg]; simp)
  have HG1 := Lib.hid (show g = w.heap.size + 1 by rw [hg]; simp)
  have HE0 := Lib.hid (show RefEyes w g t 0 ((w.alloc (cfO 23 zeroC)).alloc (.cells #[.string t, .bool false] 65)) from ⟨by rw [hg]; exact heap_alloc_new _ _, (heap_alloc_old _ _ (by simp)).trans (heap_alloc_new w (cfO 23 zeroC)), ((Below.refl w.heap.size w).alloc (Nat.le_refl _) (cfO 23 zeroC)).alloc (by simp) _⟩)
  clear hg
  go_enter Try.func20, Try.ntmps20
  go_wp2_with (fail)
  rw [← HG1.out]
  refine (H0.out _ g HGG.out HE0.out).mono ?_
  rintro e w2 ⟨rfl, e2⟩
  have E1 := Lib.hid e2
  clear e2 HE0 H0
  go_wp2_with (fail)
  refine (H1.out _ g HGG.out E1.out).mono ?_
  rintro e w3 ⟨rfl, e3⟩
  have E2 := Lib.hid e3
  clear e3 E1 H1
  go_wp2_with (fail)
  refine (H2.out _ g HGG.out E2.out).mono ?_
  rintro e w4 ⟨rfl, e4⟩
  have E3 := Lib.hid e4
  clear e4 E2 H2
  go_wp2_with (fail)
  refine (H3.out _ g HGG.out E3.out).mono ?_
  rintro e w5 ⟨rfl, e5⟩
  have E4 := Lib.hid e5
  clear e5 E3 H3
  go_wp2_with (fail)
  refine (H4.out _ g HGG.out E4.out).mono ?_
  rintro e w6 ⟨rfl, e6⟩
  have E5 := Lib.hid e6
  clear e6 E4 H4
  go_wp2_with (fail)
  refine (H5.out _ g HGG.out E5.out).mono ?_
  rintro e w7 ⟨rfl, e7⟩
  obtain ⟨f1, f2, f3⟩ := e7
  have b8 := (Below.refl w7.heap.size w7).alloc (Nat.le_refl _) (.cells #[.int .i64 x.v, .int .i64 x.d, .int .i64 x.h, .int .i64 x.b, .int .i64 x.n, .int .i64 x.c] 23)
  have F1 := Lib.hid (f1.of_block (b8.block g f1.lt))
  have F2 := Lib.hid (stays f2 b8)
  have F3 := Lib.hid (f3.trans (b8.mono f3.size))
  have HN0 := Lib.hid (show (w7.alloc (.cells #[.int .i64 x.v, .int .i64 x.d, .int .i64 x.h, .int .i64 x.b, .int .i64 x.n, .int .i64 x.c] 23)).heap[w7.heap.size]? = some (cfO 23 x) from heap_alloc_new w7 _)
  clear f1 f2 f3 b8 E5 H5
  generalize rsT free t 6 = rr at F1 HOK
  generalize bsT free t 6 = bb at F1 HOK
  have r0 := F1.out.rest
  have r1 := F1.out.wrong
  obtain ⟨d0, d1, d2, d3, d4, d5⟩ := six F2.out
  have fz := set_frozen F2.out
  have r2 : (0 : Int) ≤ ((rr).size : Int) := by omega
  cases hb : bb with
  | true =>
    rw [hb] at r1
    have HV := Lib.hid (HV2.out fun h => by have := (HOK.out.1 h).2.1; rw [hb] at this; cases this)
    clear hb HV1 HV2 HOK HG
    go_wp2_with (fail)
    refine bodyPost_ret (res_cell_tmp rfl _ _ _ 23 _ _ _ rfl (set6_row F2.out zeroC) Try.underlying23 rfl (HZ1.out zeroC)) rfl ?_
    exact ⟨by rw [HV.out]; rfl, set6_below F3.out (Nat.le_refl _) zeroC⟩
  | false =>
    rw [hb] at r1
    by_cases hs : 0 < (rr).size
    · have HV := Lib.hid (HV2.out fun h => by have := (HOK.out.1 h).2.2; omega)
      have y0 : (0 : Int) < ((rr).size : Int) := by omega
      have y1 : decide ((0 : Int) < ((rr).size : Int)) = true := decide_eq_true y0
      have y2 : decide (0 < (rr).size) = true := decide_eq_true hs
      clear hb HV1 HV2 HOK HG r2
      go_wp2_with (fail)
      refine bodyPost_ret (res_cell_tmp rfl _ _ _ 23 _ _ _ rfl (set6_row F2.out zeroC) Try.underlying23 rfl (HZ1.out zeroC)) rfl ?_
      exact ⟨by rw [HV.out]; rfl, set6_below F3.out (Nat.le_refl _) zeroC⟩
    · have y0 : ¬ (0 : Int) < ((rr).size : Int) := by omega
      have y1 : decide ((0 : Int) < ((rr).size : Int)) = false := decide_eq_false y0
      have HSZ := Lib.hid (show (rr).size = 0 by omega)
      have HBD := Lib.hid hb
      have y2 : decide (0 < (rr).size) = false := decide_eq_false hs
      clear hb r2 d0 d1 d2 d3 d4 d5 fz
      go_wp2_with (fail)
      refine (HGD.out _).mono ?_
      rintro e w9 ⟨rfl, b9⟩
      have F4 := Lib.hid (stays F2.out b9)
      have F5 := Lib.hid (F3.out.trans (b9.mono F3.out.size))
      have HN1 := Lib.hid (stays HN0.out b9)
      clear b9 F1 F2 F3 HN0 r0 r1 y0 y1 y2 hs HGD
      obtain ⟨d0, d1, d2, d3, d4, d5⟩ := six F4.out
      obtain ⟨n0, n1, n2, n3, n4, n5⟩ := six HN1.out
      have fz := set_frozen F4.out
      cases hg : goodZ x with
      | true =>
        have HV := Lib.hid (HV1.out (HOK.out.2 ⟨HG.out.1 hg, HBD.out, HSZ.out⟩))
        clear hg HV1 HV2 HOK HG
        go_wp2_with (fail)
        refine bodyPost_ret (res_cell_tmp rfl _ _ _ 23 _ _ _ rfl (set6_row F4.out x) Try.underlying23 rfl (HZ1.out x)) rfl ?_
        exact ⟨by rw [HV.out]; rfl, set6_below F5.out (Nat.le_refl _) x⟩
      | false =>
        have HV := Lib.hid (HV2.out fun h => by have := good_iff.2 (HOK.out.1 h).1; rw [hg] at this; cases this)
        clear hg HV1 HV2 HOK HG
        go_wp2_with (fail)
        refine bodyPost_ret (res_cell_tmp rfl _ _ _ 23 _ _ _ rfl (set6_row F4.out zeroC) Try.underlying23 rfl (HZ1.out zeroC)) rfl ?_
        exact ⟨by rw [HV.out]; rfl, set6_below F5.out (Nat.le_refl _) zeroC⟩
end Go.Proofs.Ytifcdfcjacjdiaa
