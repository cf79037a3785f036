/-
  Package store: a superblock's text, written and read. Conditions: the zone ahead of it says what stands there.
-/
import Derived.Test.YtnmgkkjnjllpbaaGreatDoorMg11
import Derived.Test.YtnmgkkjnjllpbaaGreatDoorMg7
import Derived.Test.YtnmgkkjnjllpbaaGreatDoorMg8
import Derived.Great.BuildSlice
set_option maxRecDepth 100000
namespace Go.Proofs.YtnmgkkjnjllpbaaGreatDoor
open Go.ChangeShapes Go.WideShapes Go.ChangeAt Go.RowKit Pn Dk Sl Ly

namespace Ly
/-- A superblock's text. -/
def three (r k c : Int) (i : Nat) : Int := if i = 0 then r else if i = 1 then k else c
def superL (r k c : Int) : List UInt8 := numL r ++ (numL k ++ numL c)
def superB (r k c : Int) : ByteArray := ⟨(superL r k c).toArray⟩
theorem superL_length (r k c : Int) : (superL r k c).length = 12 := by unfold superL; rw [List.length_append, List.length_append, numL_length, numL_length, numL_length]
theorem superB_size (r k c : Int) : (superB r k c).size = 12 := by show (superL r k c).toArray.size = 12; rw [List.size_toArray, superL_length]
theorem three_nums (r k c : Int) : numsL (three r k c) 3 = superL r k c := by
  show (List.range 3).flatMap (fun i => numL (three r k c i)) = _
  simp [List.range_succ, three, superL]
theorem pen_three (r k c : Int) : penL [⟨(numsL (three r k c) 3).toArray⟩] = superL r k c := by rw [three_nums]; simp [penL]
end Ly
theorem threeInts (r k c : Int) : Tryz.prog.builtSlice 146 3 [(0, .int .i64 r), (1, .int .i64 k), (2, .int .i64 c)] = some #[.int .i64 r, .int .i64 k, .int .i64 c] := by kernel_rfl
set_option maxRecDepth 100000 in
set_option maxHeartbeats 1600000 in
theorem store_super (w : World) (r k c : Int) : Calls Tryz.prog 41 #[lyV r k c] w fun e w' => e = .returned (.string (superB r k c)) ∧ Below w.heap.size w w' := by
  have HPL := Lib.hid (pen_three r k c)
  unfold lyV lyA
  go_enter Tryz.func41, Tryz.ntmps41
  go_wp2_with (refine Great.wpList_buildSliceTo rfl 146 3 3 #[(0, .tmp 5), (1, .tmp 7), (2, .tmp 9)] rfl _ rfl (some 10) rfl Tryz.underlying146 #[.int .i64 r, .int .i64 k, .int .i64 c] (threeInts r k c) ?_)
  refine gen_calls (fun W => PenHd W (w.heap.size + 1) none false ∧ W.heap[w.heap.size + 1 + 1]? = some (.cells #[.int .i64 r, .int .i64 k, .int .i64 c] 3 (0, 0)) ∧ Below w.heap.size w W) ?_ ?_
  · refine ⟨?_, ?_, (((Below.refl _ _).alloc (Nat.le_refl _) _).alloc (by simp) _).alloc (by simp; omega) _⟩
    · exact (heap_alloc_old _ _ (by simp)).trans (heap_alloc2_new w _ _)
    · have := heap_alloc_new ((w.alloc (.cells #[.int .i64 r, .int .i64 k, .int .i64 c] 23)).alloc (.cells #[.pointer none, .bool false] 119)) (.cells #[.int .i64 r, .int .i64 k, .int .i64 c] 3)
      simpa using this
  rintro w1 ⟨p1, c1, b1⟩
  have B1 := Lib.hid b1
  refine (pen_num w1 (w.heap.size + 1) [] false ⟨none, p1, rfl⟩ (some ⟨w.heap.size + 1 + 1, 0, none⟩) 3 3 (three r k c) (by omega) (fun _ => ⟨_, 0, rfl, by omega, fun j hj => ?_⟩) (by simp only [total]; omega)).mono ?_
  · rw [cell_of_row _ _ _ _ _ _ c1, Nat.zero_add]
    rcases (show j = 0 ∨ j = 1 ∨ j = 2 by omega) with rfl | rfl | rfl <;> rfl
  rintro e w2 ⟨rfl, h2, o2⟩
  have H2 := Lib.hid h2
  have B2 := Lib.hid (b1.trans (o2.below (by omega) b1.size))
  clear h2 o2 p1 c1 b1 B1
  go_wp2_with (fail)
  refine (pen_bytes w2 (w.heap.size + 1) _ _ H2.out (by simp only [total, szList, numsL_length]; omega)).mono ?_
  rintro e w3 ⟨rfl, b3⟩
  rw [HPL.out]
  have B3 := Lib.hid (B2.out.trans (b3.mono B2.out.size))
  clear b3
  go_wp2_with (fail)
  exact bodyPost_ret (results_tmp rfl _ _ _) rfl ⟨rfl, B3.out⟩
namespace Ly
theorem superL_cons (r k c : Int) : superL r k c = numL r ++ (numL k ++ (numL c ++ [])) := by unfold superL; rw [List.append_nil]
section
variable {r k c : Nat} (h : LyOk r k c)
include h
theorem rd0 : nmOut (superB r k c) 128 = r ∧ nmRest (superB r k c) 128 = ⟨(numL (k : Int) ++ (numL (c : Int) ++ [])).toArray⟩ ∧ nmBad (superB r k c) false 128 = false := by
  have h1 := h.r128
  have hn : numOk (r : Int) = true := num_ok (by omega) (by omega)
  unfold superB
  rw [superL_cons]
  refine ⟨?_, nm_num_rest _ hn _ _ (by omega), nm_num_bad _ hn _ _ (by omega)⟩
  have := nm_num_out (r : Int) hn (numL (k : Int) ++ (numL (c : Int) ++ [])) 128 (by omega)
  omega
theorem rd1 : nmOut ⟨(numL (k : Int) ++ (numL (c : Int) ++ [])).toArray⟩ 256 = k ∧ nmRest ⟨(numL (k : Int) ++ (numL (c : Int) ++ [])).toArray⟩ 256 = ⟨(numL (c : Int) ++ []).toArray⟩ ∧ nmBad ⟨(numL (k : Int) ++ (numL (c : Int) ++ [])).toArray⟩ false 256 = false := by
  have h1 := h.k256
  have hn : numOk (k : Int) = true := num_ok (by omega) (by omega)
  refine ⟨?_, nm_num_rest _ hn _ _ (by omega), nm_num_bad _ hn _ _ (by omega)⟩
  have := nm_num_out (k : Int) hn (numL (c : Int) ++ []) 256 (by omega)
  omega
theorem rd2 : nmOut ⟨(numL (c : Int) ++ []).toArray⟩ 64 = c ∧ nmRest ⟨(numL (c : Int) ++ []).toArray⟩ 64 = ⟨([] : List UInt8).toArray⟩ ∧ nmBad ⟨(numL (c : Int) ++ []).toArray⟩ false 64 = false := by
  have h1 := h.c64
  have hn : numOk (c : Int) = true := num_ok (by omega) (by omega)
  refine ⟨?_, nm_num_rest _ hn _ _ (by omega), nm_num_bad _ hn _ _ (by omega)⟩
  have := nm_num_out (c : Int) hn [] 64 (by omega)
  omega
end
end Ly
namespace Ly
section
variable {W : World} {b : Nat} {r0 k0 c0 : Int} (h : W.heap[b]? = some (lyO r0 k0 c0)) (r k c : Int)
include h
theorem set3 : (((W.setCell ⟨b, 0, none⟩ (.int .i64 r)).setCell ⟨b, 1, none⟩ (.int .i64 k)).setCell ⟨b, 2, none⟩ (.int .i64 c)).heap[b]? = some (lyO r k c) :=
  heap_setCell_same _ b 2 _ _ _ (heap_setCell_same _ b 1 _ _ _ (heap_setCell_same W b 0 _ _ _ h))
theorem lyFz (i : Nat) : W.frozen? ⟨b, i, none⟩ = false := frozen_of_row W b i _ _ h
end
theorem below_set3 {B : Nat} {w0 W : World} (h : Below B w0 W) {b : Nat} (hb : B ≤ b) (r k c : Value) : Below B w0 (((W.setCell ⟨b, 0, none⟩ r).setCell ⟨b, 1, none⟩ k).setCell ⟨b, 2, none⟩ c) :=
  ⟨h.os, h.tape, h.output, by simpa [World.setCell] using h.size, fun i hi => by
    rw [heap_setCell_other _ ⟨b, 2, none⟩ i _ (by show i ≠ b; omega), heap_setCell_other _ ⟨b, 1, none⟩ i _ (by show i ≠ b; omega), heap_setCell_other _ ⟨b, 0, none⟩ i _ (by show i ≠ b; omega)]
    exact h.block i hi⟩
end Ly
theorem lyI (r k c : Int) : (Tryz.prog.info? 23).map (·.size) = some (lyA r k c).size := by kernel_rfl
set_option maxRecDepth 100000 in
set_option maxHeartbeats 1600000 in
/-- The layout that a superblock tells. -/
theorem store_layoutOf (w : World) (Z : Nat) (r k c : Nat) (h : LyOk r k c)
    (hg : ∀ W, Below w.heap.size w W → Calls Tryz.prog 56 #[.pointer (some ⟨Z, 0, none⟩), .int .i64 0] W fun e w' => e = .returned (.tuple #[.string (superB r k c), .int .i64 1, .int .i64 0]) ∧ Below W.heap.size W w') :
    Calls Tryz.prog 54 #[.pointer (some ⟨Z, 0, none⟩)] w fun e w' => e = .returned (lyV r k c) ∧ Below w.heap.size w w' := by
  obtain ⟨x0, x1, x2⟩ := rd0 h
  obtain ⟨y0, y1, y2⟩ := rd1 h
  obtain ⟨z0, z1, z2⟩ := rd2 h
  have HG := Lib.hid hg
  have HX := Lib.hid (fun W b (hb : EyeAt W b (superB r k c) false) => show Calls Tryz.prog 75 #[.pointer (some ⟨b, 0, none⟩), .int .i64 128] W (EyeSays W b (.int .i64 (r : Int)) ⟨(numL (k : Int) ++ (numL (c : Int) ++ [])).toArray⟩ false) from by
    have hh := eye_num W b _ _ hb 128
    rw [x0, x1, x2] at hh
    exact hh)
  have HY := Lib.hid (fun W b (hb : EyeAt W b ⟨(numL (k : Int) ++ (numL (c : Int) ++ [])).toArray⟩ false) => show Calls Tryz.prog 75 #[.pointer (some ⟨b, 0, none⟩), .int .i64 256] W (EyeSays W b (.int .i64 (k : Int)) ⟨(numL (c : Int) ++ []).toArray⟩ false) from by
    have hh := eye_num W b _ _ hb 256
    rw [y0, y1, y2] at hh
    exact hh)
  have HZ := Lib.hid (fun W b (hb : EyeAt W b ⟨(numL (c : Int) ++ []).toArray⟩ false) => show Calls Tryz.prog 75 #[.pointer (some ⟨b, 0, none⟩), .int .i64 64] W (EyeSays W b (.int .i64 (c : Int)) ⟨([] : List UInt8).toArray⟩ false) from by
    have hh := eye_num W b _ _ hb 64
    rw [z0, z1, z2] at hh
    exact hh)
  clear hg x0 x1 x2 y0 y1 y2 z0 z1 z2 h
  unfold lyV lyA
  generalize (⟨(numL (k : Int) ++ (numL (c : Int) ++ [])).toArray⟩ : ByteArray) = t1 at HX HY
  generalize (⟨(numL (c : Int) ++ []).toArray⟩ : ByteArray) = t2 at HY HZ
  generalize superB (r : Int) (k : Int) (c : Int) = t0 at HG HX
  generalize (r : Int) = ri at HX ⊢
  generalize (k : Int) = ki at HY ⊢
  generalize (c : Int) = ci at HZ ⊢
  go_enter Tryz.func54, Tryz.ntmps54
  go_wp2_with (fail)
  have b0 : Below w.heap.size w (w.alloc (lyO 0 0 0)) := (Below.refl w.heap.size w).alloc (Nat.le_refl _) _
  refine (HG.out _ b0).mono ?_
  rintro e w1 ⟨rfl, b1⟩
  have B1 := Lib.hid (b0.trans (b1.mono (by simp)))
  have H1 := Lib.hid ((b1.block w.heap.size (by simp)).trans (heap_alloc_new w (lyO 0 0 0)))
  clear b0 b1 HG
  go_wp2_with (fail)
  refine (eye_of t0 w1).mono ?_
  rintro e w2 ⟨rfl, e2, b2⟩
  obtain ⟨g, hgg⟩ : ∃ g, g = w1.heap.size := ⟨_, rfl⟩
  have h1s := (Array.getElem?_eq_some_iff.1 H1.out).1
  have HNE := Lib.hid (show w.heap.size ≠ g ∧ w.heap.size ≤ g by omega)
  rw [← hgg] at e2
  rw [← hgg]
  have E2 := Lib.hid e2
  have B2 := Lib.hid (B1.out.trans (b2.mono B1.out.size))
  have H2 := Lib.hid ((b2.block w.heap.size h1s).trans H1.out)
  clear e2 b2 H1 B1 hgg h1s
  go_wp2_with (fail)
  refine (HX.out w2 g E2.out).mono ?_
  rintro e w3 ⟨rfl, e3, o3⟩
  have E3 := Lib.hid e3
  have B3 := Lib.hid (B2.out.trans (o3.below HNE.out.2 B2.out.size))
  have H3 := Lib.hid ((o3.block w.heap.size (Array.getElem?_eq_some_iff.1 H2.out).1 HNE.out.1).trans H2.out)
  clear e3 o3 E2 B2 H2 HX
  go_wp2_with (fail)
  refine (HY.out w3 g E3.out).mono ?_
  rintro e w4 ⟨rfl, e4, o4⟩
  have E4 := Lib.hid e4
  have B4 := Lib.hid (B3.out.trans (o4.below HNE.out.2 B3.out.size))
  have H4 := Lib.hid ((o4.block w.heap.size (Array.getElem?_eq_some_iff.1 H3.out).1 HNE.out.1).trans H3.out)
  clear e4 o4 E3 B3 H3 HY
  go_wp2_with (fail)
  refine (HZ.out w4 g E4.out).mono ?_
  rintro e w5 ⟨rfl, e5, o5⟩
  have E5 := Lib.hid e5
  have B5 := Lib.hid (B4.out.trans (o5.below HNE.out.2 B4.out.size))
  have H5 := Lib.hid ((o5.block w.heap.size (Array.getElem?_eq_some_iff.1 H4.out).1 HNE.out.1).trans H4.out)
  clear e5 o5 E4 B4 H4 HZ
  go_wp2_with (fail)
  have b6 : Below w5.heap.size w5 (w5.alloc (.cells #[.int .i64 ri, .int .i64 ki, .int .i64 ci] 23)) := (Below.refl _ _).alloc (Nat.le_refl _) _
  refine (eye_end _ g _ _ (E5.out.of_block (b6.block g E5.out.lt))).mono ?_
  rintro e w6 ⟨rfl, rfl⟩
  have H6 := Lib.hid ((b6.block w.heap.size (Array.getElem?_eq_some_iff.1 H5.out).1).trans H5.out)
  have N6 := Lib.hid (heap_alloc_new w5 (.cells #[.int .i64 ri, .int .i64 ki, .int .i64 ci] 23))
  have B6 := Lib.hid (B5.out.trans (b6.mono B5.out.size))
  have HI := Lib.hid (lyI ri ki ci)
  rw [show endOf ⟨#[]⟩ false = 0 from rfl]
  clear b6 E5 B5 H5
  have n0 := ly0 N6.out
  have n1 := ly1 N6.out
  have n2 := ly2 N6.out
  have d0 := ly0 H6.out
  have d1 := ly1 H6.out
  have d2 := ly2 H6.out
  have df := lyFz H6.out
  generalize w5.alloc (.cells #[.int .i64 ri, .int .i64 ki, .int .i64 ci] 23) = w6 at n0 n1 n2 d0 d1 d2 df H6 B6 ⊢
  generalize w5.heap.size = n5 at n0 n1 n2 ⊢
  go_wp2_with (fail)
  refine bodyPost_ret (results_cell_row rfl _ _ _ 23 _ _ _ rfl (set3 H6.out ri ki ci) Tryz.underlying23 rfl HI.out) rfl ?_
  exact ⟨rfl, below_set3 B6.out (Nat.le_refl _) _ _ _⟩
set_option maxRecDepth 100000 in
set_option maxHeartbeats 1600000 in
/-- No superblock: a layout that can't be. -/
theorem store_layoutOf_none (w : World) (Z : Nat)
    (hg : ∀ W, Below w.heap.size w W → Calls Tryz.prog 56 #[.pointer (some ⟨Z, 0, none⟩), .int .i64 0] W fun e w' => e = .returned (.tuple #[.string ⟨#[]⟩, .int .i64 0, .int .i64 5]) ∧ Below W.heap.size W w') :
    Calls Tryz.prog 54 #[.pointer (some ⟨Z, 0, none⟩)] w fun e w' => e = .returned (lyV 0 0 0) ∧ Below w.heap.size w w' := by
  have HG := Lib.hid hg
  have HI := Lib.hid (lyI 0 0 0)
  clear hg
  unfold lyV
  go_enter Tryz.func54, Tryz.ntmps54
  go_wp2_with (fail)
  have b0 : Below w.heap.size w (w.alloc (lyO 0 0 0)) := (Below.refl w.heap.size w).alloc (Nat.le_refl _) _
  refine (HG.out _ b0).mono ?_
  rintro e w1 ⟨rfl, b1⟩
  have B1 := Lib.hid (b0.trans (b1.mono (by simp)))
  have H1 := Lib.hid ((b1.block w.heap.size (by simp)).trans (heap_alloc_new w (lyO 0 0 0)))
  clear b0 b1 HG
  have d0 := ly0 H1.out
  have d1 := ly1 H1.out
  have d2 := ly2 H1.out
  have df := lyFz H1.out
  go_wp2_with (fail)
  refine bodyPost_ret (results_cell_row rfl _ _ _ 23 _ _ _ rfl (set3 H1.out 0 0 0) Tryz.underlying23 rfl HI.out) rfl ?_
  exact ⟨rfl, below_set3 B1.out (Nat.le_refl _) _ _ _⟩
end Go.Proofs.YtnmgkkjnjllpbaaGreatDoor
