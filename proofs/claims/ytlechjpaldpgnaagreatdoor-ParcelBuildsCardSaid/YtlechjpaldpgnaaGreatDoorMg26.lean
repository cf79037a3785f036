/-
  What comes of a base by a patch's bytes, in plain words; bytes that are a model's are those of what they tell. No program's function here. No conditions.
  What layer 21's statements ask first, in plain words: two tiny models, a patch of three deeds, its two chunks. No program here. No conditions.
  Law 21's own tiny: a model of 14 weights. No conditions.
  The library's strings.Builder, which the program writes to, by its contracts at this translation. No conditions of ours but a text's size.
  Package parcel: Missing, Whole, Have; of nil. Condition: the parcel stands in its blocks.
  A struct that is built, and a row that is stored, at a step of a region that draws its order. No program here. No conditions.
-/
import Derived.Test.YtlechjpaldpgnaaGreatDoorMg15
import Derived.Test.YtlechjpaldpgnaaGreatDoorMg21
import Derived.Test.YtlechjpaldpgnaaGreatDoorMg25
import Derived.Test.YtlechjpaldpgnaaGreatDoorMg14
import Derived.Test.YtlechjpaldpgnaaGreatDoorMg13
import Derived.Test.YtlechjpaldpgnaaGreatDoorMg6
import Derived.Test.YtlechjpaldpgnaaGreatDoorMg1
import Derived.OwnWalk
set_option maxRecDepth 100000
namespace Go.Proofs.YtlechjpaldpgnaaGreatDoor
open Go Go.RowKit Sh Pn Pt Br Cf

namespace Pc
/-- What comes of a base by a patch's bytes; the error. -/
def comes (b p : ByteArray) : ByteArray × Int := match parD p with
  | none => (⟨#[]⟩, 5)
  | some L => (⟨(appD b [] L).1.toArray⟩, (appD b [] L).2)
theorem comes_none {b p : ByteArray} (h : parD p = none) : comes b p = (⟨#[]⟩, 5) := by unfold comes; rw [h]
theorem comes_some {b p : ByteArray} {L : List Deed} (h : parD p = some L) : comes b p = (⟨(appD b [] L).1.toArray⟩, (appD b [] L).2) := by unfold comes; rw [h]
/-- Build's error. -/
def builtE (f : Nat → UInt8) (b p : ByteArray) : Int :=
  if (comes b p).2 = 0 then (if okB (comes b p).1 = true then (if same (sumF (comes b p).1.data.toList) f = true then 0 else 6) else 5) else (comes b p).2
theorem built_err {f : Nat → UInt8} {b p : ByteArray} (h : (comes b p).2 ≠ 0) : builtE f b p = (comes b p).2 := if_neg h
theorem built_form {f : Nat → UInt8} {b p : ByteArray} (h : (comes b p).2 = 0) (h2 : okB (comes b p).1 = false) : builtE f b p = 5 := (if_pos h).trans (if_neg (by rw [h2]; decide))
theorem built_sum {f : Nat → UInt8} {b p : ByteArray} (h : (comes b p).2 = 0) (h2 : okB (comes b p).1 = true) : builtE f b p = if same (sumF (comes b p).1.data.toList) f = true then 0 else 6 := (if_pos h).trans (if_pos h2)
theorem comes_size (b p : ByteArray) : (comes b p).1.size ≤ 8192 := by
  unfold comes
  cases parD p with
  | none => exact Nat.zero_le _
  | some L =>
    have := app_size b L [] (Nat.zero_le _)
    show (appD b [] L).1.toArray.size ≤ 8192
    simpa using this
theorem prD_length : ∀ (n : Nat) (r : ByteArray) (bad : Bool) (x : List Deed × ByteArray × Bool), prD n r bad = some x → x.1.length = n
  | 0, r, bad, x, h => by
    rw [prD] at h
    injection h with h
    rw [← h]
    rfl
  | n + 1, r, bad, x, h => by
    rw [prD] at h
    split at h
    · obtain ⟨y, hy, he⟩ := Option.map_eq_some_iff.1 h
      rw [← he, List.length_cons, prD_length n _ _ y hy]
    · cases h
theorem parD_length {s : ByteArray} {L : List Deed} (h : parD s = some L) : L.length = nmOut s 256 := by
  unfold parD endD at h
  obtain ⟨y, hy, he⟩ := Option.bind_eq_some_iff.1 h
  split at he
  · injection he with he
    rw [← he]
    exact prD_length _ _ _ y hy
  · cases he
theorem text_nums {t : ByteArray} (ok : ∀ i, i < 6 → nmOk (rsT lim t i) (lim i) = true) : ∀ i, i ≤ 6 → t.data.toList = numsL (fun j => (vsT lim t j : Int)) i ++ (rsT lim t i).data.toList
  | 0, _ => rfl
  | i + 1, h => by
    rw [numsL_next, List.append_assoc]
    have h1 := text_nums ok i (by omega)
    have h2 := Mf.num_list (ok i (by omega))
    rw [h1]
    congr 1
theorem cfg_nums (t : ByteArray) (i : Nat) (h : i < 6) : nthZ (cfgT lim t) i = (vsT lim t i : Int) := by
  match i, h with
  | 0, _ => rfl
  | 1, _ => rfl
  | 2, _ => rfl
  | 3, _ => rfl
  | 4, _ => rfl
  | 5, _ => rfl
/-- Six numbers of a text are it again. -/
theorem text_shape {t : ByteArray} (h : okT lim t = true) : cfgB (cfgT lim t) = t := by
  obtain ⟨hg, _, hz⟩ := okT_iff.1 h
  have h1 := each_low hg.is
  have e := text_nums (t := t) (fun i hi => low_ok (h1 i hi)) 6 (Nat.le_refl _)
  have hc := numsL_congr _ _ 6 (cfg_nums t)
  clear h h1 hg
  generalize rsT lim t 6 = r at e hz
  have e6 : r.data.toList = [] := List.eq_nil_of_length_eq_zero hz
  rw [e6, List.append_nil] at e
  apply ByteArray.ext
  apply Array.ext'
  show (numsL (nthZ (cfgT lim t)) 6) = t.data.toList
  rw [e]
  exact hc
/-- The model that bytes tell has these bytes. -/
theorem model_bytes {t : ByteArray} (h : okB t = true) : bytesB (shapeT t) (restT t) = t := by
  obtain ⟨h1, h2, _⟩ := okB_iff.1 h
  unfold bytesB shapeT
  rw [text_shape h2]
  unfold headT restT
  rw [ByteArray.extract_append_extract, Nat.min_eq_left (Nat.zero_le _), Nat.max_eq_right h1]
  exact ByteArray.extract_zero_size
end Pc
end Go.Proofs.YtlechjpaldpgnaaGreatDoor
namespace Go.Proofs.YtlechjpaldpgnaaGreatDoor
open Go Go.RowKit Sh Pn Mf Bt Pc Pt Br Cf
namespace Pc
def tyC : Cfg := ⟨2, 1, 1, 1, 1, 2⟩
def tyL (z : UInt8) : List UInt8 := [0, 0, 0, z, 0, 0, 0, 0, 0, 0, 0, 0, 0, 0]
def tyS (z : UInt8) : ByteArray := ⟨(tyL z).toArray⟩
theorem ty_good : goodZ tyC = true := by decide +kernel
theorem ty_tot : totZ tyC = 14 := by decide +kernel
theorem ty_ok (z : UInt8) : Ok tyC (tyS z) := ⟨good_iff.1 ty_good, by rw [ty_tot]; rfl⟩
theorem ty_size (z : UInt8) : (tyS z).size = 14 := rfl
def awL : List Deed := [⟨1, 0, 27, ⟨#[]⟩⟩, ⟨2, 0, 0, ⟨#[2]⟩⟩, ⟨1, 28, 10, ⟨#[]⟩⟩]
def awP : ByteArray := ⟨#[3, 0, 0, 0, 1, 0, 0, 0, 0, 27, 0, 0, 0, 2, 1, 0, 0, 0, 2, 1, 28, 0, 0, 0, 10, 0, 0, 0]⟩
theorem aw_byt : canD awL = true ∧ (⟨(allL awL).toArray⟩ : ByteArray) = awP := by decide +kernel
theorem aw_psize : awP.size = 28 := rfl
theorem aw_cnt : cntN awP.size 20 = 2 := by decide +kernel
def awF : Nat → UInt8 := sumF (bytesB tyC (tyS 2)).data.toList
def awM : Man := ⟨1, 2, (awP.size : Int), ((20 : Nat) : Int), sumsP awP 20 (cntN awP.size 20), awF⟩
theorem aw_made : makM 1 2 20 awP awF = (awM, 0) ∧ countM awM = cntN awP.size 20 :=
  made (b := 1) (v := 2) (c := 20) (p := awP) (f := awF) (by omega) (by omega) (by omega) (by omega) (by omega) (by rw [aw_psize]; omega) (by rw [aw_psize]; omega) (by omega) (by omega) (by rw [aw_cnt]; omega)
theorem aw_sums : awM.sums.length = 2 := by
  show (sumsP awP 20 (cntN awP.size 20)).length = 2
  rw [sumsP_length, aw_cnt]
theorem aw_part (i : Nat) (hi : i < 2) : partM awM i awP = awP.extract (i * 20) (i * 20 + lenN awP.size 20 i) := made_part (by omega) aw_made.2 i (by rw [aw_cnt]; exact hi)
theorem aw_check (i : Nat) (hi : i < 2) : checkM awM i (partM awM i awP) = 0 := by
  rw [aw_part i hi]
  exact made_check (by omega) aw_made.2 i (by rw [aw_cnt]; exact hi)
def awA : ByteArray := ⟨#[3, 0, 0, 0, 1, 0, 0, 0, 0, 27, 0, 0, 0, 2, 1, 0, 0, 0, 2, 1]⟩
def awB : ByteArray := ⟨#[28, 0, 0, 0, 10, 0, 0, 0]⟩
theorem aw_zero : partM awM 0 awP = awA := (aw_part 0 (by omega)).trans (ByteArray.ext (by decide +kernel))
theorem aw_one : partM awM 1 awP = awB := (aw_part 1 (by omega)).trans (ByteArray.ext (by decide +kernel))
def q1 : Nat → ByteArray := putQ noQ 1 awB
def q2 : Nat → ByteArray := putQ q1 0 awA
theorem aw_put1 : putE awM noQ 1 awB = 0 ∧ putS awM noQ 1 awB = q1 := by
  have h := aw_check 1 (by omega)
  rw [show (((1 : Nat) : Int)) = 1 from rfl, aw_one] at h
  have he : putE awM noQ 1 awB = 0 := (if_pos h).trans (if_neg (by decide))
  exact ⟨he, if_pos he⟩
theorem aw_put0 : putE awM q1 0 awA = 0 ∧ putS awM q1 0 awA = q2 := by
  have h := aw_check 0 (by omega)
  rw [show (((0 : Nat) : Int)) = 0 from rfl, aw_zero] at h
  have he : putE awM q1 0 awA = 0 := (if_pos h).trans (if_neg (by decide))
  exact ⟨he, if_pos he⟩
theorem aw_again : putE awM q2 0 awA = 9 := by
  have h := aw_check 0 (by omega)
  rw [show (((0 : Nat) : Int)) = 0 from rfl, aw_zero] at h
  exact (if_pos h).trans (if_pos (by decide))
theorem aw_miss : fstB 2 (hasQ q1) = 0 := by decide +kernel
theorem aw_whole : wholeB q2 2 = true := by decide +kernel
theorem aw_text : textP q2 2 = awP := (if_pos aw_whole).trans (ByteArray.ext (by decide +kernel))
theorem aw_parse : parD awP = some awL := by kernel_rfl
theorem aw_comes : comes (bytesB tyC (tyS 1)) awP = (bytesB tyC (tyS 2), 0) := by
  rw [comes_some aw_parse]
  have h1 : (appD (bytesB tyC (tyS 1)) [] awL).1 = (bytesB tyC (tyS 2)).data.toList := by decide +kernel
  have h2 : (appD (bytesB tyC (tyS 1)) [] awL).2 = 0 := by decide +kernel
  rw [h1, h2]
theorem aw_built : builtE awM.res (bytesB tyC (tyS 1)) awP = 0 := by
  unfold builtE
  rw [aw_comes, if_pos rfl, if_pos (ok_bytes (ty_ok 2))]
  exact if_pos (same_refl _)
end Pc
end Go.Proofs.YtlechjpaldpgnaaGreatDoor
namespace Go.Proofs.YtlechjpaldpgnaaGreatDoor
open Go.ChangeShapes Go.WideShapes Go.ChangeAt Go.RowKit Bt Pc Br Cf

theorem tyCells (z : UInt8) : (madeCells #[.int .u8 0] 14).setIfInBounds 3 (.int .u8 (z.toNat : Int)) = (bcellsB (tyL z)).toArray := by kernel_rfl
set_option maxRecDepth 100000 in
set_option maxHeartbeats 1600000 in
theorem law21_tiny (w : World) (z : UInt8) : Calls Tryz.prog 20 #[.int .u8 (z.toNat : Int)] w fun e w' => ∃ b, e = .returned (.pointer (some ⟨b, 0, none⟩)) ∧ w.heap.size ≤ b ∧ w'.heap[b]? = some (brO tyC (tyS z)) ∧ Below w.heap.size w w' := by
  obtain ⟨i0, hi, hz0, hz1, hz2⟩ := info_parts info_u8B
  have HI := Lib.hid hi
  have HZ0 := Lib.hid hz0
  have HZ1 := Lib.hid hz1
  have HZ2 := Lib.hid hz2
  have HO := Lib.hid (fun W => show Calls Tryz.prog 21 #[.agg #[.int .i64 2, .int .i64 1, .int .i64 1, .int .i64 1, .int .i64 1, .int .i64 2], .string (tyS z)] W fun e w' => ∃ b, e = .returned (.tuple #[.pointer (some ⟨b, 0, none⟩), .int .i64 0]) ∧ W.heap.size ≤ b ∧ w'.heap[b]? = some (brO tyC (tyS z)) ∧ Below W.heap.size W w' from brain_of W tyC (tyS z) (ty_ok z))
  have HC := Lib.hid (tyCells z)
  have HTS := Lib.hid (show tyS z = ⟨(tyL z).toArray⟩ from rfl)
  have HL := Lib.hid (show 14 = (tyL z).length from rfl)
  clear hi hz0 hz1 hz2
  generalize (z.toNat : Int) = y at *
  go_enter Tryz.func20, Tryz.ntmps20
  go_upto_region 2 with (first | (at_make; refine wpList_make_row _ rfl _ _ 92 rfl 5 i0 (.int .u8 0) Tryz.underlying92 HI.out HZ0.out HZ1.out rfl .i64 .i64 14 rfl rfl (by rw [HZ2.out]; decide) (by decide) ?_))
  refine gen_world (fun W => W.heap[w.heap.size]? = some (.cells (madeCells #[.int .u8 0] 14) 5 (0, 0)) ∧ Below w.heap.size w W) ⟨heap_alloc_new w _, (Below.refl _ _).alloc (Nat.le_refl _) _⟩ ?_
  rintro w1 ⟨r1, b1⟩
  have R1 := Lib.hid r1
  have B1 := Lib.hid b1
  have c3 : w1.cell? ⟨w.heap.size, 3, none⟩ = some (.int .u8 0) := by rw [cell_of_row _ _ _ _ _ _ r1]; kernel_rfl
  have f3 := frozen_of_row _ _ 3 _ _ r1
  clear r1 b1
  go_upto_region 3 with (fail)
  refine gen_world (fun W => W.heap[w.heap.size]? = some (.cells (bcellsB (tyL z)).toArray 5 (0, 0)) ∧ Below w.heap.size w W) ⟨(heap_setCell_same _ _ 3 _ _ _ R1.out).trans (by rw [HC.out]), B1.out.setCell (Nat.le_refl _) _⟩ ?_
  rintro w2 ⟨r2, b2⟩
  have B2 := Lib.hid b2
  have hcv := run_textB w2 ⟨w.heap.size, 0, none⟩ 14 14 (tyL z) HL.out (fun j u hj => by
    rw [Addr.add_lit, Nat.zero_add, cell_of_row _ _ _ _ _ _ r2, ← hj, List.getElem?_toArray])
  rw [← HTS.out] at hcv
  clear r2 b2 R1 B1 c3 f3
  go_wp2_with (fail)
  refine (HO.out _).mono ?_
  rintro e w3 ⟨b, rfl, hb, h3, b3⟩
  have H3 := Lib.hid h3
  have HB := Lib.hid (Nat.le_trans B2.out.size hb)
  have B3 := Lib.hid (B2.out.trans (b3.mono B2.out.size))
  clear h3 hb b3
  go_wp2_with (fail)
  refine bodyPost_ret (results_tmp rfl _ _ _) rfl ?_
  exact ⟨b, rfl, HB.out, H3.out, B3.out⟩
end Go.Proofs.YtlechjpaldpgnaaGreatDoor
namespace Go.Proofs.YtlechjpaldpgnaaGreatDoor
open Go.Shelf Go.RowKit

theorem bld_write (B b : Nat) (bs : List Value) (s : ByteArray) (w : World) (h : Lib.IsBuilder 94 5 B b bs w) (hlen : bs.length + s.size ≤ 140737488355328) (hBw : B ≤ w.heap.size) :
    Calls Tryz.prog 42 #[.pointer (some ⟨b, 0, none⟩), .string s] w fun e w' => e = .returned (.tuple #[.int .i64 s.size, .nilIface]) ∧ (Lib.BuilderAt 94 5 B b (.pointer (some ⟨b, 0, none⟩)) (bs ++ Lib.strCells s) w' ∧ Below B w w') :=
  Any.Builder_WriteString { Tryz.lays105 with } Tryz.Builder_Extra_105 B b bs s w h hlen hBw
theorem bld_string (B b : Nat) (l : List UInt8) (w : World) (h : Lib.IsBuilder 94 5 B b (Lib.byteCells l) w) (hBw : B ≤ w.heap.size) :
    Calls Tryz.prog 43 #[.pointer (some ⟨b, 0, none⟩)] w fun e w' => e = .returned (.string ⟨l.toArray⟩) ∧ Below B w w' :=
  Any.Builder_String_any { Tryz.lays105 with } Tryz.Builder_Extra_105 B b l w h hBw
theorem bld_new (w : World) : Lib.IsBuilder 94 5 w.heap.size w.heap.size (Lib.byteCells []) (w.alloc (.cells #[.pointer none, .slice none 0 0] 94)) := Lib.fresh_isBuilder _ _ w
theorem bld_cells (l : List UInt8) (s : ByteArray) : Lib.byteCells l ++ Lib.strCells s = Lib.byteCells (l ++ s.data.toList) := by
  unfold Lib.byteCells Lib.strCells
  rw [List.map_append]
theorem bld_length (l : List UInt8) : (Lib.byteCells l).length = l.length := by unfold Lib.byteCells; rw [List.length_map]
end Go.Proofs.YtlechjpaldpgnaaGreatDoor
namespace Go.Proofs.YtlechjpaldpgnaaGreatDoor
open Go.ChangeShapes Go.WideShapes Go.ChangeAt Go.RowKit Sh Pn Mf Bt Pc

theorem pc_missing_nil (w : World) : Calls Tryz.prog 15 #[.pointer none] w fun e w' => e = .returned (.int .i64 (-1)) ∧ w = w' := by
  go_enter Tryz.func15, Tryz.ntmps15
  go_wp2
  refine bodyPost_ret (results_tmp rfl _ _ _) rfl ?_
  exact ⟨rfl, rfl⟩
theorem pc_whole_nil (w : World) : Calls Tryz.prog 17 #[.pointer none] w fun e w' => e = .returned (.bool false) ∧ w = w' := by
  go_enter Tryz.func17, Tryz.ntmps17
  go_wp2
  refine bodyPost_ret (results_tmp rfl _ _ _) rfl ?_
  exact ⟨rfl, rfl⟩
theorem pc_have_nil (w : World) : Calls Tryz.prog 18 #[.pointer none] w fun e w' => e = .returned (.int .i64 0) ∧ w = w' := by
  go_enter Tryz.func18, Tryz.ntmps18
  go_wp2
  refine bodyPost_ret (results_tmp rfl _ _ _) rfl ?_
  exact ⟨rfl, rfl⟩
theorem pc_put_nil (w : World) (a : Int) (d : ByteArray) : Calls Tryz.prog 12 #[.pointer none, .int .i64 a, .string d] w fun e w' => e = .returned (.int .i64 2) ∧ w = w' := by
  go_enter Tryz.func12, Tryz.ntmps12
  go_wp2
  refine bodyPost_ret (results_tmp rfl _ _ _) rfl ?_
  exact ⟨rfl, rfl⟩
theorem pc_text_nil (w : World) : Calls Tryz.prog 13 #[.pointer none] w fun e w' => e = .returned (.tuple #[.string ⟨#[]⟩, .int .i64 2]) ∧ w = w' := by
  go_enter Tryz.func13, Tryz.ntmps13
  go_wp2
  refine bodyPost_ret (results_tmp2 rfl _ _ _) rfl ?_
  exact ⟨rfl, rfl⟩
theorem pc_mbuild_nil (w : World) (v : Value) : Calls Tryz.prog 19 #[.pointer none, v] w fun e w' => e = .returned (.tuple #[.pointer none, .int .i64 2]) ∧ w = w' := by
  have HT := Lib.hid (fun W => pc_text_nil W)
  go_enter Tryz.func19, Tryz.ntmps19
  go_wp2_with (fail)
  refine (HT.out _).mono ?_
  rintro e w1 ⟨rfl, rfl⟩
  go_wp2_with (fail)
  refine bodyPost_ret (results_tmp2 rfl _ _ _) rfl ?_
  exact ⟨rfl, rfl⟩
section
variable {B : Nat} {w : World} {p : Nat} {m : Man} {A : Option Addr} {k sb ab : Nat} {q : Nat → ByteArray} (h : Pcl B w p m A k sb ab q)
include h
theorem pc_missing : Calls Tryz.prog 15 #[.pointer (some ⟨p, 0, none⟩)] w fun e w' => e = .returned (.int .i64 (fstB m.sums.length (hasQ q))) ∧ Below w.heap.size w w' := by
  have HF := Lib.hid (bits_first w sb m.sums.length (hasQ q) h.set (by have := h.n2; omega))
  have c37 := h.c37
  clear h
  go_enter Tryz.func15, Tryz.ntmps15
  go_wp2_with (fail)
  refine HF.out.mono ?_
  rintro e w1 ⟨rfl, j, rfl⟩
  go_wp2_with (fail)
  refine bodyPost_ret (results_tmp rfl _ _ _) rfl ?_
  exact ⟨rfl, below_drewN (Below.refl _ _) j⟩
theorem pc_have : Calls Tryz.prog 18 #[.pointer (some ⟨p, 0, none⟩)] w fun e w' => e = .returned (.int .i64 (cnt (hasQ q) m.sums.length : Int)) ∧ Below w.heap.size w w' := by
  have HF := Lib.hid (bits_count w sb m.sums.length (hasQ q) h.set (by have := h.n2; omega))
  have c37 := h.c37
  clear h
  go_enter Tryz.func18, Tryz.ntmps18
  go_wp2_with (fail)
  refine HF.out.mono ?_
  rintro e w1 ⟨rfl, b1⟩
  go_wp2_with (fail)
  refine bodyPost_ret (results_tmp rfl _ _ _) rfl ?_
  exact ⟨rfl, b1⟩
theorem pc_whole : Calls Tryz.prog 17 #[.pointer (some ⟨p, 0, none⟩)] w fun e w' => e = .returned (.bool (wholeB q m.sums.length)) ∧ Below w.heap.size w w' := by
  have HM := Lib.hid (pc_missing h)
  have HW := Lib.hid (show wholeB q m.sums.length = decide (fstB m.sums.length (hasQ q) < 0) from rfl)
  clear h
  generalize wholeB q m.sums.length = v at *
  generalize fstB m.sums.length (hasQ q) = z at *
  have tz := HW.out.symm
  go_enter Tryz.func17, Tryz.ntmps17
  go_wp2_with (fail)
  refine HM.out.mono ?_
  rintro e w1 ⟨rfl, b1⟩
  go_wp2_with (fail)
  refine bodyPost_ret (results_tmp rfl _ _ _) rfl ?_
  exact ⟨rfl, b1⟩
end
end Go.Proofs.YtlechjpaldpgnaaGreatDoor
namespace Go.Proofs.YtlechjpaldpgnaaGreatDoor
open Go Go.RowKit

theorem step_struct {P : Program} {w : World} {ops : Array Oper} {o : Oper} {a : Act} {K : Act → World → Prop} {Q : Exit → Act → World → Prop} {E : Prop} (hgd : o.guard = none) (t : TypeId) (parts : Array (Nat × Operand)) (ho : o.op = .build t parts)
    (cells : Array Value) (hf : P.built t (parts.map fun (i, x) => (i, a.eval x)).toList = some cells) (h : K (a.put o.dst (.agg cells)) w) :
    if Region.wanted o (yielded ops a.tmps) = true then Oper.wp P o a w K Q else E := by
  have hw : Region.wanted o (yielded ops a.tmps) = true := by simp [Region.wanted, hgd]
  rw [if_pos hw]
  exact wp_build t parts ho (by rw [hf]; rfl) (by rw [hf]; exact h)
theorem step_store_row {P : Program} {w : World} {ops : Array Oper} {o : Oper} {a : Act} {K : Act → World → Prop} {Q : Exit → Act → World → Prop} {E : Prop} (hgd : o.guard = none) (ty : TypeId) (x y : Operand) (ho : o.op = .store ty x y)
    (g : Nat) (cells : Array Value) (hx : a.eval x = .pointer (some ⟨g, 0, none⟩)) (hy : a.eval y = .agg cells)
    (t : TypeId) (old : Array Value) (hg : w.heap[g]? = some (.cells old t (0, 0))) (hi : (P.info? ty).map (·.size) = some cells.size)
    (hold : old.size = cells.size) (h1 : cells.all (·.oneCell') = true)
    (h : K (a.put o.dst undef) (w.setRow g cells)) :
    if Region.wanted o (yielded ops a.tmps) = true then Oper.wp P o a w K Q else E := by
  have hw : Region.wanted o (yielded ops a.tmps) = true := by simp [Region.wanted, hgd]
  rw [if_pos hw]
  exact wp_store_row ty x y ho g cells hx hy t old hg hi hold h1 h
end Go.Proofs.YtlechjpaldpgnaaGreatDoor
