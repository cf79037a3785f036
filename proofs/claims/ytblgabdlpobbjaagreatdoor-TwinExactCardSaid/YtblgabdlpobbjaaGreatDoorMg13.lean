/-
  Out of the card's condition: both tables lie as the program's text lays them. And the door's own heap meets it.
  The document's own sums: a block goes into the eight words. Condition: the text has 64 bytes.
-/
import Derived.Test.YtblgabdlpobbjaaGreatDoorMg4
import Derived.Test.YtblgabdlpobbjaaGreatDoorRows
import Derived.ProofKit
import Derived.LaidMore
import Derived.OpenShut
import Derived.Stop.Joined
import Derived.Lib.LaidTab
set_option maxRecDepth 100000
namespace Go.Proofs.YtblgabdlpobbjaaGreatDoor
open Go.ChangeShapes Go.WideShapes Go.ChangeAt Go.RowKit Sh

def shaLaid : List (String × DataW Unit) := [("coadjutor/sha.firstWords", Rows.laid_coadjutor_sha_firstWords), ("coadjutor/sha.constants", Rows.laid_coadjutor_sha_constants)]
theorem gFirst : Tryz.prog.globalNamed "coadjutor/sha.firstWords" = some 0 := by kernel_rfl
theorem gConst : Tryz.prog.globalNamed "coadjutor/sha.constants" = some 1 := by kernel_rfl
theorem tFirst : (Tryz.prog.globals[0]?).map (·.type) = some 127 := by kernel_rfl
theorem tConst : (Tryz.prog.globals[1]?).map (·.type) = some 149 := by kernel_rfl

theorem sha_met (os : Os) (args : Array Value) : laidMetH Tryz.prog shaLaid ((World.doorLaid Tryz.prog 19 os).forCall (fun _ _ => 0) ⟨#[], args, []⟩).memory :=
  laidMetH_of_parts3 (fuel := 8) (laidMet_of_run' 8 (by kernel_rfl) (by kernel_rfl)) (by kernel_rfl) (by kernel_rfl)

theorem tabs_of {W : World} (h : laidMetH Tryz.prog shaLaid W) : Tabs W := by
  rw [MakeChecks.laidMetH_plain _ _ _ (by kernel_rfl)] at h
  obtain ⟨ps, ⟨g0, t0, cs0, f0, p0, q0, hg0, ht0, hv0, hd0, ⟨g1, t1, cs1, f1, p1, q1, hg1, ht1, hv1, hd1, _, _⟩, _⟩, _, _⟩ := h
  obtain rfl := Option.some.inj (gFirst.symm.trans hg0)
  obtain rfl := Option.some.inj (gConst.symm.trans hg1)
  obtain rfl := Option.some.inj (tFirst.symm.trans ht0)
  obtain rfl := Option.some.inj (tConst.symm.trans ht1)
  have e0 : cs0.toList = ((List.range 8).map fun i => tn (iv.at i)).map fun z => Value.int .u32 z :=
    Lib.cells_of_tab (zs := (List.range 8).map fun i => tn (iv.at i)) Tryz.underlying127 Tryz.underlying126 (by kernel_rfl) (by kernel_rfl) (hd0.trans (congrArg (fun d => some (d, p0)) (by kernel_rfl)))
  have e1 : cs1.toList = ((List.range 64).map fun i => tn (kAt i)).map fun z => Value.int .u32 z :=
    Lib.cells_of_tab (zs := (List.range 64).map fun i => tn (kAt i)) Tryz.underlying149 Tryz.underlying126 (by kernel_rfl) (by kernel_rfl) (hd1.trans (congrArg (fun d => some (d, p1)) (by kernel_rfl)))
  refine ⟨?_, fun i hi => ?_⟩
  · have h := hv0
    simp only [World.var?, hg0, Option.bind_some] at h
    split at h
    · rename_i cs t fr hb
      injection h with h
      subst h
      refine ⟨t, fr, ?_⟩
      rw [hb]
      have : cs = vals 8 fun i => .int .u32 (tn (iv.at i)) := by
        apply Array.ext'
        rw [e0]
        simp [vals, List.map_map, Function.comp_def]
      rw [this]
    · cases h
  · rw [World.var?_cell hg1 hv1 i, ← Array.getElem?_toList, e1]
    simp [hi]
end Go.Proofs.YtblgabdlpobbjaaGreatDoor
namespace Go.Proofs.YtblgabdlpobbjaaGreatDoor
open Go.ChangeShapes Go.WideShapes Go.ChangeAt Go.RowKit Sh

def kF : Nat → Value := fun i => .int .u64 (t6 (zx (kAt i)))
theorem kF_one : (vals 64 kF).all (·.oneCell') = true := vals_one fun _ => rfl
theorem hi64 : ∀ f, (Tryz.prog.info? 117).map (·.size) = some (vals 64 f).size := fun f => info_vals f (by kernel_rfl)
set_option maxRecDepth 100000 in
set_option maxHeartbeats 1600000 in
theorem consts_any (w : World) : Calls Tryz.prog 76 #[] w fun e w' => e = .returned (.agg (vals 64 kF)) ∧ Below w.heap.size w w' := by
  have hb : ∀ o, (w.alloc o).heap[w.heap.size]? = some o := fun o => heap_alloc_new w o
  have HB := Lib.hid hb
  clear hb
  have HK := Lib.hid kF_one
  go_enter Tryz.func76, Tryz.ntmps76
  go_wp2_with (first
    | (refine wpList_build rfl 117 _ rfl (by kernel_rfl) ?_; generalize hq : Option.getD _ _ = q; obtain rfl : q = vals 64 kF := hq.symm.trans (by kernel_rfl); clear hq)
    | (with_reducible refine wpList_store_row rfl 117 _ _ rfl _ _ rfl rfl 117 _ (HB.out _) (hi64 kF) ?_ HK.out ?_))
  · rw [vals_size]; rfl
  refine bodyPost_ret (results_cell_row rfl _ _ _ 117 _ _ _ rfl (setRow_heap _ _ _ _ _ _ (HB.out _)) Tryz.underlying117 rfl (hi64 kF)) rfl ?_
  exact ⟨rfl, below_setRow' ((Below.refl _ _).alloc (Nat.le_refl _) _) (Nat.le_refl _) _⟩

/-- Eight words of 64 bits each. -/
def st6 (s : St) : Nat → Value := fun i => .int .u64 (t6 (zx (s.at i)))
theorem hi8 : ∀ f, (Tryz.prog.info? 88).map (·.size) = some (vals 8 f).size := fun f => info_vals f (by kernel_rfl)
/-- A word on its way: the first j of its bytes are in. -/
def part6 (b : Nat → UInt8) (i : Nat) : Nat → BitVec 64
  | 0 => 0
  | j + 1 => part6 b i j <<< 8 ||| zx (b32 (b (4 * i + j)))
theorem part6_all (b : Nat → UInt8) (i : Nat) : part6 b i 4 = zx (word b i) := by
  unfold word be
  simp only [part6]
  generalize b (4 * i) = b0
  generalize b (4 * i + 1) = b1
  generalize b (4 * i + 2) = b2
  generalize b (4 * i + 3) = b3
  unfold zx b32
  apply BitVec.eq_of_getLsbD_eq
  intro k hk
  simp only [BitVec.getLsbD_or, BitVec.getLsbD_shiftLeft, BitVec.getLsbD_setWidth, Nat.sub_sub, Nat.reduceAdd]
  rcases (show k < 8 ∨ (8 ≤ k ∧ k < 16) ∨ (16 ≤ k ∧ k < 24) ∨ (24 ≤ k ∧ k < 32) ∨ 32 ≤ k by omega) with h | h | h | h | h
  · simp [decide_eq_true (show k < 64 by omega), decide_eq_true (show k < 8 by omega), decide_eq_true (show k - 8 < 64 by omega), decide_eq_true (show k - 8 < 8 by omega), decide_eq_true (show k - 16 < 64 by omega), decide_eq_true (show k - 16 < 8 by omega), decide_eq_true (show k - 24 < 64 by omega), decide_eq_true (show k - 24 < 8 by omega), decide_eq_true (show k - 24 < 32 by omega), decide_eq_true (show k - 16 < 32 by omega), decide_eq_true (show k - 8 < 32 by omega), decide_eq_true (show k < 32 by omega), decide_eq_true (show k < 24 by omega), decide_eq_true (show k < 16 by omega)]
  · simp [decide_eq_true (show k < 64 by omega), decide_eq_false (show ¬ k < 8 by omega), decide_eq_true (show k - 8 < 64 by omega), decide_eq_true (show k - 8 < 8 by omega), decide_eq_true (show k - 16 < 64 by omega), decide_eq_true (show k - 16 < 8 by omega), decide_eq_true (show k - 24 < 64 by omega), decide_eq_true (show k - 24 < 8 by omega), decide_eq_true (show k - 24 < 32 by omega), decide_eq_true (show k - 16 < 32 by omega), decide_eq_true (show k - 8 < 32 by omega), decide_eq_true (show k < 32 by omega), decide_eq_true (show k < 24 by omega), decide_eq_true (show k < 16 by omega), BitVec.getLsbD_of_ge b3.toBitVec (k) (by omega)]
  · simp [decide_eq_true (show k < 64 by omega), decide_eq_false (show ¬ k < 8 by omega), decide_eq_true (show k - 8 < 64 by omega), decide_eq_false (show ¬ k - 8 < 8 by omega), decide_eq_true (show k - 16 < 64 by omega), decide_eq_true (show k - 16 < 8 by omega), decide_eq_true (show k - 24 < 64 by omega), decide_eq_true (show k - 24 < 8 by omega), decide_eq_true (show k - 24 < 32 by omega), decide_eq_true (show k - 16 < 32 by omega), decide_eq_true (show k - 8 < 32 by omega), decide_eq_true (show k < 32 by omega), decide_eq_true (show k < 24 by omega), decide_eq_false (show ¬ k < 16 by omega), BitVec.getLsbD_of_ge b2.toBitVec (k - 8) (by omega), BitVec.getLsbD_of_ge b3.toBitVec (k) (by omega)]
  · simp [decide_eq_true (show k < 64 by omega), decide_eq_false (show ¬ k < 8 by omega), decide_eq_true (show k - 8 < 64 by omega), decide_eq_false (show ¬ k - 8 < 8 by omega), decide_eq_true (show k - 16 < 64 by omega), decide_eq_false (show ¬ k - 16 < 8 by omega), decide_eq_true (show k - 24 < 64 by omega), decide_eq_true (show k - 24 < 8 by omega), decide_eq_true (show k - 24 < 32 by omega), decide_eq_true (show k - 16 < 32 by omega), decide_eq_true (show k - 8 < 32 by omega), decide_eq_true (show k < 32 by omega), decide_eq_false (show ¬ k < 24 by omega), decide_eq_false (show ¬ k < 16 by omega), BitVec.getLsbD_of_ge b1.toBitVec (k - 16) (by omega), BitVec.getLsbD_of_ge b2.toBitVec (k - 8) (by omega), BitVec.getLsbD_of_ge b3.toBitVec (k) (by omega)]
  · simp [decide_eq_true (show k < 64 by omega), decide_eq_false (show ¬ k < 8 by omega), decide_eq_true (show k - 8 < 64 by omega), decide_eq_false (show ¬ k - 8 < 8 by omega), decide_eq_true (show k - 16 < 64 by omega), decide_eq_false (show ¬ k - 16 < 8 by omega), decide_eq_true (show k - 24 < 64 by omega), decide_eq_false (show ¬ k - 24 < 8 by omega), decide_eq_false (show ¬ k < 32 by omega), decide_eq_false (show ¬ k < 24 by omega), decide_eq_false (show ¬ k < 16 by omega), BitVec.getLsbD_of_ge b0.toBitVec (k - 24) (by omega), BitVec.getLsbD_of_ge b1.toBitVec (k - 16) (by omega), BitVec.getLsbD_of_ge b2.toBitVec (k - 8) (by omega), BitVec.getLsbD_of_ge b3.toBitVec (k) (by omega)]

/-- What holds while a block goes in: the words, the constants, and the row of words: the first n are made, the next one is v. -/
structure Bl (w wr : World) (g1 g2 : Nat) (s : St) (b : Nat → UInt8) (n : Nat) (v : BitVec 64) : Prop where
  below : Below w.heap.size w wr
  hrow : wr.rowIs w.heap.size 88 8 (st6 s)
  res : wr.rowIs (w.heap.size + 1) 88 8 (fun _ => .int .u64 0)
  krow : wr.rowIs g1 117 64 kF
  wrow : wr.rowIs g2 117 64 (fun j => .int .u64 (if j < n then t6 (zx (wAt (word b) j)) else if j = n then t6 v else 0))
  apart : w.heap.size + 1 < g1 ∧ g1 < g2
namespace Bl
variable {w wr : World} {g1 g2 : Nat} {s : St} {b : Nat → UInt8} {n : Nat} {v : BitVec 64}
theorem drewN (h : Bl w wr g1 g2 s b n v) (m : Nat) : Bl w (wr.drewN m) g1 g2 s b n v := ⟨below_drewN h.below m, h.hrow, h.res, h.krow, h.wrow, h.apart⟩
theorem drew (h : Bl w wr g1 g2 s b n v) : Bl w wr.drew g1 g2 s b n v := ⟨below_drewN h.below 1, h.hrow, h.res, h.krow, h.wrow, h.apart⟩
theorem get (h : Bl w wr g1 g2 s b n v) (j : Nat) (hj : j < n) (h6 : j < 64) : wr.cell? ⟨g2, j, none⟩ = some (.int .u64 (t6 (zx (wAt (word b) j)))) := by
  have := h.wrow.cell h6
  rwa [if_pos hj] at this
theorem cur (h : Bl w wr g1 g2 s b n v) (h6 : n < 64) : wr.cell? ⟨g2, n, none⟩ = some (.int .u64 (t6 v)) := by
  have := h.wrow.cell h6
  rwa [if_neg (by omega), if_pos rfl] at this
/-- The next word gets another value. -/
theorem put (h : Bl w wr g1 g2 s b n v) {x : Int} (v' : BitVec 64) (hx : x = t6 v') : Bl w (wr.setCell ⟨g2, n, none⟩ (.int .u64 x)) g1 g2 s b n v' := by
  have ha := h.apart
  refine ⟨h.below.setCell (by show w.heap.size ≤ g2; omega) _, h.hrow.setOther (by show w.heap.size ≠ g2; omega) _, h.res.setOther (by show w.heap.size + 1 ≠ g2; omega) _, h.krow.setOther (by show g1 ≠ g2; omega) _, (h.wrow.set n _).congr fun j _ => ?_, ha⟩
  by_cases e : j = n
  · subst e; rw [if_pos rfl, hx, if_neg (by omega), if_pos rfl]
  · rw [if_neg e, if_neg e, if_neg e]
/-- The next word is made. -/
theorem next (h : Bl w wr g1 g2 s b n v) (hv : v = zx (wAt (word b) n)) : Bl w wr g1 g2 s b (n + 1) 0 := by
  refine ⟨h.below, h.hrow, h.res, h.krow, h.wrow.congr fun j _ => ?_, h.apart⟩
  by_cases hlt : j < n
  · rw [if_pos hlt, if_pos (by omega)]
  · rw [if_neg hlt]
    by_cases e : j = n
    · subst e; rw [if_pos rfl, if_pos (by omega), hv]
    · rw [if_neg e, if_neg (by omega)]
      split
      · rfl
      · rfl
end Bl
theorem six_val (v : BitVec 64) (x : UInt8) : bits .or .u64 (IntKind.u64.wrap (t6 v * 256)) (IntKind.u64.wrap (x.toNat : Int)) = t6 (v <<< 8 ||| zx (b32 x)) := by
  have h8 := shl_u64 v 8
  rw [show (2 : Int) ^ 8 = 256 from rfl] at h8
  have hb : IntKind.u64.wrap (x.toNat : Int) = t6 (zx (b32 x)) := by
    rw [tn_zx, ← b32_val, wrap_u64']
    have := x.toNat_lt
    omega
  rw [h8, hb, or_u64]
end Go.Proofs.YtblgabdlpobbjaaGreatDoor
