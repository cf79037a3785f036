/-
  The document's own sums: a block goes into the eight words. Condition: the text has 64 bytes.
  The document's own sums: a block goes into the eight words: the walk. Condition: the text has 64 bytes.
  A row of bytes of one's own, to which one byte more is appended: of whatever origin, '[]byte(s)' too. No program's function here.
-/
import Derived.Test.YtnmgkkjnjllpbaaGreatDoorMg5
import Derived.Lib.ConvBytes
import Derived.Laws.AppendOwn
set_option maxRecDepth 100000
namespace Go.Proofs.YtnmgkkjnjllpbaaGreatDoor
open Go.ChangeShapes Go.WideShapes Go.ChangeAt Go.RowKit Sh

def kF : Nat → Value := fun i => .int .u64 (t6 (zx (kAt i)))
theorem kF_one : (vals 64 kF).all (·.oneCell') = true := vals_one fun _ => rfl
theorem hi64 : ∀ f, (Tryz.prog.info? 153).map (·.size) = some (vals 64 f).size := fun f => info_vals f (by kernel_rfl)
set_option maxRecDepth 100000 in
set_option maxHeartbeats 1600000 in
theorem consts_any (w : World) : Calls Tryz.prog 95 #[] w fun e w' => e = .returned (.agg (vals 64 kF)) ∧ Below w.heap.size w w' := by
  have hb : ∀ o, (w.alloc o).heap[w.heap.size]? = some o := fun o => heap_alloc_new w o
  have HB := Lib.hid hb
  clear hb
  have HK := Lib.hid kF_one
  go_enter Tryz.func95, Tryz.ntmps95
  go_wp2_with (first
    | (refine wpList_build rfl 153 _ rfl (by kernel_rfl) ?_; generalize hq : Option.getD _ _ = q; obtain rfl : q = vals 64 kF := hq.symm.trans (by kernel_rfl); clear hq)
    | (with_reducible refine wpList_store_row rfl 153 _ _ rfl _ _ rfl rfl 153 _ (HB.out _) (hi64 kF) ?_ HK.out ?_))
  · rw [vals_size]; rfl
  refine bodyPost_ret (results_cell_row rfl _ _ _ 153 _ _ _ rfl (setRow_heap _ _ _ _ _ _ (HB.out _)) Tryz.underlying153 rfl (hi64 kF)) rfl ?_
  exact ⟨rfl, below_setRow' ((Below.refl _ _).alloc (Nat.le_refl _) _) (Nat.le_refl _) _⟩

/-- Eight words of 64 bits each. -/
def st6 (s : St) : Nat → Value := fun i => .int .u64 (t6 (zx (s.at i)))
theorem hi8 : ∀ f, (Tryz.prog.info? 123).map (·.size) = some (vals 8 f).size := fun f => info_vals f (by kernel_rfl)
/-- A word on its way: the first j of its bytes are in. -/
def part6 (b : Nat → UInt8) (i : Nat) : Nat → BitVec 64
  | 0 => 0
  | j + 1 => part6 b i j <<< 8 ||| zx (b32 (b (4 * i + j)))
theorem part6_all (b : Nat → UInt8) (i : Nat) : part6 b i 4 = zx (word b i) := by
  unfold word be
  simp only [part6]
  generalize b (4 * i) = b0
  generalize b (4 * i + 1) = b1
  generalize b (4 * i + 2) = b2
  generalize b (4 * i + 3) = b3
  unfold zx b32
  apply BitVec.eq_of_getLsbD_eq
  intro k hk
  simp only [BitVec.getLsbD_or, BitVec.getLsbD_shiftLeft, BitVec.getLsbD_setWidth, Nat.sub_sub, Nat.reduceAdd]
  rcases (show k < 8 ∨ (8 ≤ k ∧ k < 16) ∨ (16 ≤ k ∧ k < 24) ∨ (24 ≤ k ∧ k < 32) ∨ 32 ≤ k by omega) with h | h | h | h | h
  · simp [decide_eq_true (show k < 64 by omega), decide_eq_true (show k < 8 by omega), decide_eq_true (show k - 8 < 64 by omega), decide_eq_true (show k - 8 < 8 by omega), decide_eq_true (show k - 16 < 64 by omega), decide_eq_true (show k - 16 < 8 by omega), decide_eq_true (show k - 24 < 64 by omega), decide_eq_true (show k - 24 < 8 by omega), decide_eq_true (show k - 24 < 32 by omega), decide_eq_true (show k - 16 < 32 by omega), decide_eq_true (show k - 8 < 32 by omega), decide_eq_true (show k < 32 by omega), decide_eq_true (show k < 24 by omega), decide_eq_true (show k < 16 by omega)]
  · simp [decide_eq_true (show k < 64 by omega), decide_eq_false (show ¬ k < 8 by omega), decide_eq_true (show k - 8 < 64 by omega), decide_eq_true (show k - 8 < 8 by omega), decide_eq_true (show k - 16 < 64 by omega), decide_eq_true (show k - 16 < 8 by omega), decide_eq_true (show k - 24 < 64 by omega), decide_eq_true (show k - 24 < 8 by omega), decide_eq_true (show k - 24 < 32 by omega), decide_eq_true (show k - 16 < 32 by omega), decide_eq_true (show k - 8 < 32 by omega), decide_eq_true (show k < 32 by omega), decide_eq_true (show k < 24 by omega), decide_eq_true (show k < 16 by omega), BitVec.getLsbD_of_ge b3.toBitVec (k) (by omega)]
  · simp [decide_eq_true (show k < 64 by omega), decide_eq_false (show ¬ k < 8 by omega), decide_eq_true (show k - 8 < 64 by omega), decide_eq_false (show ¬ k - 8 < 8 by omega), decide_eq_true (show k - 16 < 64 by omega), decide_eq_true (show k - 16 < 8 by omega), decide_eq_true (show k - 24 < 64 by omega), decide_eq_true (show k - 24 < 8 by omega), decide_eq_true (show k - 24 < 32 by omega), decide_eq_true (show k - 16 < 32 by omega), decide_eq_true (show k - 8 < 32 by omega), decide_eq_true (show k < 32 by omega), decide_eq_true (show k < 24 by omega), decide_eq_false (show ¬ k < 16 by omega), BitVec.getLsbD_of_ge b2.toBitVec (k - 8) (by omega), BitVec.getLsbD_of_ge b3.toBitVec (k) (by omega)]
  · simp [decide_eq_true (show k < 64 by omega), decide_eq_false (show ¬ k < 8 by omega), decide_eq_true (show k - 8 < 64 by omega), decide_eq_false (show ¬ k - 8 < 8 by omega), decide_eq_true (show k - 16 < 64 by omega), decide_eq_false (show ¬ k - 16 < 8 by omega), decide_eq_true (show k - 24 < 64 by omega), decide_eq_true (show k - 24 < 8 by omega), decide_eq_true (show k - 24 < 32 by omega), decide_eq_true (show k - 16 < 32 by omega), decide_eq_true (show k - 8 < 32 by omega), decide_eq_true (show k < 32 by omega), decide_eq_false (show ¬ k < 24 by omega), decide_eq_false (show ¬ k < 16 by omega), BitVec.getLsbD_of_ge b1.toBitVec (k - 16) (by omega), BitVec.getLsbD_of_ge b2.toBitVec (k - 8) (by omega), BitVec.getLsbD_of_ge b3.toBitVec (k) (by omega)]
  · simp [decide_eq_true (show k < 64 by omega), decide_eq_false (show ¬ k < 8 by omega), decide_eq_true (show k - 8 < 64 by omega), decide_eq_false (show ¬ k - 8 < 8 by omega), decide_eq_true (show k - 16 < 64 by omega), decide_eq_false (show ¬ k - 16 < 8 by omega), decide_eq_true (show k - 24 < 64 by omega), decide_eq_false (show ¬ k - 24 < 8 by omega), decide_eq_false (show ¬ k < 32 by omega), decide_eq_false (show ¬ k < 24 by omega), decide_eq_false (show ¬ k < 16 by omega), BitVec.getLsbD_of_ge b0.toBitVec (k - 24) (by omega), BitVec.getLsbD_of_ge b1.toBitVec (k - 16) (by omega), BitVec.getLsbD_of_ge b2.toBitVec (k - 8) (by omega), BitVec.getLsbD_of_ge b3.toBitVec (k) (by omega)]

/-- What holds while a block goes in: the words, the constants, and the row of words: the first n are made, the next one is v. -/
structure Bl (w wr : World) (g1 g2 : Nat) (s : St) (b : Nat → UInt8) (n : Nat) (v : BitVec 64) : Prop where
  below : Below w.heap.size w wr
  hrow : wr.rowIs w.heap.size 123 8 (st6 s)
  res : wr.rowIs (w.heap.size + 1) 123 8 (fun _ => .int .u64 0)
  krow : wr.rowIs g1 153 64 kF
  wrow : wr.rowIs g2 153 64 (fun j => .int .u64 (if j < n then t6 (zx (wAt (word b) j)) else if j = n then t6 v else 0))
  apart : w.heap.size + 1 < g1 ∧ g1 < g2
namespace Bl
variable {w wr : World} {g1 g2 : Nat} {s : St} {b : Nat → UInt8} {n : Nat} {v : BitVec 64}
theorem drewN (h : Bl w wr g1 g2 s b n v) (m : Nat) : Bl w (wr.drewN m) g1 g2 s b n v := ⟨below_drewN h.below m, h.hrow, h.res, h.krow, h.wrow, h.apart⟩
theorem drew (h : Bl w wr g1 g2 s b n v) : Bl w wr.drew g1 g2 s b n v := ⟨below_drewN h.below 1, h.hrow, h.res, h.krow, h.wrow, h.apart⟩
theorem get (h : Bl w wr g1 g2 s b n v) (j : Nat) (hj : j < n) (h6 : j < 64) : wr.cell? ⟨g2, j, none⟩ = some (.int .u64 (t6 (zx (wAt (word b) j)))) := by
  have := h.wrow.cell h6
  rwa [if_pos hj] at this
theorem cur (h : Bl w wr g1 g2 s b n v) (h6 : n < 64) : wr.cell? ⟨g2, n, none⟩ = some (.int .u64 (t6 v)) := by
  have := h.wrow.cell h6
  rwa [if_neg (by omega), if_pos rfl] at this
/-- The next word gets another value. -/
theorem put (h : Bl w wr g1 g2 s b n v) {x : Int} (v' : BitVec 64) (hx : x = t6 v') : Bl w (wr.setCell ⟨g2, n, none⟩ (.int .u64 x)) g1 g2 s b n v' := by
  have ha := h.apart
  refine ⟨h.below.setCell (by show w.heap.size ≤ g2; omega) _, h.hrow.setOther (by show w.heap.size ≠ g2; omega) _, h.res.setOther (by show w.heap.size + 1 ≠ g2; omega) _, h.krow.setOther (by show g1 ≠ g2; omega) _, (h.wrow.set n _).congr fun j _ => ?_, ha⟩
  by_cases e : j = n
  · subst e; rw [if_pos rfl, hx, if_neg (by omega), if_pos rfl]
  · rw [if_neg e, if_neg e, if_neg e]
/-- The next word is made. -/
theorem next (h : Bl w wr g1 g2 s b n v) (hv : v = zx (wAt (word b) n)) : Bl w wr g1 g2 s b (n + 1) 0 := by
  refine ⟨h.below, h.hrow, h.res, h.krow, h.wrow.congr fun j _ => ?_, h.apart⟩
  by_cases hlt : j < n
  · rw [if_pos hlt, if_pos (by omega)]
  · rw [if_neg hlt]
    by_cases e : j = n
    · subst e; rw [if_pos rfl, if_pos (by omega), hv]
    · rw [if_neg e, if_neg (by omega)]
      split
      · rfl
      · rfl
end Bl
theorem six_val (v : BitVec 64) (x : UInt8) : bits .or .u64 (IntKind.u64.wrap (t6 v * 256)) (IntKind.u64.wrap (x.toNat : Int)) = t6 (v <<< 8 ||| zx (b32 x)) := by
  have h8 := shl_u64 v 8
  rw [show (2 : Int) ^ 8 = 256 from rfl] at h8
  have hb : IntKind.u64.wrap (x.toNat : Int) = t6 (zx (b32 x)) := by
    rw [tn_zx, ← b32_val, wrap_u64']
    have := x.toNat_lt
    omega
  rw [h8, hb, or_u64]
end Go.Proofs.YtnmgkkjnjllpbaaGreatDoor
namespace Go.Proofs.YtnmgkkjnjllpbaaGreatDoor
open Go.ChangeShapes Go.WideShapes Go.ChangeAt Go.RowKit Sh

theorem index_str (q : ByteArray) (k : Nat) (h : k < q.size) (n : Int) (hn : n = (k : Int)) (w : World) : (Instr.index 9 (.string q) (.int .i64 n)).run Tryz.prog w = .ok (.int .u8 (((byteAt q.data.toList k)).toNat : Int)) w := by
  subst hn
  have hu := Tryz.underlying9
  have hb : q[k]? = some (byteAt q.data.toList k) := by
    unfold byteAt
    rw [getElem?_pos q k h, List.getD_eq_getElem?_getD, List.getElem?_eq_getElem (show k < q.data.toList.length from h)]
    rfl
  simp [Instr.index, run_underlying hu, go_sem]
  rw [hb]
  rfl
theorem old_row {w : World} {t : TypeId} {c : Array Value} : (w.alloc (.cells c t)).heap[w.heap.size]? = some (.cells c t (0, 0)) := heap_alloc_new w _

theorem sg0_val6 (x : BitVec 32) : bits .xor .u64 (bits .xor .u64 (t6 (zx (rotr 7 x))) (t6 (zx (rotr 18 x)))) (t6 (zx x) / 8) = t6 (zx (sg0 x)) := by
  rw [show (8 : Int) = 2 ^ 3 from rfl, shr_u64, xor_u64, xor_u64, zx_shr, zx_xor, zx_xor]; rfl
theorem sg1_val6 (x : BitVec 32) : bits .xor .u64 (bits .xor .u64 (t6 (zx (rotr 17 x))) (t6 (zx (rotr 19 x)))) (t6 (zx x) / 1024) = t6 (zx (sg1 x)) := by
  rw [show (1024 : Int) = 2 ^ 10 from rfl, shr_u64, xor_u64, xor_u64, zx_shr, zx_xor, zx_xor]; rfl
/-- What holds in the rounds: all words are made; v stands in its own row. -/
structure Vl (w wr : World) (g gv : Nat) (b : Nat → UInt8) (f : Nat → Value) (v : St) : Prop where
  below : Below w.heap.size w wr
  hrow : wr.rowIs w.heap.size 123 8 f
  res : wr.rowIs (w.heap.size + 1) 123 8 (fun _ => .int .u64 0)
  krow : wr.rowIs g 153 64 kF
  wrow : wr.rowIs (g + 1) 153 64 (fun j => .int .u64 (t6 (zx (wAt (word b) j))))
  vrow : wr.rowIs gv 123 8 (st6 v)
  apart : w.heap.size + 1 < g ∧ g + 1 < gv
namespace Vl
variable {w wr : World} {g gv : Nat} {b : Nat → UInt8} {f : Nat → Value} {v : St}
theorem drewN (h : Vl w wr g gv b f v) (m : Nat) : Vl w (wr.drewN m) g gv b f v := ⟨below_drewN h.below m, h.hrow, h.res, h.krow, h.wrow, h.vrow, h.apart⟩
theorem drew (h : Vl w wr g gv b f v) : Vl w wr.drew g gv b f v := ⟨below_drewN h.below 1, h.hrow, h.res, h.krow, h.wrow, h.vrow, h.apart⟩
/-- v gets other words. -/
theorem setV (h : Vl w wr g gv b f v) {c : Array Value} (v' : St) (hc : c = vals 8 (st6 v')) : Vl w (wr.setRow gv c) g gv b f v' := by
  subst hc
  have ha := h.apart
  exact ⟨below_setRow' h.below (by omega) _, row_setRow_other h.hrow (by omega), row_setRow_other h.res (by omega), row_setRow_other h.krow (by omega), row_setRow_other h.wrow (by omega), row_setRow h.vrow, ha⟩
/-- A word of h gets another value. -/
theorem setH (h : Vl w wr g gv b f v) (k : Nat) (x : Value) : Vl w (wr.setCell ⟨w.heap.size, k, none⟩ x) g gv b (fun j => if j = k then x else f j) v := by
  have ha := h.apart
  refine ⟨h.below.setCell (Nat.le_refl _) _, h.hrow.set k _, h.res.setOther (by show w.heap.size + 1 ≠ w.heap.size; omega) _, h.krow.setOther (by show g ≠ w.heap.size; omega) _, h.wrow.setOther (by show g + 1 ≠ w.heap.size; omega) _, h.vrow.setOther (by show gv ≠ w.heap.size; omega) _, ha⟩
end Vl
theorem st6_one (v : St) : (vals 8 (st6 v)).all (·.oneCell') = true := vals_one fun _ => rfl

theorem rnd_row (x y : BitVec 64) (k w : BitVec 32) (v : St) (hx : lo x = T1 k w v + T2 v) (hy : lo y = v.d + T1 k w v) :
    (#[.int .u64 (t6 (zx (lo x))), .int .u64 (t6 (zx v.a)), .int .u64 (t6 (zx v.b)), .int .u64 (t6 (zx v.c)), .int .u64 (t6 (zx (lo y))), .int .u64 (t6 (zx v.e)), .int .u64 (t6 (zx v.f)), .int .u64 (t6 (zx v.g))] : Array Value) = vals 8 (st6 (rnd k w v)) := by
  rw [hx, hy]; rfl

theorem t12_lo (t : St) (k w : BitVec 32) : lo (zx t.h + (zx (rotr 6 t.e) ^^^ zx (rotr 11 t.e) ^^^ zx (rotr 25 t.e)) + (zx t.e &&& zx t.f ^^^ zx (lo (~~~zx t.e)) &&& zx t.g) + zx k + zx w +
    ((zx (rotr 2 t.a) ^^^ zx (rotr 13 t.a) ^^^ zx (rotr 22 t.a)) + (zx t.a &&& zx t.b ^^^ zx t.a &&& zx t.c ^^^ zx t.b &&& zx t.c))) = T1 k w t + T2 t := by
  simp only [lo_not, lo_zx, zx_xor, zx_and, lo_add, T1, T2]
theorem dt1_lo (t : St) (k w : BitVec 32) : lo (zx t.d + (zx t.h + (zx (rotr 6 t.e) ^^^ zx (rotr 11 t.e) ^^^ zx (rotr 25 t.e)) + (zx t.e &&& zx t.f ^^^ zx (lo (~~~zx t.e)) &&& zx t.g) + zx k + zx w)) = t.d + T1 k w t := by
  simp only [lo_not, lo_zx, zx_xor, zx_and, lo_add, T1]

/-- h's words on their way: the first m are summed. -/
def addW (s t : St) (m : Nat) : Nat → Value := fun j => .int .u64 (t6 (zx (if j < m then s.at j + t.at j else s.at j)))

set_option maxRecDepth 100000 in
set_option maxHeartbeats 1600000 in
theorem block_any (s : St) (q : ByteArray) (w : World) (hq : q.size = 64) :
    Calls Tryz.prog 73 #[.agg (vals 8 (st6 s)), .string q] w fun e w' => e = .returned (.agg (vals 8 (st6 (mixed s (byteAt q.data.toList))))) ∧ Below w.heap.size w w' := by
  obtain ⟨bt, hbt⟩ : ∃ bt, bt = byteAt q.data.toList := ⟨_, rfl⟩
  have HQ := Lib.hid hq
  have HBT := Lib.hid hbt
  rw [← hbt]
  have HK := Lib.hid kF_one
  have hz64 : (vals 64 fun _ => Value.int .u64 0).all (·.oneCell') = true := vals_one fun _ => rfl
  have HZ := Lib.hid hz64
  have HB0 := Lib.hid (show Tryz.prog.built 153 [] = some (vals 64 fun _ => .int .u64 0) by kernel_rfl)
  clear hq hbt hz64
  go_enter Tryz.func73, Tryz.ntmps73
  go_wp2_with (fail)
  refine (consts_any _).mono ?_
  rintro e w1 ⟨rfl, hb1⟩
  have hs1 := hb1.size
  have hr0 : w1.rowIs w.heap.size 123 8 (st6 s) := ((row_alloc _ rfl rfl).alloc _).of_block (hb1.block _ (by simp; omega))
  have hr1 : w1.rowIs (w.heap.size + 1) 123 8 (fun _ => .int .u64 0) := (row_alloc _ (by simp) (by kernel_rfl)).of_block (hb1.block _ (by simp))
  have hB1 : Below w.heap.size w w1 := (((Below.refl _ _).alloc (Nat.le_refl _) _).alloc (by simp) _).trans (hb1.mono (by simp; omega))
  have hs1' : w.heap.size + 2 ≤ w1.heap.size := by simpa using hs1
  have HR0 := Lib.hid hr0
  have HR1 := Lib.hid hr1
  have HB1 := Lib.hid hB1
  clear hr0 hr1 hB1 hb1 hs1
  have hn1 : ∀ o, (w1.alloc o).heap[w1.heap.size]? = some o := fun o => heap_alloc_new w1 o
  have HN1 := Lib.hid hn1
  clear hn1
  have hn2 : ∀ o c o', (((w1.alloc o).setRow w1.heap.size c).alloc o').heap[w1.heap.size + 1]? = some o' := fun o c o' => by
    have := heap_alloc_new ((w1.alloc o).setRow w1.heap.size c) o'
    simpa using this
  have HN2 := Lib.hid hn2
  clear hn2
  go_wp2_with (first
    | (with_reducible refine wpList_store_row rfl 153 _ _ rfl _ _ rfl rfl 153 _ (HN1.out _) (hi64 kF) ?_ HK.out ?_)
    | (refine wpList_build_to rfl 153 #[] rfl [] rfl _ HB0.out ?_)
    | (with_reducible refine wpList_store_row rfl 153 _ _ rfl _ _ rfl rfl 153 _ (HN2.out _ _ _) (hi64 _) ?_ HZ.out ?_))
  · rw [vals_size]; rfl
  · rw [vals_size]; rfl
  have hM : ∀ c c' : Array Value, Bl w ((((w1.alloc (.cells c 153)).setRow w1.heap.size (vals 64 kF)).alloc (.cells c' 153)).setRow (w1.heap.size + 1) (vals 64 fun _ => .int .u64 0)) w1.heap.size (w1.heap.size + 1) s bt 0 0 := fun c c' => by
    have b1 := below_setRow' (HB1.out.alloc (show w.heap.size ≤ w1.heap.size by omega) (.cells c 153)) (show w.heap.size ≤ w1.heap.size by omega) (vals 64 kF)
    have b2 := below_setRow' (b1.alloc (by simp; omega) (.cells c' 153)) (show w.heap.size ≤ w1.heap.size + 1 by omega) (vals 64 fun _ => .int .u64 0)
    refine ⟨b2, ?_, ?_, ?_, ?_, by omega, by omega⟩
    · exact row_setRow_other ((row_setRow_other (HR0.out.alloc _) (by omega)).alloc _) (by omega)
    · exact row_setRow_other ((row_setRow_other (HR1.out.alloc _) (by omega)).alloc _) (by omega)
    · exact row_setRow_other ((row_of_block (setRow_heap _ _ c _ _ _ (heap_alloc_new w1 _))).alloc _) (by omega)
    · refine (row_of_block (setRow_heap _ _ c' _ _ _ (HN2.out _ _ _))).congr fun j _ => ?_
      rw [if_neg (Nat.not_lt_zero j)]
      split
      · rfl
      · rfl
  refine gen_world (fun wr => Bl w wr w1.heap.size (w1.heap.size + 1) s bt 0 0) (hM _ _) ?_
  clear hM HK HZ HB0 HN1 HN2 HR0 HR1 HB1
  generalize w1.heap.size = g
  clear hs1' w1
  intro wr hM
  go_loopw [7] (fun i wr => ∃ k : Nat, k ≤ 64 ∧ i = .int .i64 k ∧ Bl w wr g (g + 1) s bt k 0) (fun i _ => 64 - (intOf i).toNat)
  case atStart => exact ⟨0, by omega, rfl, hM⟩
  case round =>
    clear hM
    obtain ⟨k, hk, rfl, hs⟩ := hrel
    by_cases hlt : k < 64
    · by_cases h16 : k < 16
      · go_wp2
        go_loopw [8] (fun j wr => ∃ m : Nat, m ≤ 4 ∧ j = .int .i64 m ∧ Bl w wr g (g + 1) s bt k (part6 bt k m)) (fun j _ => 4 - (intOf j).toNat)
        case atStart => exact ⟨0, by omega, rfl, hs⟩
        case round =>
          clear hs
          obtain ⟨m, hm, rfl, hs⟩ := hrel
          by_cases hlt4 : m < 4
          · have r := hs.cur (by omega)
            have HV := Lib.hid (six_val (part6 bt k m) (bt (4 * k + m)))
            have e0 : IntKind.i64.wrap (4 * (k : Int)) = 4 * (k : Int) := IntWalk.i64_in _ (by omega)
            have e1 : IntKind.i64.wrap (4 * (k : Int) + (m : Int)) = 4 * (k : Int) + (m : Int) := IntWalk.i64_in _ (by omega)
            have n1 : (4 * (k : Int) + (m : Int)).toNat = 4 * k + m := by omega
            have l1 : 0 ≤ 4 * (k : Int) + (m : Int) := by omega
            have lk : 0 ≤ (k : Int) := by omega
            have mk : (k : Int) < 64 := by omega
            have hx : ∀ w, (Instr.index 9 (.string q) (.int .i64 (4 * (k : Int) + (m : Int)))).run Tryz.prog w = .ok (.int .u8 ((bt (4 * k + m)).toNat : Int)) w := fun w => by
              rw [HBT.out]
              exact index_str q (4 * k + m) (by rw [HQ.out]; omega) _ (by omega) w
            go_wp2
            go_still_tail 14, (by kernel_rfl)
            change wpList _ _ _ _ _ wr.drew
            have hs' := hs.drew
            clear hs r e0 e1 n1 l1 hx
            generalize wr.drew = w2 at hs' ⊢
            have r0 := hs'.wrow.cell (i := k) (by omega)
            have f0 := hs'.wrow.frozen k
            go_wp2
            go_roundw
            case rel => exact ⟨m + 1, by omega, by go_num, hs'.put _ (by first | exact HV.out | (rw [HV.out]; rfl))⟩
            case measure => simp [intOf]; omega
          · have HK4 := Lib.hid (show m = 4 by omega)
            go_wp2
            go_roundw
            case rel => exact ⟨k + 1, by omega, by go_num, hs.next (by rw [HK4.out, part6_all, wAt_first _ _ h16])⟩
            case measure => simp [intOf]; omega
      · have v0 := sg0_val6 (wAt (word bt) (k - 15))
        have v1 := sg1_val6 (wAt (word bt) (k - 2))
        have HN := Lib.hid (wAt_next (word bt) k (by omega))
        have e0 : IntKind.i64.wrap ((k : Int) - 15) = (k : Int) - 15 := IntWalk.i64_in _ (by omega)
        have e1 : IntKind.i64.wrap ((k : Int) - 2) = (k : Int) - 2 := IntWalk.i64_in _ (by omega)
        have n0 : ((k : Int) - 15).toNat = k - 15 := by omega
        have n1 : ((k : Int) - 2).toNat = k - 2 := by omega
        have l0 : 0 ≤ (k : Int) - 15 := by omega
        have l1 : 0 ≤ (k : Int) - 2 := by omega
        have m0 : (k : Int) - 15 < 64 := by omega
        have m1 : (k : Int) - 2 < 64 := by omega
        have r15 := hs.get (k - 15) (by omega) (by omega)
        have r2 := hs.get (k - 2) (by omega) (by omega)
        go_wp2_with (fail)
        refine (turn_any _ _ _ (by omega) (by omega)).mono ?_
        rintro e w2 ⟨rfl, q1, rfl⟩
        go_wp2_with (fail)
        refine (turn_any _ _ _ (by omega) (by omega)).mono ?_
        rintro e w2 ⟨rfl, q2, rfl⟩
        go_wp2_with (fail)
        refine (turn_any _ _ _ (by omega) (by omega)).mono ?_
        rintro e w2 ⟨rfl, q3, rfl⟩
        go_wp2_with (fail)
        refine (turn_any _ _ _ (by omega) (by omega)).mono ?_
        rintro e w2 ⟨rfl, q4, rfl⟩
        go_wp2_with (fail)
        have hs2 := hs.drewN (q1 + q2 + q3 + q4)
        clear r15 r2 hs
        generalize wr.drewN (q1 + q2 + q3 + q4) = wb at hs2 ⊢
        clear v0 v1 e0 e1 n0 n1 l0 l1 m0 m1
        have r16 := hs2.get (k - 16) (by omega) (by omega)
        have r7 := hs2.get (k - 7) (by omega) (by omega)
        have e0 : IntKind.i64.wrap ((k : Int) - 16) = (k : Int) - 16 := IntWalk.i64_in _ (by omega)
        have e1 : IntKind.i64.wrap ((k : Int) - 7) = (k : Int) - 7 := IntWalk.i64_in _ (by omega)
        have n0 : ((k : Int) - 16).toNat = k - 16 := by omega
        have n1 : ((k : Int) - 7).toNat = k - 7 := by omega
        have l0 : 0 ≤ (k : Int) - 16 := by omega
        have l1 : 0 ≤ (k : Int) - 7 := by omega
        have m0 : (k : Int) - 16 < 64 := by omega
        have m1 : (k : Int) - 7 < 64 := by omega
        have lk : 0 ≤ (k : Int) := by omega
        have mk : (k : Int) < 64 := by omega
        have ka := add_u64
        have x0 : 16 ≤ (k : Int) := by omega
        have x1 : 7 ≤ (k : Int) := by omega
        go_still_tail 16, (by kernel_rfl)
        still_call ((cut_any _ _).mono fun _ _ ⟨a, b⟩ => ⟨a, b.symm⟩)
        repeat still_step
        refine wpStill_nil ?_
        change wpList _ _ _ _ _ wb.drew
        have hs3 := hs2.drew
        clear hs2 r16 r7 e0 e1 n0 n1 l0 l1 m0 m1
        generalize wb.drew = w3 at hs3 ⊢
        have r0 := hs3.wrow.cell (i := k) (by omega)
        have f0 := hs3.wrow.frozen k
        go_wp2
        go_roundw
        case rel => exact ⟨k + 1, by omega, by go_num, (hs3.put _ rfl).next (by rw [lo_add, lo_add, lo_add, lo_zx, lo_zx, lo_zx, lo_zx, HN.out])⟩
        case measure => simp [intOf]; omega
    · have HK := Lib.hid (show k = 64 by omega)
      have hl := hs.wrow.lt
      have ha := hs.apart
      have H1 := Lib.hid (row_block hs.hrow)
      have HN := Lib.hid (show ∀ o, (wr.alloc o).heap[wr.heap.size]? = some o from fun o => heap_alloc_new wr o)
      have HO := Lib.hid (st6_one s)
      have HV := Lib.hid (show ∀ c : Array Value, Vl w ((wr.alloc (.cells c 123)).setRow wr.heap.size (vals 8 (st6 s))) g wr.heap.size bt (st6 s) s from fun c => by
        have b1 := below_setRow' (hs.below.alloc (show w.heap.size ≤ wr.heap.size by omega) (.cells c 123)) (show w.heap.size ≤ wr.heap.size by omega) (vals 8 (st6 s))
        refine ⟨b1, row_setRow_other (hs.hrow.alloc _) (by omega), row_setRow_other (hs.res.alloc _) (by omega), row_setRow_other (hs.krow.alloc _) (by omega), row_setRow_other ((hs.wrow.congr fun j hj => ?_).alloc _) (by omega), row_of_block (setRow_heap _ _ c _ _ _ (heap_alloc_new wr _)), by omega, by omega⟩
        rw [if_pos (by omega)])
      clear hs
      go_wp2_with (first
        | (with_reducible refine wpList_load_row rfl 123 _ rfl _ rfl 123 _ _ _ H1.out Tryz.underlying123 rfl (hi8 _) ?_)
        | (with_reducible refine wpList_store_row rfl 123 _ _ rfl _ _ rfl rfl 123 _ (HN.out _) (hi8 _) ?_ HO.out ?_))
      · rw [vals_size]; rfl
      refine gen_world (fun wx => Vl w wx g wr.heap.size bt (st6 s) s) (HV.out _) ?_
      clear HV HN H1
      generalize wr.heap.size = gv
      clear hl ha
      intro wx hV
      go_loopw [14] (fun i wx => ∃ n : Nat, n ≤ 64 ∧ i = .int .i64 n ∧ Vl w wx g gv bt (st6 s) (runs (wAt (word bt)) s n)) (fun i _ => 64 - (intOf i).toNat)
      case atStart => exact ⟨0, by omega, rfl, hV⟩
      case round =>
        clear hV
        obtain ⟨n, hn, rfl, hV⟩ := hrel
        have HT := Lib.hid (show runs (wAt (word bt)) s (n + 1) = rnd (kAt n) (wAt (word bt) n) (runs (wAt (word bt)) s n) from rfl)
        have HTk := Lib.hid (show n = 64 → mixed s bt = plusSt s (runs (wAt (word bt)) s n) from fun e => by rw [e]; rfl)
        generalize runs (wAt (word bt)) s n = t at HT HTk hV ⊢
        by_cases hlt : n < 64
        · have cK : wr.cell? ⟨g, n, none⟩ = some (.int .u64 (t6 (zx (kAt n)))) := hV.krow.cell hlt
          have cW : wr.cell? ⟨g + 1, n, none⟩ = some (.int .u64 (t6 (zx (wAt (word bt) n)))) := hV.wrow.cell hlt
          have c0 : wr.cell? ⟨gv, 0, none⟩ = some (.int .u64 (t6 (zx t.a))) := hV.vrow.cell (i := 0) (by omega)
          have c1 : wr.cell? ⟨gv, 1, none⟩ = some (.int .u64 (t6 (zx t.b))) := hV.vrow.cell (i := 1) (by omega)
          have c2 : wr.cell? ⟨gv, 2, none⟩ = some (.int .u64 (t6 (zx t.c))) := hV.vrow.cell (i := 2) (by omega)
          have c3 : wr.cell? ⟨gv, 3, none⟩ = some (.int .u64 (t6 (zx t.d))) := hV.vrow.cell (i := 3) (by omega)
          have c4 : wr.cell? ⟨gv, 4, none⟩ = some (.int .u64 (t6 (zx t.e))) := hV.vrow.cell (i := 4) (by omega)
          have c5 : wr.cell? ⟨gv, 5, none⟩ = some (.int .u64 (t6 (zx t.f))) := hV.vrow.cell (i := 5) (by omega)
          have c6 : wr.cell? ⟨gv, 6, none⟩ = some (.int .u64 (t6 (zx t.g))) := hV.vrow.cell (i := 6) (by omega)
          have c7 : wr.cell? ⟨gv, 7, none⟩ = some (.int .u64 (t6 (zx t.h))) := hV.vrow.cell (i := 7) (by omega)
          have lk : 0 ≤ (n : Int) := by omega
          have mk : (n : Int) < 64 := by omega
          have kx := xor_u64
          have kn := and_u64
          have ka := add_u64
          have kt := not_u64 (zx t.e)
          have kv := fun a b => (show IntKind.u64.wrap (t6 a + t6 b) = t6 (a + b) from add_u64 a b)
          go_wp2
          go_quiet (first
            | (go_at_call 96; exact quiet_more (turn_any _ _ _ (by omega) (by omega)))
            | (go_at_call 97; exact quiet_here (cut_any _ _)))
          have hV1 := hV.drewN nq
          clear cK cW hV kt c4 c5 c6 c7 c0 c1 c2 c3
          generalize wr.drewN nq = wa at hV1 ⊢
          have c1 : wa.cell? ⟨gv, 1, none⟩ = some (.int .u64 (t6 (zx t.b))) := hV1.vrow.cell (i := 1) (by omega)
          have c2 : wa.cell? ⟨gv, 2, none⟩ = some (.int .u64 (t6 (zx t.c))) := hV1.vrow.cell (i := 2) (by omega)
          go_wp2
          go_quiet ((go_at_call 96; exact quiet_more (turn_any _ _ _ (by omega) (by omega))))
          have hV2 := hV1.drewN nq
          clear hV1 c1 c2
          generalize wa.drewN nq = wb at hV2 ⊢
          have c0 : wb.cell? ⟨gv, 0, none⟩ = some (.int .u64 (t6 (zx t.a))) := hV2.vrow.cell (i := 0) (by omega)
          have c1 : wb.cell? ⟨gv, 1, none⟩ = some (.int .u64 (t6 (zx t.b))) := hV2.vrow.cell (i := 1) (by omega)
          have c2 : wb.cell? ⟨gv, 2, none⟩ = some (.int .u64 (t6 (zx t.c))) := hV2.vrow.cell (i := 2) (by omega)
          have c3 : wb.cell? ⟨gv, 3, none⟩ = some (.int .u64 (t6 (zx t.d))) := hV2.vrow.cell (i := 3) (by omega)
          have c4 : wb.cell? ⟨gv, 4, none⟩ = some (.int .u64 (t6 (zx t.e))) := hV2.vrow.cell (i := 4) (by omega)
          have c5 : wb.cell? ⟨gv, 5, none⟩ = some (.int .u64 (t6 (zx t.f))) := hV2.vrow.cell (i := 5) (by omega)
          have c6 : wb.cell? ⟨gv, 6, none⟩ = some (.int .u64 (t6 (zx t.g))) := hV2.vrow.cell (i := 6) (by omega)
          clear kx kn
          go_wp2
          go_still_tail 22, (by kernel_rfl)
          still_call ((cut_any _ _).mono fun _ _ ⟨a, b⟩ => ⟨a, b.symm⟩)
          repeat still_step
          still_call ((cut_any _ _).mono fun _ _ ⟨a, b⟩ => ⟨a, b.symm⟩)
          repeat still_step
          refine wpStill_nil ?_
          change wpList _ _ _ _ _ wb.drew
          have hV3 := hV2.drew
          clear hV2 c0 c1 c2 c3 c4 c5 c6 ka kv
          generalize wb.drew = w3 at hV3 ⊢
          refine wpList_store_row rfl 123 (.tmp 13) (.tmp 171) rfl gv (vals 8 (st6 (rnd (kAt n) (wAt (word bt) n) t))) rfl (congrArg Value.agg (rnd_row _ _ (kAt n) (wAt (word bt) n) t (t12_lo t _ _) (dt1_lo t _ _))) 123 (vals 8 (st6 t)) (row_block hV3.vrow) (hi8 _) (by rw [vals_size, vals_size]) (st6_one _) ?_
          have hV4 := hV3.setV (rnd (kAt n) (wAt (word bt) n) t) rfl
          clear hV3
          generalize w3.setRow gv (vals 8 (st6 (rnd (kAt n) (wAt (word bt) n) t))) = w4 at hV4 ⊢
          go_wp2
          go_roundw
          case rel => exact ⟨n + 1, by omega, by go_num, by rw [HT.out]; exact hV4⟩
          case measure => simp [intOf]; omega
        · have HN := Lib.hid (show n = 64 by omega)
          have hA : Vl w wr g gv bt (addW s t 0) t := ⟨hV.below, hV.hrow.congr fun j _ => by unfold st6 addW; rw [if_neg (Nat.not_lt_zero j)], hV.res, hV.krow, hV.wrow, hV.vrow, hV.apart⟩
          clear hV
          go_wp2
          go_loopw [19] (fun i wx => ∃ m : Nat, m ≤ 8 ∧ i = .int .i64 m ∧ Vl w wx g gv bt (addW s t m) t) (fun i _ => 8 - (intOf i).toNat)
          case atStart => exact ⟨0, by omega, rfl, hA⟩
          case round =>
            clear hA hlt hn
            obtain ⟨m, hm, rfl, hA⟩ := hrel
            by_cases hlt : m < 8
            · have c0 : wr.cell? ⟨w.heap.size, m, none⟩ = some (.int .u64 (t6 (zx (s.at m)))) := by
                have := hA.hrow.cell (i := m) (by omega)
                unfold addW at this
                rwa [if_neg (by omega)] at this
              have c1 : wr.cell? ⟨gv, m, none⟩ = some (.int .u64 (t6 (zx (t.at m)))) := hA.vrow.cell (i := m) (by omega)
              have ka := add_u64
              have lk : 0 ≤ (m : Int) := by omega
              have mk : (m : Int) < 8 := by omega
              go_wp2
              go_still_tail 10, (by kernel_rfl)
              still_call ((cut_any _ _).mono fun _ _ ⟨a, b⟩ => ⟨a, b.symm⟩)
              repeat still_step
              refine wpStill_nil ?_
              change wpList _ _ _ _ _ wr.drew
              have hA2 := hA.drew
              clear hA c0 c1
              generalize wr.drew = w3 at hA2 ⊢
              have r0 := hA2.hrow.cell (i := m) (by omega)
              have f0 := hA2.hrow.frozen m
              go_wp2
              go_roundw
              case rel =>
                refine ⟨m + 1, by omega, by go_num, ?_⟩
                have h5 := hA2.setH m (.int .u64 (t6 (zx (lo (zx (s.at m) + zx (t.at m))))))
                refine ⟨h5.below, h5.hrow.congr fun j _ => ?_, h5.res, h5.krow, h5.wrow, h5.vrow, h5.apart⟩
                unfold addW
                by_cases e : j = m
                · rw [if_pos e, if_pos (by omega), e, lo_add, lo_zx, lo_zx]
                · rw [if_neg e]
                  by_cases hj : j < m
                  · rw [if_pos hj, if_pos (by omega)]
                  · rw [if_neg hj, if_neg (by omega)]
              case measure => simp [intOf]; omega
            · have HM := Lib.hid (show m = 8 by omega)
              have hF : Vl w wr g gv bt (st6 (mixed s bt)) t := ⟨hA.below, hA.hrow.congr fun j hj => by
                unfold st6 addW
                rw [if_pos (by have := HM.out; omega), HTk.out HN.out, plusSt_at], hA.res, hA.krow, hA.wrow, hA.vrow, hA.apart⟩
              have hbl := below_setRow' hF.below (show w.heap.size ≤ w.heap.size + 1 by omega) (vals 8 (st6 (mixed s bt)))
              have H1 := Lib.hid (row_block hF.hrow)
              have H2 := Lib.hid (row_block hF.res)
              have H3 := Lib.hid (row_block (row_setRow (g := st6 (mixed s bt)) hF.res))
              have HZ := Lib.hid (show (vals 8 fun _ => Value.int .u64 0).size = (vals 8 (st6 (mixed s bt))).size by rw [vals_size, vals_size])
              have HO2 := Lib.hid (st6_one (mixed s bt))
              have HB := Lib.hid hbl
              clear hA hF hbl
              go_wp2_with (first
                | (with_reducible refine wpList_load_row rfl 123 _ rfl _ rfl 123 _ _ _ H1.out Tryz.underlying123 rfl (hi8 _) ?_)
                | (with_reducible refine wpList_store_row rfl 123 _ _ rfl _ _ rfl rfl 123 _ H2.out (hi8 _) HZ.out HO2.out ?_))
              refine bodyPost_ret (results_cell_row rfl _ _ _ 123 _ _ _ rfl H3.out Tryz.underlying123 rfl (hi8 _)) rfl ?_
              exact ⟨rfl, HB.out⟩
end Go.Proofs.YtnmgkkjnjllpbaaGreatDoor
namespace Go.Proofs.YtnmgkkjnjllpbaaGreatDoor
open Go.ChangeShapes Go.WideShapes Go.ChangeAt Go.RowKit Sh

/-- The slice v owns the bytes l; of its row nothing within is frozen. -/
def BRow (w : World) (base : Nat) (v : Value) (l : List UInt8) : Prop :=
  ∃ g cap cur fz, v = .slice (some ⟨g, 0, none⟩) l.length cap ∧ base ≤ g ∧ w.heap[g]? = some (.cells cur 5 fz) ∧ (fz = (0, 0) ∨ fz.1 = cap) ∧ l.length ≤ cap ∧ cap ≤ maxLen ∧ cur.size = cap ∧
    ∀ j, j < l.length → cur[j]? = some (.int .u8 ((byteAt l j).toNat : Int))
namespace BRow
variable {w : World} {base : Nat} {v : Value} {l : List UInt8}
theorem cell {g cap : Nat} (h : BRow w base (.slice (some ⟨g, 0, none⟩) l.length cap) l) (j : Nat) (hj : j < l.length) : w.cell? ⟨g, j, none⟩ = some (.int .u8 ((byteAt l j).toNat : Int)) := by
  obtain ⟨g', cap', cur, fz, hv, _, hg, _, _, _, _, hc⟩ := h
  injection hv with h1 _ _
  injection h1 with h1
  injection h1 with h1 _ _
  subst h1
  rw [cell_of_row w g j cur _ fz hg]
  exact hc j hj
theorem form (h : BRow w base v l) : ∃ g cap, v = .slice (some ⟨g, 0, none⟩) l.length cap ∧ base ≤ g ∧ g < w.heap.size ∧ BRow w base (.slice (some ⟨g, 0, none⟩) l.length cap) l := by
  obtain ⟨g, cap, cur, fz, rfl, hb, hg, r⟩ := h
  exact ⟨g, cap, rfl, hb, (Array.getElem?_eq_some_iff.1 hg).1, g, cap, cur, fz, rfl, hb, hg, r⟩
theorem kept {w' : World} {row : Option Nat} (h : BRow w base v l) (hg : w.grownBy w' row) (hne : v.ownBlock ≠ row ∨ row = none) : BRow w' base v l := by
  obtain ⟨g, cap, cur, fz, rfl, hb, hgg, r⟩ := h
  refine ⟨g, cap, cur, fz, rfl, hb, ?_, r⟩
  rw [hg.block g (Array.getElem?_eq_some_iff.1 hgg).1 (by rcases hne with h | h
                                                          · simpa [Value.ownBlock] using h
                                                          · rw [h]; simp)]
  exact hgg
theorem alloc (h : BRow w base v l) (o : Obj) : BRow (w.alloc o) base v l := h.kept (World.grownBy_alloc w o none) (.inr rfl)
theorem drew (h : BRow w base v l) : BRow w.drew base v l := h
theorem drewN (h : BRow w base v l) (n : Nat) : BRow (w.drewN n) base v l := h
theorem below {w' : World} (h : BRow w base v l) (hb : Below w.heap.size w w') : BRow w' base v l := by
  obtain ⟨g, cap, cur, fz, rfl, hbs, hgg, r⟩ := h
  exact ⟨g, cap, cur, fz, rfl, hbs, (hb.block g (Array.getElem?_eq_some_iff.1 hgg).1).trans hgg, r⟩
/-- '[]byte(s)'. -/
theorem ofText (w : World) (s : ByteArray) (hs : s.size ≤ maxLen) (hb : base ≤ w.heap.size) : BRow (Lib.bytesWorld w 5 s) base (.slice (some ⟨w.heap.size, 0, none⟩) s.size (grownCap w s.size 0 5)) s.data.toList := by
  have hge := grownCap_ge w s.size 0 5
  have hsz : (Lib.bytesCells w 5 s).size = grownCap w s.size 0 5 := by
    unfold Lib.bytesCells
    have : s.data.size = s.size := rfl
    simp
    omega
  refine ⟨w.heap.size, _, _, _, rfl, hb, Lib.bytesWorld_at_new w _ s, .inr ?_, ?_, grownCap_le_maxLen w _ _ _ hs, hsz, ?_⟩
  · exact hsz
  · exact hge
  · intro j hj
    have := Lib.bytesWorld_cell w 5 s j hj
    rw [cell_of_row _ _ j _ _ _ (Lib.bytesWorld_at_new w _ s)] at this
    exact this
/-- One byte more. -/
theorem run_more (h : BRow w base v l) (hl : l.length < 1000000) (hbase : base ≤ w.heap.size) (ab c : Nat) (x : UInt8) (hx : w.cell? ⟨ab, 0, none⟩ = some (.int .u8 (x.toNat : Int))) (ty : TypeId) :
    ∃ v' w', (Builtin.append_ #[40, 40] ty #[v, .slice (some ⟨ab, 0, none⟩) 1 c]).run Tryz.prog w = .ok v' w' ∧ BRow w' base v' (l ++ [x]) ∧ w.grownBy w' v.ownBlock := by
  obtain ⟨g, cap, cur, fz, rfl, hb, hg, hfz, hcap, hmax, hsz, hc⟩ := h
  obtain ⟨i0, hi, hz0, hz1, hz2⟩ := info_parts info5
  have hnews : ∀ j u, [Value.int .u8 (x.toNat : Int)][j]? = some u → w.cell? ((⟨ab, 0, none⟩ : Addr).add j) = some u := by
    intro j u hj
    match j, hj with
    | 0, hj => simp at hj; subst hj; simpa [Addr.add] using hx
  have hbyte : ∀ j, j < (l ++ [x]).length → byteAt (l ++ [x]) j = if j < l.length then byteAt l j else x := by
    intro j hj
    unfold byteAt
    simp only [List.getD_eq_getElem?_getD, List.getElem?_append]
    split
    · rfl
    · have : j - l.length = 0 := by simp at hj; omega
      rw [this]; rfl
  by_cases hroom : l.length + 1 ≤ cap
  · have hcell : w.cell? ⟨g, l.length, none⟩ = cur[l.length]? := cell_of_row w g l.length cur _ fz hg
    have hfr : w.frozen? ⟨g, l.length, none⟩ = false := by
      unfold World.frozen?
      simp only [hg]
      rcases hfz with rfl | h1
      · simp
      · simp; omega
    have hsome : cur[l.length]? = some (cur[l.length]'(by omega)) := Array.getElem?_eq_getElem _
    refine ⟨.slice (some ⟨g, 0, none⟩) (l.length + 1) cap, w.setCell ⟨g, l.length, none⟩ (.int .u8 (x.toNat : Int)), ?_, ?_, ?_⟩
    · have hf := run_firstCells_some (P := Tryz.prog) w i0.size 1 ⟨ab, 0, none⟩ 1 c [Value.int .u8 (x.toNat : Int)] (by rw [hz1]; rfl) hnews
      rw [hz1] at hf
      have hst : (storeCells ⟨g, l.length, none⟩ [Value.int .u8 (x.toNat : Int)]).run Tryz.prog w = .ok () (w.setCell ⟨g, l.length, none⟩ (.int .u8 (x.toNat : Int))) := by
        have h0 := hcell.trans hsome
        simp [storeCells, run_store_int, stored, h0, hfr, Addr.add]
      simp [Builtin.append_, run_underlying Tryz.underlying40, sizeOf, typeInfo, hi, Builtin.lenOf, hroom, hf, Addr.add_lit, hz1, hst]
    · have he := setCell_eq_setRow w g l.length cur _ fz (.int .u8 (x.toNat : Int)) hg
      refine ⟨g, cap, cur.setIfInBounds l.length (.int .u8 (x.toNat : Int)), fz, by simp, hb, ?_, hfz, by simpa using hroom, hmax, by simpa using hsz, fun j hj => ?_⟩
      · rw [he]; exact setRow_heap w g cur _ _ fz hg
      · rw [hbyte j hj, Array.getElem?_setIfInBounds]
        by_cases e : l.length = j
        · rw [if_pos e, if_pos (show l.length < cur.size by omega), if_neg (show ¬ j < l.length by omega)]
        · rw [if_neg e]
          have hj' : j < l.length := by simp at hj; omega
          rw [if_pos hj']
          exact hc j hj'
    · exact ⟨rfl, rfl, rfl, by simp, fun k _ hk => heap_setCell_other w _ k _ (fun e => hk (by simp [Value.ownBlock, e]))⟩
  · have hold : ∀ j u, (l.map fun b => Value.int .u8 (b.toNat : Int))[j]? = some u → w.cell? ((⟨g, 0, none⟩ : Addr).add j) = some u := by
      intro j u hu
      have hj : j < l.length := by
        have := (List.getElem?_eq_some_iff.1 hu).1
        simpa using this
      rw [Addr.add_lit, Nat.zero_add, cell_of_row w g j cur _ fz hg, hc j hj, ← hu]
      simp [byteAt, hj]
    have hlc : l.length = cap := by omega
    have hr := run_append_grow (P := Tryz.prog) w 40 ty 5 i0 _ Tryz.underlying40 hi hz0 ⟨g, 0, none⟩ l.length cap (l.map fun b => Value.int .u8 (b.toNat : Int)) (by rw [hz1]; simp) hold ⟨ab, 0, none⟩ 1 c [Value.int .u8 (x.toNat : Int)] (by rw [hz1]; rfl) hnews (by omega) (by omega) (growslice_fits (by omega) (by rw [hz2]; omega))
    have hge := grownCap_ge w (l.length + 1) cap 5
    refine ⟨_, _, hr, ⟨w.heap.size, grownCap w (l.length + 1) cap 5, _, (0, 0), by simp, hbase, heap_alloc_new w.drew _, .inl rfl, by simpa using hge, grownCap_le_maxLen w _ _ _ (by unfold maxLen; omega), ?_, fun j hj => ?_⟩, ⟨rfl, rfl, rfl, by simp, fun k hk _ => heap_alloc_old w.drew _ hk⟩⟩
    · simp [size_zeroCells, Value.cells]
      omega
    · have hj2 : j < l.length + 1 := by simpa using hj
      rw [hbyte j hj, Array.getElem?_append_left (by simp; omega)]
      by_cases e : j < l.length
      · rw [if_pos e, Array.getElem?_append_left (by simpa using e)]
        simp [byteAt, e]
      · have e2 : j = l.length := by omega
        rw [if_neg e, Array.getElem?_append_right (by simp; omega)]
        simp [e2]
/-- .. for the walk: 'go_wp2_with (at_builtin; refine BRow.wpList_more rfl S X rfl HROW .. ?_)'. -/
theorem wpList_more {ops : Array Oper} {rest : List Oper} {o : Oper} {a : Act} {Q : Exit → Act → World → Prop} (hgd : o.guard = none) (s x : Operand)
    (ho : o.op = .call { callee := .builtin .append, args := #[s, x], argTypes := #[40, 40] })
    (hs : a.eval s = v) (h : BRow w base v l) (hl : l.length < 1000000) (hbase : base ≤ w.heap.size) (ab c : Nat) (y : UInt8) (hx : a.eval x = .slice (some ⟨ab, 0, none⟩) 1 c) (hy : w.cell? ⟨ab, 0, none⟩ = some (.int .u8 (y.toNat : Int)))
    (hK : ∀ g cap w', BRow w' base (.slice (some ⟨g, 0, none⟩) (l.length + 1) cap) (l ++ [y]) → w.grownBy w' v.ownBlock → wpList Tryz.prog ops Q rest (a.put o.dst (.slice (some ⟨g, 0, none⟩) (l.length + 1) cap)) w') : wpList Tryz.prog ops Q (o :: rest) a w := by
  refine wpList_plain hgd fun K hK' => ?_
  obtain ⟨v', w', hrun, h1, h2⟩ := h.run_more hl hbase ab c y hy o.type
  obtain ⟨g, cap, rfl, _, _, _⟩ := h1.form
  simp only [List.length_append, List.length_cons, List.length_nil, Nat.zero_add] at h1 hrun
  unfold Oper.wp
  simp [execOp, ho, resolve, invoke, builtin, hs, hx, hrun, Result.andThen]
  exact hK' _ _ (hK g cap w' h1 h2)
/-- A row that the call made: nothing that was there ahead of it is touched. -/
theorem grown {w0 w' : World} (h : BRow w base v l) (hb : Below base w0 w) (hg : w.grownBy w' v.ownBlock) (hbase : base ≤ w.heap.size) : Below base w0 w' := by
  obtain ⟨g, cap, rfl, hbg, _, _⟩ := h.form
  exact hb.grown hg hbase (fun k hk => by simp [Value.ownBlock] at hk; omega)
/-- '[]byte(s)' in the walk: the world is new, the row one's own. -/
theorem wpList_text {ops : Array Oper} {rest : List Oper} {o : Oper} {a : Act} {Q : Exit → Act → World → Prop} {base : Nat} {w : World} (hgd : o.guard = none) (x : Operand) (ho : o.op = .convert 9 40 x)
    (q : ByteArray) (hx : a.eval x = .string q) (hq : q.size ≤ maxLen) (hbase : base ≤ w.heap.size) (l : List UInt8) (hl : q.data.toList = l)
    (hK : ∀ g cap w', BRow w' base (.slice (some ⟨g, 0, none⟩) l.length cap) l → w.grownBy w' none → wpList Tryz.prog ops Q rest (a.put o.dst (.slice (some ⟨g, 0, none⟩) l.length cap)) w') : wpList Tryz.prog ops Q (o :: rest) a w := by
  subst hl
  refine wpList_plain hgd fun K hK' => ?_
  have hrun := Lib.run_convert_string_bytes (P := Tryz.prog) w 9 40 5 q Tryz.underlying9 Tryz.underlying40 Tryz.underlying5
  have hg : w.grownBy (Lib.bytesWorld w 5 q) none := ⟨by unfold Lib.bytesWorld World.freeze; split <;> rfl, by unfold Lib.bytesWorld World.freeze; split <;> rfl, by unfold Lib.bytesWorld World.freeze; split <;> rfl, by rw [Lib.bytesWorld_size]; omega, fun k hk _ => Lib.bytesWorld_at_old w _ q k hk⟩
  unfold Oper.wp
  simp [execOp, ho, hx, hrun, Result.andThen]
  exact hK' _ _ (hK _ _ _ (ofText w q hq hbase) hg)
end BRow
/-- A slice's length. -/
def lenV : Value → Nat
  | .slice _ n _ => n
  | _ => 0
end Go.Proofs.YtnmgkkjnjllpbaaGreatDoor
