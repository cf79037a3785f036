/-
  Bits and bytes: eight bits are a byte; what a bit set or cleared makes of it; a set's bytes. No program's function here. No conditions.
  A set's own block: its number, and its bytes. No program's function here. No conditions.
  Package bits: what bit, size, fits, Len, has and New answer. Conditions: the set stands in its block, of 1 to 1024 numbers.
  Package bits: what check, Has and First answer. Conditions: the set stands in its block, of at most 1024 numbers; the list's cells are there.
  Package bits: what First, Add and Drop answer. Conditions: the set stands in its block, of at most 1024 numbers; the list's cells are there, not in the set's block.
  Package bits: what Row and Count answer: all that are there, rising. Conditions: the set stands in its block, of at most 1024 numbers.
  Package bits: what Text answers: the bits as bytes. Conditions: the set stands in its block, of 1 to 1024 numbers.
  Package bits: what Parse answers: the set of a text; nothing, if there is none. Conditions: none.
  Package bits: what Same answers: whether length and all numbers are the same. Conditions: the sets stand in their blocks, of at most 1024 numbers.
  A set of a law's: it stands in a block that wasn't there at the beginning; what was there is as it was. What each method leaves. Conditions: at most 1024 numbers.
  How many of a set's numbers are there; a number cut to a range. No program's function here. No conditions.
-/
import Derived.Test.YtlechjpaldpgnaaGreatDoorMg1
import Derived.Laws.Entries
import Derived.Laws.Rows
import Derived.Deep.RegionHeld3
import Derived.StillTailTactics
import Derived.Lib.AppendStr
import Derived.OwnWalk
import Derived.Laws.OwnMore
import Derived.Deep.AppendLies
import Derived.Laws.BytesString
import Derived.Laws.IdiomCopy
import Derived.Deep.MidRow
import Derived.ChangeKeysEq
import Derived.Laws.StructEq
set_option maxRecDepth 100000
namespace Go.Proofs.YtlechjpaldpgnaaGreatDoor
namespace Bt
open Go Go.RowKit

/-- Eight bits, the lowest first. -/
def s8 (b0 b1 b2 b3 b4 b5 b6 b7 : Bool) : Nat := b0.toNat + 2 * b1.toNat + 4 * b2.toNat + 8 * b3.toNat + 16 * b4.toNat + 32 * b5.toNat + 64 * b6.toNat + 128 * b7.toNat
/-- The byte j of bits. -/
def by8 (u : Nat → Bool) (j : Nat) : Nat := s8 (u (8 * j)) (u (8 * j + 1)) (u (8 * j + 2)) (u (8 * j + 3)) (u (8 * j + 4)) (u (8 * j + 5)) (u (8 * j + 6)) (u (8 * j + 7))
/-- One bit as told. -/
def upd (u : Nat → Bool) (k : Nat) (v : Bool) : Nat → Bool := fun i => if i = k then v else u i
/-- A number's bit in its byte. -/
def pw (k : Nat) : Nat := 2 ^ (k % 8)

theorem s8_lt : ∀ b0 b1 b2 b3 b4 b5 b6 b7 : Bool, s8 b0 b1 b2 b3 b4 b5 b6 b7 < 256 := by decide +kernel
theorem by8_lt (u : Nat → Bool) (j : Nat) : by8 u j < 256 := s8_lt ..
theorem pw_pos (k : Nat) : 1 ≤ pw k := Nat.one_le_two_pow
theorem pw_le (k : Nat) : pw k ≤ 128 := Nat.pow_le_pow_right (by omega) (show k % 8 ≤ 7 by omega)

theorem and8 : ∀ (b0 b1 b2 b3 b4 b5 b6 b7 : Bool) (e : Fin 8), bits .and .u8 (s8 b0 b1 b2 b3 b4 b5 b6 b7 : Int) ((2 ^ e.val : Nat) : Int) = if [b0, b1, b2, b3, b4, b5, b6, b7].getD e.val false then ((2 ^ e.val : Nat) : Int) else 0 := by decide +kernel
theorem or8 : ∀ (b0 b1 b2 b3 b4 b5 b6 b7 : Bool) (e : Fin 8), bits .or .u8 (s8 b0 b1 b2 b3 b4 b5 b6 b7 : Int) ((2 ^ e.val : Nat) : Int) =
    (s8 (b0 || e.val == 0) (b1 || e.val == 1) (b2 || e.val == 2) (b3 || e.val == 3) (b4 || e.val == 4) (b5 || e.val == 5) (b6 || e.val == 6) (b7 || e.val == 7) : Int) := by decide +kernel
theorem not8 : ∀ (b0 b1 b2 b3 b4 b5 b6 b7 : Bool) (e : Fin 8), bits .andNot .u8 (s8 b0 b1 b2 b3 b4 b5 b6 b7 : Int) ((2 ^ e.val : Nat) : Int) =
    (s8 (b0 && e.val != 0) (b1 && e.val != 1) (b2 && e.val != 2) (b3 && e.val != 3) (b4 && e.val != 4) (b5 && e.val != 5) (b6 && e.val != 6) (b7 && e.val != 7) : Int) := by decide +kernel
theorem tb8 : ∀ (b0 b1 b2 b3 b4 b5 b6 b7 : Bool) (e : Fin 8), (s8 b0 b1 b2 b3 b4 b5 b6 b7).testBit e.val = [b0, b1, b2, b3, b4, b5, b6, b7].getD e.val false := by decide +kernel

theorem eight {p : Nat → Prop} (h0 : p 0) (h1 : p 1) (h2 : p 2) (h3 : p 3) (h4 : p 4) (h5 : p 5) (h6 : p 6) (h7 : p 7) (e : Nat) (he : e < 8) : p e := by
  match e, he with
  | 0, _ => exact h0
  | 1, _ => exact h1
  | 2, _ => exact h2
  | 3, _ => exact h3
  | 4, _ => exact h4
  | 5, _ => exact h5
  | 6, _ => exact h6
  | 7, _ => exact h7
theorem by8_list (u : Nat → Bool) (j e : Nat) (he : e < 8) : [u (8 * j), u (8 * j + 1), u (8 * j + 2), u (8 * j + 3), u (8 * j + 4), u (8 * j + 5), u (8 * j + 6), u (8 * j + 7)].getD e false = u (8 * j + e) :=
  eight (p := fun e => [u (8 * j), u (8 * j + 1), u (8 * j + 2), u (8 * j + 3), u (8 * j + 4), u (8 * j + 5), u (8 * j + 6), u (8 * j + 7)].getD e false = u (8 * j + e)) rfl rfl rfl rfl rfl rfl rfl rfl e he
theorem by8_bit (u : Nat → Bool) (j e : Nat) (he : e < 8) : (by8 u j).testBit e = u (8 * j + e) := by
  have := tb8 (u (8 * j)) (u (8 * j + 1)) (u (8 * j + 2)) (u (8 * j + 3)) (u (8 * j + 4)) (u (8 * j + 5)) (u (8 * j + 6)) (u (8 * j + 7)) ⟨e, he⟩
  rw [by8_list u j e he] at this
  exact this
theorem by8_at (u : Nat → Bool) (k : Nat) : (by8 u (k / 8)).testBit (k % 8) = u k := by
  rw [by8_bit _ _ _ (by omega)]
  congr 1
  omega
theorem by8_eq {u v : Nat → Bool} {j : Nat} (h : ∀ e, e < 8 → u (8 * j + e) = v (8 * j + e)) : by8 u j = by8 v j := by
  unfold by8
  rw [← Nat.add_zero (8 * j), h 0 (by omega)]
  simp only [Nat.add_zero]
  rw [h 1 (by omega), h 2 (by omega), h 3 (by omega), h 4 (by omega), h 5 (by omega), h 6 (by omega), h 7 (by omega)]
theorem by8_inj {u v : Nat → Bool} {j : Nat} (h : by8 u j = by8 v j) (e : Nat) (he : e < 8) : u (8 * j + e) = v (8 * j + e) := by
  rw [← by8_bit u j e he, ← by8_bit v j e he, h]
theorem by8_of_bits (x : Nat) (hx : x < 256) (u : Nat → Bool) (j : Nat) (h : ∀ e, e < 8 → u (8 * j + e) = x.testBit e) : by8 u j = x := by
  apply Nat.eq_of_testBit_eq
  intro i
  by_cases hi : i < 8
  · rw [by8_bit u j i hi, h i hi]
  · rw [Nat.testBit_lt_two_pow (Nat.lt_of_lt_of_le (by8_lt u j) (Nat.pow_le_pow_right (n := 2) (i := 8) (by omega) (by omega))), Nat.testBit_lt_two_pow (Nat.lt_of_lt_of_le hx (Nat.pow_le_pow_right (n := 2) (i := 8) (by omega) (by omega)))]

theorem and_bit (u : Nat → Bool) (k : Nat) : bits .and .u8 (by8 u (k / 8) : Int) (pw k : Int) = if u k then (pw k : Int) else 0 := by
  have := and8 (u (8 * (k / 8))) (u (8 * (k / 8) + 1)) (u (8 * (k / 8) + 2)) (u (8 * (k / 8) + 3)) (u (8 * (k / 8) + 4)) (u (8 * (k / 8) + 5)) (u (8 * (k / 8) + 6)) (u (8 * (k / 8) + 7)) ⟨k % 8, by omega⟩
  rw [by8_list u (k / 8) (k % 8) (by omega), show 8 * (k / 8) + k % 8 = k by omega] at this
  exact this
theorem by8_upd_other (u : Nat → Bool) (k j : Nat) (v : Bool) (h : j ≠ k / 8) : by8 (upd u k v) j = by8 u j :=
  by8_eq fun e he => by unfold upd; rw [if_neg (by omega)]
theorem or_bit (u : Nat → Bool) (k : Nat) : bits .or .u8 (by8 u (k / 8) : Int) (pw k : Int) = (by8 (upd u k true) (k / 8) : Int) := by
  have := or8 (u (8 * (k / 8))) (u (8 * (k / 8) + 1)) (u (8 * (k / 8) + 2)) (u (8 * (k / 8) + 3)) (u (8 * (k / 8) + 4)) (u (8 * (k / 8) + 5)) (u (8 * (k / 8) + 6)) (u (8 * (k / 8) + 7)) ⟨k % 8, by omega⟩
  refine this.trans (congrArg (fun n : Nat => (n : Int)) ?_)
  have up : ∀ i, i < 8 → (u (8 * (k / 8) + i) || k % 8 == i) = upd u k true (8 * (k / 8) + i) := fun i hi => by
    unfold upd
    by_cases h : k % 8 = i
    · rw [if_pos (by omega), h, beq_self_eq_true, Bool.or_true]
    · rw [if_neg (by omega), beq_eq_false_iff_ne.2 h, Bool.or_false]
  unfold by8
  have h0 := up 0 (by omega)
  rw [Nat.add_zero] at h0
  rw [← h0, ← up 1 (by omega), ← up 2 (by omega), ← up 3 (by omega), ← up 4 (by omega), ← up 5 (by omega), ← up 6 (by omega), ← up 7 (by omega)]
theorem not_bit (u : Nat → Bool) (k : Nat) : bits .andNot .u8 (by8 u (k / 8) : Int) (pw k : Int) = (by8 (upd u k false) (k / 8) : Int) := by
  have := not8 (u (8 * (k / 8))) (u (8 * (k / 8) + 1)) (u (8 * (k / 8) + 2)) (u (8 * (k / 8) + 3)) (u (8 * (k / 8) + 4)) (u (8 * (k / 8) + 5)) (u (8 * (k / 8) + 6)) (u (8 * (k / 8) + 7)) ⟨k % 8, by omega⟩
  refine this.trans (congrArg (fun n : Nat => (n : Int)) ?_)
  have up : ∀ i, i < 8 → (u (8 * (k / 8) + i) && k % 8 != i) = upd u k false (8 * (k / 8) + i) := fun i hi => by
    unfold upd
    by_cases h : k % 8 = i
    · rw [if_pos (by omega), h, bne_self_eq_false, Bool.and_false]
    · rw [if_neg (by omega), bne_iff_ne.2 h, Bool.and_true]
  unfold by8
  have h0 := up 0 (by omega)
  rw [Nat.add_zero] at h0
  rw [← h0, ← up 1 (by omega), ← up 2 (by omega), ← up 3 (by omega), ← up 4 (by omega), ← up 5 (by omega), ← up 6 (by omega), ← up 7 (by omega)]
/-- A bit more. -/
theorem by8_more (u : Nat → Bool) (k : Nat) (h : u k = false) : by8 (upd u k true) (k / 8) = by8 u (k / 8) + pw k := by
  have key : ∀ (b0 b1 b2 b3 b4 b5 b6 b7 : Bool) (e : Fin 8), [b0, b1, b2, b3, b4, b5, b6, b7].getD e.val false = false → s8 (b0 || e.val == 0) (b1 || e.val == 1) (b2 || e.val == 2) (b3 || e.val == 3) (b4 || e.val == 4) (b5 || e.val == 5) (b6 || e.val == 6) (b7 || e.val == 7) = s8 b0 b1 b2 b3 b4 b5 b6 b7 + 2 ^ e.val := by decide +kernel
  have h1 := or_bit u k
  rw [show bits .or .u8 (by8 u (k / 8) : Int) (pw k : Int) = ((by8 u (k / 8) + pw k : Nat) : Int) from ?_] at h1
  · omega
  have h8 := or8 (u (8 * (k / 8))) (u (8 * (k / 8) + 1)) (u (8 * (k / 8) + 2)) (u (8 * (k / 8) + 3)) (u (8 * (k / 8) + 4)) (u (8 * (k / 8) + 5)) (u (8 * (k / 8) + 6)) (u (8 * (k / 8) + 7)) ⟨k % 8, by omega⟩
  rw [key _ _ _ _ _ _ _ _ _ (by
    have := by8_list u (k / 8) (k % 8) (by omega)
    rw [show 8 * (k / 8) + k % 8 = k by omega, h] at this
    exact this)] at h8
  exact h8
theorem upd_same (u : Nat → Bool) (k : Nat) (v : Bool) : upd u k v k = v := by unfold upd; rw [if_pos rfl]
theorem upd_other (u : Nat → Bool) {k i : Nat} (v : Bool) (h : i ≠ k) : upd u k v i = u i := by unfold upd; rw [if_neg h]
theorem upd_idem (u : Nat → Bool) {k : Nat} {v : Bool} (h : u k = v) : upd u k v = u := by
  funext i
  unfold upd
  split
  · next e => rw [e, h]
  · rfl

/-- Numbers below n only. -/
def Low (n : Nat) (u : Nat → Bool) : Prop := ∀ k, u k = true → k < n
theorem Low.none (n : Nat) : Low n fun _ => false := fun _ h => by cases h
theorem Low.upd {n : Nat} {u : Nat → Bool} (h : Low n u) {k : Nat} (hk : k < n) (v : Bool) : Low n (upd u k v) := fun i hi => by
  unfold Bt.upd at hi
  split at hi
  · next e => rw [e]; exact hk
  · exact h i hi
theorem Low.off {n : Nat} {u : Nat → Bool} (h : Low n u) {k : Nat} (hk : n ≤ k) : u k = false := by
  cases e : u k with
  | false => rfl
  | true => exact absurd (h k e) (by omega)
theorem by8_none (j : Nat) : by8 (fun _ => false) j = 0 := rfl
end Bt
end Go.Proofs.YtlechjpaldpgnaaGreatDoor
namespace Go.Proofs.YtlechjpaldpgnaaGreatDoor
open Go.ChangeShapes Go.WideShapes Go.ChangeAt Go.RowKit Bt

namespace Bt
def scell (n : Nat) (u : Nat → Bool) (i : Nat) : Value := if i = 0 then .int .i64 (n : Int) else .int .u8 (by8 u (i - 1) : Int)
/-- A set's block. -/
def sobj (n : Nat) (u : Nat → Bool) : Obj := .cells (vals 129 (scell n u)) 128 (0, 0)
theorem vals_set (m : Nat) (f : Nat → Value) (i : Nat) (v : Value) : (vals m f).setIfInBounds i v = vals m fun j => if j = i then v else f j := by
  apply Array.ext (by simp [vals])
  intro j h1 h2
  have hj : j < m := by simpa [vals] using h2
  rw [Array.getElem_setIfInBounds (by simpa [vals] using hj)]
  have e1 := vals_get m f j hj
  have e2 := vals_get m (fun j => if j = i then v else f j) j hj
  rw [Array.getElem?_eq_getElem (by simpa [vals] using hj)] at e1 e2
  rw [Option.some.inj e1, Option.some.inj e2]
  by_cases h : i = j
  · rw [if_pos h, if_pos h.symm]
  · rw [if_neg h, if_neg (fun e => h e.symm)]
section
variable {w w' : World} {b n : Nat} {u : Nat → Bool}
theorem sobj_n (h : w.heap[b]? = some (sobj n u)) : w.cell? ⟨b, 0, none⟩ = some (.int .i64 (n : Int)) := by rw [cell_of_row w b 0 _ _ _ h, vals_get _ _ _ (by omega)]; rfl
theorem sobj_byte (h : w.heap[b]? = some (sobj n u)) (j : Nat) (hj : j < 128) : w.cell? ⟨b, 1 + j, none⟩ = some (.int .u8 (by8 u j : Int)) := by
  rw [cell_of_row w b (1 + j) _ _ _ h, vals_get _ _ _ (by omega)]
  unfold scell
  rw [if_neg (by omega), show 1 + j - 1 = j by omega]
theorem sobj_fz (h : w.heap[b]? = some (sobj n u)) (j : Nat) : w.frozen? ⟨b, j, none⟩ = false := frozen_of_row w b j _ _ h
theorem sobj_lt (h : w.heap[b]? = some (sobj n u)) : b < w.heap.size := (Array.getElem?_eq_some_iff.1 h).1
theorem sobj_below (h : w.heap[b]? = some (sobj n u)) (hb : Below w.heap.size w w') : w'.heap[b]? = some (sobj n u) := (hb.block b (sobj_lt h)).trans h
theorem sobj_drewN (h : w.heap[b]? = some (sobj n u)) (k : Nat) : (w.drewN k).heap[b]? = some (sobj n u) := h
theorem sobj_put (h : w.heap[b]? = some (sobj n u)) (k : Nat) (v : Bool) : (w.setCell ⟨b, 1 + k / 8, none⟩ (.int .u8 (by8 (upd u k v) (k / 8) : Int))).heap[b]? = some (sobj n (upd u k v)) := by
  rw [heap_setCell_same w b (1 + k / 8) _ _ _ h, vals_set]
  unfold sobj
  congr 2
  refine vals_congr fun i hi => ?_
  by_cases h0 : i = 1 + k / 8
  · rw [if_pos h0, h0]
    unfold scell
    rw [if_neg (by omega), show 1 + k / 8 - 1 = k / 8 by omega]
  · rw [if_neg h0]
    unfold scell
    by_cases hz : i = 0
    · rw [if_pos hz, if_pos hz]
    · rw [if_neg hz, if_neg hz, by8_upd_other _ _ _ _ (by omega)]
end
/-- The bytes that m cells of a set's hold. -/
def bytesOf (u : Nat → Bool) (m : Nat) : List UInt8 := (List.range m).map fun j => UInt8.ofNat (by8 u j)
/-- How many bytes n bits have. -/
def szB (n : Nat) : Nat := (n + 7) / 8
/-- The text of a set. -/
def textB (n : Nat) (u : Nat → Bool) : ByteArray := ⟨(bytesOf u (szB n)).toArray⟩
theorem textB_size (n : Nat) (u : Nat → Bool) : (textB n u).size = szB n := by simp [textB, bytesOf, ByteArray.size]
theorem bytesOf_length (u : Nat → Bool) (m : Nat) : (bytesOf u m).length = m := by simp [bytesOf]
theorem bytesOf_get (u : Nat → Bool) (m j : Nat) (h : j < m) : (bytesOf u m)[j]? = some (UInt8.ofNat (by8 u j)) := by simp [bytesOf, h]
theorem byte_back (u : Nat → Bool) (j : Nat) : (UInt8.ofNat (by8 u j)).toNat = by8 u j := by
  rw [UInt8.toNat_ofNat', Nat.mod_eq_of_lt (by8_lt u j)]
/-- Sets of one length with the same bytes are the same. -/
theorem textB_inj {n : Nat} {u v : Nat → Bool} (hu : Low n u) (hv : Low n v) (h : textB n u = textB n v) : u = v := by
  have h1 : bytesOf u (szB n) = bytesOf v (szB n) := by
    unfold textB at h
    have := congrArg (fun b : ByteArray => b.data.toList) h
    simpa using this
  funext k
  by_cases hk : k < n
  · have hj : k / 8 < szB n := by unfold szB; omega
    have e1 := bytesOf_get u (szB n) (k / 8) hj
    have e2 := bytesOf_get v (szB n) (k / 8) hj
    rw [h1, e2] at e1
    have e3 := congrArg UInt8.toNat (Option.some.inj e1)
    rw [byte_back, byte_back] at e3
    have := by8_inj e3 (k % 8) (by omega)
    rw [show 8 * (k / 8) + k % 8 = k by omega] at this
    exact this.symm
  · rw [hu.off (by omega), hv.off (by omega)]
/-- Blocks of one length are the same when all their cells are. -/
theorem cells_inj {n m : Nat} {u v : Nat → Bool} (hn : n ≤ 1024) (hu : Low n u) (hv : Low n v) (h : vals 129 (scell n u) = vals 129 (scell m v)) : n = m ∧ u = v := by
  have at_ : ∀ i, i < 129 → scell n u i = scell m v i := fun i hi => by
    have e1 := vals_get 129 (scell n u) i hi
    rw [h, vals_get 129 (scell m v) i hi] at e1
    exact (Option.some.inj e1).symm
  have h0 := at_ 0 (by omega)
  unfold scell at h0
  rw [if_pos rfl, if_pos rfl] at h0
  injection h0 with _ h0
  refine ⟨by omega, ?_⟩
  funext k
  by_cases hk : k < n
  · have h1 := at_ (1 + k / 8) (by omega)
    unfold scell at h1
    rw [if_neg (by omega), if_neg (by omega), show 1 + k / 8 - 1 = k / 8 by omega] at h1
    injection h1 with _ h1
    have := by8_inj (show by8 u (k / 8) = by8 v (k / 8) by omega) (k % 8) (by omega)
    rw [show 8 * (k / 8) + k % 8 = k by omega] at this
    exact this
  · rw [hu.off (by omega), hv.off (by omega)]
end Bt
end Go.Proofs.YtlechjpaldpgnaaGreatDoor
namespace Go.Proofs.YtlechjpaldpgnaaGreatDoor
open Go.ChangeShapes Go.WideShapes Go.ChangeAt Go.RowKit Bt

theorem pw_int (k : Nat) : ((2 : Int) ^ (k % 8)) % 256 = (pw k : Int) := by
  have h := pw_le k
  have e : (2 : Int) ^ (k % 8) = ((2 ^ (k % 8) : Nat) : Int) := by simp
  unfold pw at *
  rw [e]
  generalize 2 ^ (k % 8) = p at h
  omega
theorem bits_bit (w : World) (k : Nat) : Calls Tryz.prog 68 #[.int .i64 (k : Int)] w fun e w' => e = .returned (.int .u8 (pw k : Int)) ∧ w = w' := by
  go_enter Tryz.func68, Tryz.ntmps68
  go_wp2
  refine bodyPost_ret (results_tmp rfl _ _ _) rfl ?_
  refine ⟨?_, rfl⟩
  rw [← pw_int]
  rfl
/-- Whether it is a number of so many. -/
def fitsB (n : Nat) (x : Int) : Bool := decide (0 ≤ x) && decide (x < (n : Int))
section
variable (w : World) (b n : Nat) (u : Nat → Bool) (hs : w.heap[b]? = some (sobj n u))
include hs
theorem bits_len : Calls Tryz.prog 71 #[.pointer (some ⟨b, 0, none⟩)] w fun e w' => e = .returned (.int .i64 (n : Int)) ∧ w = w' := by
  have c0 := sobj_n hs
  clear hs
  go_enter Tryz.func71, Tryz.ntmps71
  go_wp2
  go_ret
  exact ⟨rfl, rfl⟩
theorem bits_fits (x : Int) : Calls Tryz.prog 65 #[.pointer (some ⟨b, 0, none⟩), .int .i64 x] w fun e w' => e = .returned (.bool (fitsB n x)) ∧ w = w' := by
  have c0 := sobj_n hs
  clear hs
  unfold fitsB
  by_cases h0 : 0 ≤ x
  · have h0' : decide (0 ≤ x) = true := decide_eq_true h0
    rw [h0', Bool.true_and]
    go_enter Tryz.func65, Tryz.ntmps65
    go_wp2
    refine bodyPost_ret (results_tmp rfl _ _ _) rfl ?_
    exact ⟨rfl, rfl⟩
  · have h0' : decide (0 ≤ x) = false := decide_eq_false h0
    rw [h0', Bool.false_and]
    go_enter Tryz.func65, Tryz.ntmps65
    go_wp2
    refine bodyPost_ret (results_tmp rfl _ _ _) rfl ?_
    exact ⟨rfl, rfl⟩
set_option maxRecDepth 100000 in
set_option maxHeartbeats 1600000 in
theorem bits_has (k : Nat) (hk : k < 1024) : Calls Tryz.prog 66 #[.pointer (some ⟨b, 0, none⟩), .int .i64 (k : Int)] w fun e w' => e = .returned (.bool (u k)) ∧ ∃ m, w' = w.drewN m := by
  have c1 := sobj_byte hs (k / 8) (by omega)
  have hb := and_bit u k
  have p1 := pw_pos k
  have HB := Lib.hid (fun W : World => bits_bit W k)
  have k4 : k / 8 < 128 := by omega
  have k1 : (k : Int) / 8 = ((k / 8 : Nat) : Int) := by omega
  clear hs
  generalize (by8 u (k / 8) : Int) = X at c1 hb
  generalize k / 8 = j at k1 c1 k4
  have k2 : 0 ≤ (j : Int) := by omega
  have k3 : (j : Int) < 128 := by omega
  cases h : u k with
  | true =>
    rw [h, if_pos rfl] at hb
    have hz : ((pw k : Int) != 0) = true := bne_iff_ne.2 (by omega)
    clear p1
    generalize (pw k : Int) = P at HB hb hz
    go_enter Tryz.func66, Tryz.ntmps66
    go_wp2_with (fail)
    go_quiet ((go_at_call 68; exact quiet_here (HB.out _)))
    go_wp2
    refine bodyPost_ret (results_tmp rfl _ _ _) rfl ?_
    refine ⟨?_, _, rfl⟩
    rw [← hz]
    rfl
  | false =>
    rw [h, if_neg (by decide)] at hb
    clear p1
    generalize (pw k : Int) = P at HB hb
    go_enter Tryz.func66, Tryz.ntmps66
    go_wp2_with (fail)
    go_quiet ((go_at_call 68; exact quiet_here (HB.out _)))
    go_wp2
    refine bodyPost_ret (results_tmp rfl _ _ _) rfl ?_
    exact ⟨rfl, _, rfl⟩
end
theorem bits_len_nil (w : World) : Calls Tryz.prog 71 #[.pointer none] w fun e w' => e = .returned (.int .i64 0) ∧ w = w' := by
  go_enter Tryz.func71, Tryz.ntmps71
  go_wp2
  go_ret
  exact ⟨rfl, rfl⟩
theorem bits_new_not (w : World) (x : Int) (h : x < 1 ∨ 1024 < x) : Calls Tryz.prog 34 #[.int .i64 x] w fun e w' => e = .returned (.pointer none) ∧ w = w' := by
  by_cases h1 : x < 1
  · have t1 : decide (x < 1) = true := decide_eq_true h1
    clear h
    go_enter Tryz.func34, Tryz.ntmps34
    go_wp2
    refine bodyPost_ret (results_tmp rfl _ _ _) rfl ?_
    exact ⟨rfl, rfl⟩
  · have t1 : decide (x < 1) = false := decide_eq_false h1
    have h2 : 1024 < x := by omega
    have t2 : decide (1024 < x) = true := decide_eq_true h2
    clear h
    go_enter Tryz.func34, Tryz.ntmps34
    go_wp2
    refine bodyPost_ret (results_tmp rfl _ _ _) rfl ?_
    exact ⟨rfl, rfl⟩
set_option maxRecDepth 100000 in
theorem built_set (x : Int) : Tryz.prog.built 128 [(0, .int .i64 x)] = some (vals 129 fun i => if i = 0 then .int .i64 x else .int .u8 0) := by kernel_rfl
set_option maxRecDepth 100000 in
set_option maxHeartbeats 1600000 in
theorem bits_new (w : World) (n : Nat) (h1 : 1 ≤ n) (h2 : n ≤ 1024) : Calls Tryz.prog 34 #[.int .i64 (n : Int)] w fun e w' => ∃ b, e = .returned (.pointer (some ⟨b, 0, none⟩)) ∧ w.heap.size ≤ b ∧ w'.heap[b]? = some (sobj n fun _ => false) ∧ Below w.heap.size w w' := by
  have HB := Lib.hid (built_set (n : Int))
  rw [show (vals 129 fun i => if i = 0 then Value.int .i64 (n : Int) else .int .u8 0) = vals 129 (scell n fun _ => false) from vals_congr fun i _ => by
    unfold scell
    rfl] at HB
  have HF := Lib.hid (show sobj n (fun _ => false) = .cells (vals 129 (scell n fun _ => false)) 128 (0, 0) from rfl)
  have m1 : ¬ (n : Int) < 1 := by omega
  have m2 : ¬ 1024 < (n : Int) := by omega
  have t1 : decide ((n : Int) < 1) = false := decide_eq_false m1
  have t2 : decide (1024 < (n : Int)) = false := decide_eq_false m2
  clear h1 h2
  generalize vals 129 (scell n fun _ => false) = cs at HB HF
  generalize sobj n (fun _ => false) = o at HF ⊢
  go_enter Tryz.func34, Tryz.ntmps34
  go_wp2_with (first
    | (refine wpList_build_to rfl 128 #[(0, .tmp 9)] rfl [(0, .int .i64 (n : Int))] rfl _ HB.out ?_))
  refine bodyPost_ret (results_tmp rfl _ _ _) rfl ?_
  rw [HF.out]
  exact ⟨_, rfl, Nat.le_refl _, heap_alloc_new w _, (Below.refl _ _).alloc (Nat.le_refl _) _⟩
end Go.Proofs.YtlechjpaldpgnaaGreatDoor
namespace Go.Proofs.YtlechjpaldpgnaaGreatDoor
open Go.ChangeShapes Go.WideShapes Go.ChangeAt Go.RowKit Bt

/-- Numbers behind a slice. -/
def IntsInB (w : World) (A : Option Addr) (len : Nat) (xs : Nat → Int) : Prop := 0 < len → ∃ pb po, A = some ⟨pb, po, none⟩ ∧ ∀ k, k < len → w.cell? ⟨pb, po + k, none⟩ = some (.int .i64 (xs k))
theorem IntsInB.below {w w' : World} {A : Option Addr} {len : Nat} {xs : Nat → Int} (h : IntsInB w A len xs) (hb : Below w.heap.size w w') : IntsInB w' A len xs := fun h0 => by
  obtain ⟨pb, po, e, hc⟩ := h h0
  exact ⟨pb, po, e, fun k hk => (hb.cell (p := ⟨pb, po + k, none⟩) (block_lt_of_cell (hc k hk))).trans (hc k hk)⟩
theorem IntsInB.drewN {w : World} {A : Option Addr} {len : Nat} {xs : Nat → Int} (h : IntsInB w A len xs) (m : Nat) : IntsInB (w.drewN m) A len xs := h
namespace Bt
/-- Whether all of so many are numbers below n. -/
def allIn (n : Nat) (xs : Nat → Int) (len : Nat) : Bool := (List.range len).all fun k => fitsB n (xs k)
theorem allIn_next (n : Nat) (xs : Nat → Int) (k : Nat) : allIn n xs (k + 1) = (allIn n xs k && fitsB n (xs k)) := by
  unfold allIn; rw [List.range_succ, List.all_append]; simp
theorem allIn_not {n : Nat} {xs : Nat → Int} {k len : Nat} (hk : k < len) (h : fitsB n (xs k) = false) : allIn n xs len = false := by
  unfold allIn
  rw [List.all_eq_false]
  exact ⟨k, List.mem_range.2 hk, by rw [h]; decide⟩
theorem allIn_at {n : Nat} {xs : Nat → Int} {k len : Nat} (hk : k < len) (h : allIn n xs len = true) : fitsB n (xs k) = true := by
  unfold allIn at h
  exact List.all_eq_true.1 h k (List.mem_range.2 hk)
theorem fitsB_nat {n : Nat} {x : Int} (h : fitsB n x = true) : ∃ k : Nat, x = (k : Int) ∧ k < n := by
  unfold fitsB at h
  simp only [Bool.and_eq_true, decide_eq_true_eq] at h
  exact ⟨x.toNat, by omega, by omega⟩
theorem fitsB_of {n k : Nat} (h : k < n) : fitsB n (k : Int) = true := by
  unfold fitsB
  rw [decide_eq_true (by omega), decide_eq_true (by omega)]
  rfl
/-- What check says. -/
def chk (n : Nat) (xs : Nat → Int) (len : Nat) : Int := if allIn n xs len then 0 else 3
theorem chk_in {n : Nat} {xs : Nat → Int} {len : Nat} (h : allIn n xs len = true) : chk n xs len = 0 := by unfold chk; rw [if_pos h]
theorem chk_out {n : Nat} {xs : Nat → Int} {len : Nat} (h : allIn n xs len = false) : chk n xs len = 3 := by unfold chk; rw [h]; rfl
/-- Whether a number is there. -/
def isIn (n : Nat) (u : Nat → Bool) (x : Int) : Bool := fitsB n x && u x.toNat
/-- Whether all of so many are there. -/
def allAt (n : Nat) (u : Nat → Bool) (xs : Nat → Int) (len : Nat) : Bool := (List.range len).all fun k => isIn n u (xs k)
theorem allAt_next (n : Nat) (u : Nat → Bool) (xs : Nat → Int) (k : Nat) : allAt n u xs (k + 1) = (allAt n u xs k && isIn n u (xs k)) := by
  unfold allAt; rw [List.range_succ, List.all_append]; simp
theorem allAt_not {n : Nat} {u : Nat → Bool} {xs : Nat → Int} {k len : Nat} (hk : k < len) (h : isIn n u (xs k) = false) : allAt n u xs len = false := by
  unfold allAt
  rw [List.all_eq_false]
  exact ⟨k, List.mem_range.2 hk, by rw [h]; decide⟩
end Bt
section
variable (w : World) (b n : Nat) (u : Nat → Bool) (hs : w.heap[b]? = some (sobj n u)) (A : Option Addr) (len cap : Nat) (xs : Nat → Int) (hl : len < 9223372036854775807) (hA : IntsInB w A len xs)
include hs hl hA
set_option maxRecDepth 100000 in
set_option maxHeartbeats 1600000 in
theorem bits_check : Calls Tryz.prog 67 #[.pointer (some ⟨b, 0, none⟩), .slice A len cap] w fun e w' => e = .returned (.int .i64 (chk n xs len)) ∧ w = w' := by
  have HA := Lib.hid hA
  have HF := Lib.hid (fun x => bits_fits w b n u hs x)
  clear hA hs
  go_enter Tryz.func67, Tryz.ntmps67
  go_wp2_with (fail)
  go_loopw [11] (fun i wr => ∃ k : Nat, i = .int .i64 (k : Int) ∧ k ≤ len ∧ wr = w ∧ allIn n xs k = true) (fun i _ => match i with | .int _ k => len - k.toNat | _ => 0)
  case atStart => exact ⟨0, rfl, Nat.zero_le _, rfl, rfl⟩
  case round =>
    obtain ⟨k, rfl, hk, rfl, hall⟩ := hrel
    have HL := Lib.hid hall
    clear hall
    by_cases hlt : k < len
    · have x0 : (k : Int) < (len : Int) := by omega
      have x1 : decide ((k : Int) < (len : Int)) = true := decide_eq_true x0
      have x2 : 0 ≤ (k : Int) := by omega
      obtain ⟨pb, po, rfl, hc⟩ := HA.out (by omega)
      have hcell := hc k hlt
      have HFX := Lib.hid (HF.out (xs k))
      clear hc
      cases hf : fitsB n (xs k) with
      | true =>
        rw [hf] at HFX
        go_wp2_with (fail)
        refine HFX.out.mono ?_
        rintro e w2 ⟨rfl, rfl⟩
        go_wp2_with (fail)
        exact ⟨⟨k + 1, rfl, by omega, by trivial, by rw [allIn_next, HL.out, hf]; rfl⟩, by show len - ((k : Int) + 1).toNat < len - (k : Int).toNat; omega⟩
      | false =>
        rw [hf] at HFX
        have HV := Lib.hid (chk_out (allIn_not hlt hf))
        go_wp2_with (fail)
        refine HFX.out.mono ?_
        rintro e w2 ⟨rfl, rfl⟩
        go_wp2_with (fail)
        refine bodyPost_ret (results_tmp rfl _ _ _) rfl ?_
        rw [HV.out]
        exact ⟨rfl, rfl⟩
    · have hke : k = len := by omega
      subst hke
      have x0 : ¬ (k : Int) < (k : Int) := by omega
      have x1 : decide ((k : Int) < (k : Int)) = false := decide_eq_false x0
      clear hlt x0
      go_wp2_with (fail)
      refine bodyPost_ret (results_tmp rfl _ _ _) rfl ?_
      rw [chk_in HL.out]
      exact ⟨rfl, rfl⟩
set_option maxRecDepth 100000 in
set_option maxHeartbeats 1600000 in
theorem bits_Has (hn : n ≤ 1024) : Calls Tryz.prog 39 #[.pointer (some ⟨b, 0, none⟩), .slice A len cap] w fun e w' => e = .returned (.bool (allAt n u xs len)) ∧ ∃ m, w' = w.drewN m := by
  have HA := Lib.hid hA
  have HF := Lib.hid (fun m x => bits_fits (w.drewN m) b n u (sobj_drewN hs m) x)
  have HH := Lib.hid (fun m k hk => bits_has (w.drewN m) b n u (sobj_drewN hs m) k hk)
  clear hA hs
  go_enter Tryz.func39, Tryz.ntmps39
  go_wp2_with (fail)
  go_loopw [11] (fun i wr => ∃ k m : Nat, i = .int .i64 (k : Int) ∧ k ≤ len ∧ wr = w.drewN m ∧ allAt n u xs k = true) (fun i _ => match i with | .int _ k => len - k.toNat | _ => 0)
  case atStart => exact ⟨0, 0, rfl, Nat.zero_le _, rfl, rfl⟩
  case round =>
    obtain ⟨k, m, rfl, hk, rfl, hall⟩ := hrel
    have HL := Lib.hid hall
    clear hall
    by_cases hlt : k < len
    · have x0 : (k : Int) < (len : Int) := by omega
      have x1 : decide ((k : Int) < (len : Int)) = true := decide_eq_true x0
      have x2 : 0 ≤ (k : Int) := by omega
      obtain ⟨pb, po, rfl, hc⟩ := HA.out (by omega)
      have hcell : (w.drewN m).cell? ⟨pb, po + k, none⟩ = some (.int .i64 (xs k)) := hc k hlt
      have HFX := Lib.hid (HF.out m (xs k))
      clear hc
      cases hf : fitsB n (xs k) with
      | true =>
        rw [hf] at HFX
        obtain ⟨j, hj, hjn⟩ := fitsB_nat hf
        have HHX := Lib.hid (HH.out m j (by omega))
        have HI := Lib.hid (show isIn n u (xs k) = u j by unfold isIn; rw [hf, hj]; rfl)
        rw [hj] at hcell HFX
        clear HF HH hf hj
        cases hu : u j with
        | true =>
          rw [hu] at HHX HI
          go_wp2_with (fail)
          refine HFX.out.mono ?_
          rintro e w2 ⟨rfl, rfl⟩
          go_wp2_with (fail)
          refine HHX.out.mono ?_
          rintro e w2 ⟨rfl, m2, rfl⟩
          go_wp2_with (fail)
          exact ⟨⟨k + 1, m + m2, rfl, by omega, rfl, by rw [allAt_next, HL.out, HI.out]; rfl⟩, by show len - ((k : Int) + 1).toNat < len - (k : Int).toNat; omega⟩
        | false =>
          rw [hu] at HHX HI
          have HV := Lib.hid (allAt_not hlt HI.out)
          go_wp2_with (fail)
          refine HFX.out.mono ?_
          rintro e w2 ⟨rfl, rfl⟩
          go_wp2_with (fail)
          refine HHX.out.mono ?_
          rintro e w2 ⟨rfl, m2, rfl⟩
          go_wp2_with (fail)
          refine bodyPost_ret (results_tmp rfl _ _ _) rfl ?_
          rw [HV.out]
          exact ⟨rfl, m + m2, rfl⟩
      | false =>
        rw [hf] at HFX
        have HV := Lib.hid (allAt_not (u := u) hlt (show isIn n u (xs k) = false by unfold isIn; rw [hf]; rfl))
        go_wp2_with (fail)
        refine HFX.out.mono ?_
        rintro e w2 ⟨rfl, rfl⟩
        go_wp2_with (fail)
        refine bodyPost_ret (results_tmp rfl _ _ _) rfl ?_
        rw [HV.out]
        exact ⟨rfl, m, rfl⟩
    · have hke : k = len := by omega
      subst hke
      have x0 : ¬ (k : Int) < (k : Int) := by omega
      have x1 : decide ((k : Int) < (k : Int)) = false := decide_eq_false x0
      clear hlt x0
      go_wp2_with (fail)
      refine bodyPost_ret (results_tmp rfl _ _ _) rfl ?_
      rw [HL.out]
      exact ⟨rfl, m, rfl⟩
end
end Go.Proofs.YtlechjpaldpgnaaGreatDoor
namespace Go.Proofs.YtlechjpaldpgnaaGreatDoor
open Go.ChangeShapes Go.WideShapes Go.ChangeAt Go.RowKit Bt

namespace Bt
/-- The first number that isn't there; -1, if all are. -/
def fstB (n : Nat) (u : Nat → Bool) : Int := match (List.range n).find? fun k => !u k with
  | some k => (k : Int)
  | none => -1
theorem fstB_at {n : Nat} {u : Nat → Bool} {k : Nat} (hk : k < n) (h : u k = false) (hb : ∀ j, j < k → u j = true) : fstB n u = (k : Int) := by
  unfold fstB
  rw [show (List.range n).find? (fun k => !u k) = some k from List.find?_range_eq_some.2 ⟨by rw [h]; rfl, List.mem_range.2 hk, fun j hj => by rw [hb j hj]; rfl⟩]
theorem fstB_all {n : Nat} {u : Nat → Bool} (hb : ∀ j, j < n → u j = true) : fstB n u = -1 := by
  unfold fstB
  rw [show (List.range n).find? (fun k => !u k) = none from List.find?_range_eq_none.2 fun j hj => by rw [hb j hj]; rfl]
/-- Either it is the first that isn't there, or all are. -/
theorem fstB_or (n : Nat) (u : Nat → Bool) : (∃ k, k < n ∧ fstB n u = (k : Int) ∧ u k = false ∧ ∀ j, j < k → u j = true) ∨ fstB n u = -1 ∧ ∀ j, j < n → u j = true := by
  cases h : (List.range n).find? fun k => !u k with
  | none =>
    refine .inr ⟨by unfold fstB; rw [h], fun j hj => ?_⟩
    have := List.find?_range_eq_none.1 h j hj
    simpa using this
  | some k =>
    obtain ⟨h1, h2, h3⟩ := List.find?_range_eq_some.1 h
    refine .inl ⟨k, List.mem_range.1 h2, by unfold fstB; rw [h], by simpa using h1, fun j hj => by simpa using h3 j hj⟩
/-- So many of a list are there, or aren't. -/
def puts (v : Bool) (u : Nat → Bool) (xs : Nat → Int) : Nat → Nat → Bool
  | 0 => u
  | m + 1 => upd (puts v u xs m) (xs m).toNat v
theorem puts_next (v : Bool) (u : Nat → Bool) (xs : Nat → Int) (m : Nat) : puts v u xs (m + 1) = upd (puts v u xs m) (xs m).toNat v := rfl
theorem puts_low {n : Nat} {v : Bool} {u : Nat → Bool} {xs : Nat → Int} (hu : Low n u) : ∀ m, allIn n xs m = true → Low n (puts v u xs m)
  | 0, _ => hu
  | m + 1, h => by
    rw [allIn_next, Bool.and_eq_true] at h
    obtain ⟨k, hk, hkn⟩ := fitsB_nat h.2
    rw [puts_next]
    exact (puts_low hu m h.1).upd (by rw [hk]; exact hkn) v
end Bt
section
variable (w : World) (b n : Nat) (u : Nat → Bool) (hs : w.heap[b]? = some (sobj n u)) (hn : n ≤ 1024)
include hs hn
set_option maxRecDepth 100000 in
set_option maxHeartbeats 1600000 in
theorem bits_first : Calls Tryz.prog 44 #[.pointer (some ⟨b, 0, none⟩)] w fun e w' => e = .returned (.int .i64 (fstB n u)) ∧ ∃ m, w' = w.drewN m := by
  have HL := Lib.hid (bits_len w b n u hs)
  have HH := Lib.hid (fun m k hk => bits_has (w.drewN m) b n u (sobj_drewN hs m) k hk)
  clear hs
  go_enter Tryz.func44, Tryz.ntmps44
  go_wp2_with (fail)
  refine HL.out.mono ?_
  rintro e w2 ⟨rfl, rfl⟩
  go_wp2_with (fail)
  go_loopw [6] (fun i wr => ∃ k m : Nat, i = .int .i64 (k : Int) ∧ k ≤ n ∧ wr = w.drewN m ∧ ∀ j, j < k → u j = true) (fun i _ => match i with | .int _ k => n - k.toNat | _ => 0)
  case atStart => exact ⟨0, 0, rfl, Nat.zero_le _, rfl, fun j hj => by omega⟩
  case round =>
    obtain ⟨k, m, rfl, hk, rfl, hall⟩ := hrel
    have HA := Lib.hid hall
    clear hall
    by_cases hlt : k < n
    · have x0 : (k : Int) < (n : Int) := by omega
      have x1 : decide ((k : Int) < (n : Int)) = true := decide_eq_true x0
      have x2 : 0 ≤ (k : Int) := by omega
      have HHX := Lib.hid (HH.out m k (by omega))
      clear HH HL
      cases hu : u k with
      | true =>
        rw [hu] at HHX
        have HU := Lib.hid hu
        clear hu
        go_wp2_with (fail)
        refine HHX.out.mono ?_
        rintro e w2 ⟨rfl, m2, rfl⟩
        go_wp2_with (fail)
        exact ⟨⟨k + 1, m + m2, rfl, by omega, by trivial, fun j hj => (show j < k ∨ j = k by omega).elim (HA.out j) fun e => e ▸ HU.out⟩, by show n - ((k : Int) + 1).toNat < n - (k : Int).toNat; omega⟩
      | false =>
        rw [hu] at HHX
        have HV := Lib.hid (fstB_at hlt hu HA.out)
        clear hu
        go_wp2_with (fail)
        refine HHX.out.mono ?_
        rintro e w2 ⟨rfl, m2, rfl⟩
        go_wp2_with (fail)
        refine bodyPost_ret (results_tmp rfl _ _ _) rfl ?_
        rw [HV.out]
        exact ⟨rfl, m + m2, rfl⟩
    · have hke : k = n := by omega
      subst hke
      have HV := Lib.hid (fstB_all HA.out)
      have x0 : ¬ (k : Int) < (k : Int) := by omega
      have x1 : decide ((k : Int) < (k : Int)) = false := decide_eq_false x0
      clear hlt x0
      go_wp2_with (fail)
      refine bodyPost_ret (results_tmp rfl _ _ _) rfl ?_
      rw [HV.out]
      exact ⟨rfl, m, rfl⟩
variable (A : Option Addr) (len cap : Nat) (xs : Nat → Int) (hl : len < 9223372036854775807) (hA : IntsInB w A len xs)
include hl hA
set_option maxRecDepth 100000 in
set_option maxHeartbeats 3200000 in
theorem bits_Add (hi : allIn n xs len = true) (hne : 0 < len → ∀ a, A = some a → a.block ≠ b) : Calls Tryz.prog 40 #[.pointer (some ⟨b, 0, none⟩), .slice A len cap] w fun e w' => e = .returned (.int .i64 0) ∧ w'.heap[b]? = some (sobj n (puts true u xs len)) ∧ Only w w' b := by
  have HCK := Lib.hid (bits_check w b n u hs A len cap xs hl hA)
  rw [chk_in hi] at HCK
  have HA := Lib.hid hA
  have HI := Lib.hid (fun k (hk : k < len) => fitsB_nat (allIn_at hk hi))
  have HNE := Lib.hid hne
  have HS := Lib.hid hs
  have HB := Lib.hid bits_bit
  clear hs hA hi hne
  go_enter Tryz.func40, Tryz.ntmps40
  go_wp2_with (fail)
  refine HCK.out.mono ?_
  rintro e w2 ⟨rfl, rfl⟩
  clear HCK
  go_wp2_with (fail)
  go_loopw [16] (fun i wr => ∃ k : Nat, i = .int .i64 (k : Int) ∧ k ≤ len ∧ wr.heap[b]? = some (sobj n (puts true u xs k)) ∧ Only w wr b) (fun i _ => match i with | .int _ k => len - k.toNat | _ => 0)
  case atStart => exact ⟨0, rfl, Nat.zero_le _, HS.out, Only.refl _ _⟩
  case round =>
    clear HS
    obtain ⟨i, rfl, hk, hs, ho⟩ := hrel
    have HO := Lib.hid ho
    have HS := Lib.hid hs
    clear hs ho
    by_cases hlt : i < len
    · have x0 : (i : Int) < (len : Int) := by omega
      have x1 : decide ((i : Int) < (len : Int)) = true := decide_eq_true x0
      have x2 : 0 ≤ (i : Int) := by omega
      obtain ⟨pb, po, rfl, hc⟩ := HA.out (by omega)
      have hcell := (HO.out.cell (a := ⟨pb, po + i, none⟩) (block_lt_of_cell (hc i hlt)) (show pb ≠ b from HNE.out (by omega) ⟨pb, po, none⟩ rfl)).trans (hc i hlt)
      obtain ⟨k, hxk, hkn⟩ := HI.out i hlt
      have HX := Lib.hid hxk
      rw [hxk] at hcell
      clear hc hxk
      have hk1 : k < 1024 := Nat.lt_of_lt_of_le hkn hn
      have HP := Lib.hid (sobj_put HS.out k true)
      have c1 := sobj_byte HS.out (k / 8) (by omega)
      have f1 := sobj_fz HS.out (1 + k / 8)
      have hb := or_bit (puts true u xs i) k
      have HBK := Lib.hid (fun W => HB.out W k)
      have k4 : k / 8 < 128 := by omega
      have k1 : (k : Int) / 8 = ((k / 8 : Nat) : Int) := by omega
      clear hkn
      generalize (by8 (upd (puts true u xs i) k true) (k / 8) : Int) = Y at HP hb
      generalize (by8 (puts true u xs i) (k / 8) : Int) = X at c1 hb
      generalize k / 8 = j at k1 c1 f1 k4 HP
      generalize (pw k : Int) = P at hb HBK
      have k2 : 0 ≤ (j : Int) := by omega
      have k3 : (j : Int) < 128 := by omega
      have k5 : IntKind.i64.wrap (j : Int) = (j : Int) := IntWalk.i64_in _ (by omega)
      go_wp2_with (fail)
      go_still_tail 13, (by kernel_rfl)
      still_call ((HBK.out _).mono fun _ _ ⟨a, b⟩ => ⟨a, b.symm⟩)
      repeat still_step
      refine wpStill_nil ?_
      change wpList _ _ _ _ _ wr.drew
      have c1d : wr.drew.cell? ⟨b, 1 + j, none⟩ = some (.int .u8 X) := c1
      have f1d : wr.drew.frozen? ⟨b, 1 + j, none⟩ = false := f1
      have HPd := Lib.hid (show (wr.drew.setCell ⟨b, 1 + j, none⟩ (.int .u8 Y)).heap[b]? = some (sobj n (upd (puts true u xs i) k true)) from HP.out)
      have HOd := Lib.hid HO.out.drew
      clear c1 f1 HP HO HS hcell
      generalize wr.drew = w2 at c1d f1d HPd HOd ⊢
      go_wp2_with (fail)
      exact ⟨⟨i + 1, rfl, by omega, by rw [puts_next, HX.out]; exact HPd.out, HOd.out.setCell (.inl rfl) _⟩, by show len - ((i : Int) + 1).toNat < len - (i : Int).toNat; omega⟩
    · have hke : i = len := by omega
      subst hke
      have x0 : ¬ (i : Int) < (i : Int) := by omega
      have x1 : decide ((i : Int) < (i : Int)) = false := decide_eq_false x0
      clear hlt x0
      go_wp2_with (fail)
      refine bodyPost_ret (results_tmp rfl _ _ _) rfl ?_
      exact ⟨rfl, HS.out, HO.out⟩
omit hn in
set_option maxRecDepth 100000 in
theorem bits_Add_not (hi : allIn n xs len = false) : Calls Tryz.prog 40 #[.pointer (some ⟨b, 0, none⟩), .slice A len cap] w fun e w' => e = .returned (.int .i64 3) ∧ w = w' := by
  have HCK := Lib.hid (bits_check w b n u hs A len cap xs hl hA)
  rw [chk_out hi] at HCK
  clear hs hA hi
  go_enter Tryz.func40, Tryz.ntmps40
  go_wp2_with (fail)
  refine HCK.out.mono ?_
  rintro e w2 ⟨rfl, rfl⟩
  clear HCK
  go_wp2_with (fail)
  refine bodyPost_ret (results_tmp rfl _ _ _) rfl ?_
  exact ⟨rfl, rfl⟩
end
set_option maxRecDepth 100000 in
theorem bits_check_nil (w : World) (v : Value) : Calls Tryz.prog 67 #[.pointer none, v] w fun e w' => e = .returned (.int .i64 2) ∧ w = w' := by
  go_enter Tryz.func67, Tryz.ntmps67
  go_wp2_with (fail)
  refine bodyPost_ret (results_tmp rfl _ _ _) rfl ?_
  exact ⟨rfl, rfl⟩
set_option maxRecDepth 100000 in
theorem bits_Add_nil (w : World) (v : Value) : Calls Tryz.prog 40 #[.pointer none, v] w fun e w' => e = .returned (.int .i64 2) ∧ w = w' := by
  go_enter Tryz.func40, Tryz.ntmps40
  go_wp2_with (fail)
  refine (bits_check_nil _ _).mono ?_
  rintro e w2 ⟨rfl, rfl⟩
  go_wp2_with (fail)
  refine bodyPost_ret (results_tmp rfl _ _ _) rfl ?_
  exact ⟨rfl, rfl⟩
set_option maxRecDepth 100000 in
theorem bits_Has_nil (w : World) (v : Value) : Calls Tryz.prog 39 #[.pointer none, v] w fun e w' => e = .returned (.bool false) ∧ w = w' := by
  go_enter Tryz.func39, Tryz.ntmps39
  go_wp2_with (fail)
  refine bodyPost_ret (results_tmp rfl _ _ _) rfl ?_
  exact ⟨rfl, rfl⟩
set_option maxRecDepth 100000 in
theorem bits_first_nil (w : World) : Calls Tryz.prog 44 #[.pointer none] w fun e w' => e = .returned (.int .i64 (-1)) ∧ w = w' := by
  go_enter Tryz.func44, Tryz.ntmps44
  go_wp2_with (fail)
  refine (bits_len_nil _).mono ?_
  rintro e w2 ⟨rfl, rfl⟩
  go_wp2_with (fail)
  go_loopw [6] (fun i wr => i = .int .i64 0 ∧ wr = w) (fun _ _ => 0)
  case atStart => exact ⟨rfl, rfl⟩
  case round =>
    obtain ⟨rfl, rfl⟩ := hrel
    go_wp2_with (fail)
    refine bodyPost_ret (results_tmp rfl _ _ _) rfl ?_
    exact ⟨rfl, rfl⟩
set_option maxRecDepth 100000 in
theorem bits_row_nil (w : World) : Calls Tryz.prog 72 #[.pointer none] w fun e w' => e = .returned (.slice none 0 0) ∧ w = w' := by
  go_enter Tryz.func72, Tryz.ntmps72
  go_wp2_with (fail)
  refine (bits_len_nil _).mono ?_
  rintro e w2 ⟨rfl, rfl⟩
  go_wp2_with (fail)
  go_loopw [3, 7] (fun r i wr => r = .slice none 0 0 ∧ i = .int .i64 0 ∧ wr = w) (fun _ _ _ => 0)
  case atStart => exact ⟨rfl, rfl, rfl⟩
  case round =>
    obtain ⟨rfl, rfl, rfl⟩ := hrel
    go_wp2_with (fail)
    refine bodyPost_ret (results_tmp rfl _ _ _) rfl ?_
    exact ⟨rfl, rfl⟩
set_option maxRecDepth 100000 in
theorem bits_count_nil (w : World) : Calls Tryz.prog 45 #[.pointer none] w fun e w' => e = .returned (.int .i64 0) ∧ w = w' := by
  go_enter Tryz.func45, Tryz.ntmps45
  go_wp2_with (fail)
  refine (bits_row_nil _).mono ?_
  rintro e w2 ⟨rfl, rfl⟩
  go_wp2_with (fail)
  refine bodyPost_ret (results_tmp rfl _ _ _) rfl ?_
  exact ⟨rfl, rfl⟩
end Go.Proofs.YtlechjpaldpgnaaGreatDoor
namespace Go.Proofs.YtlechjpaldpgnaaGreatDoor
open Go.ChangeShapes Go.WideShapes Go.ChangeAt Go.RowKit Bt

namespace Bt
/-- The numbers below n that are there, rising. -/
def rowL (u : Nat → Bool) (n : Nat) : List Nat := (List.range n).filter u
theorem rowL_next (u : Nat → Bool) (n : Nat) : rowL u (n + 1) = if u n then rowL u n ++ [n] else rowL u n := by
  unfold rowL
  rw [List.range_succ, List.filter_append]
  cases h : u n <;> simp [h]
theorem rowL_length (u : Nat → Bool) (n : Nat) : (rowL u n).length ≤ n := by
  have := List.length_filter_le u (List.range n)
  rwa [List.length_range] at this
def rcells (l : List Nat) : List Value := l.map fun k : Nat => .int .i64 (k : Int)
theorem rcells_length (l : List Nat) : (rcells l).length = l.length := by simp [rcells]
theorem rcells_add (l : List Nat) (k : Nat) : rcells (l ++ [k]) = rcells l ++ [.int .i64 (k : Int)] := by simp [rcells]
theorem rcells_at (l : List Nat) (j : Nat) (h : j < l.length) : (rcells l)[j]? = some (.int .i64 (l.getD j 0 : Int)) := by simp [rcells, h]
theorem own_formB {w : World} {base : Nat} {e : TypeId} {size n : Nat} {v : Value} {xs : List Value} (h : w.ownsRow base e size v n xs) (hv : v ≠ .slice none 0 0) : ∃ g cap, v = .slice (some ⟨g, 0, none⟩) n cap ∧ base ≤ g := by
  rcases h.2 with ⟨hn, _⟩ | ⟨g, cap, cur, rfl, hb, _⟩
  · exact absurd hn hv
  · exact ⟨g, cap, rfl, hb⟩
/-- A row that one owns is a slice. -/
theorem own_sliceB {w : World} {base : Nat} {e : TypeId} {size n : Nat} {v : Value} {xs : List Value} (h : w.ownsRow base e size v n xs) : ∃ A cap, v = .slice A n cap := by
  rcases h.2 with ⟨hn, h0⟩ | ⟨g, cap, cur, rfl, hb, _⟩
  · exact ⟨none, 0, by rw [hn, h0]⟩
  · exact ⟨_, cap, rfl⟩
theorem own_belowB {w w' : World} {B : Nat} {base : Nat} {e : TypeId} {size n : Nat} {v : Value} {xs : List Value} (h : w.ownsRow base e size v n xs) (hb : Below B w w') (hB : w.heap.size ≤ B) : w'.ownsRow base e size v n xs := by
  refine ⟨h.1, ?_⟩
  rcases h.2 with hn | ⟨g, cap, cur, hv, h1, hg, r⟩
  · exact .inl hn
  · exact .inr ⟨g, cap, cur, hv, h1, (hb.block g (by have := (Array.getElem?_eq_some_iff.1 hg).1; omega)).trans hg, r⟩
theorem one_srcB (w : World) (c : Int) : ∀ j u, ([.int .i64 c] : List Value)[j]? = some u → (w.alloc (.cells #[.int .i64 c] 3)).cell? ((⟨w.heap.size, 0, none⟩ : Addr).add j) = some u := fun j u hj => by
  rw [Addr.add_lit, Nat.zero_add, cell_of_row _ _ _ _ _ _ (heap_alloc_new w _), ← hj]
  exact List.getElem?_toArray
theorem one_oneB (c : Int) : ∀ u ∈ ([.int .i64 c] : List Value), u.oneCell' = true := fun u hu => by
  obtain rfl := List.mem_singleton.1 hu
  rfl
theorem info_intB : (Tryz.prog.info? 3).map (fun i => (i.zero, i.size, i.bytes)) = some (some (.int .i64 0), 1, 8) := by kernel_rfl
/-- A row of numbers that one owns. -/
def RowSays (w : World) (L : List Nat) (e : Ending) (w' : World) : Prop := ∃ A cap, e = .returned (.slice A L.length cap) ∧ w'.ownsRow w.heap.size 3 1 (.slice A L.length cap) L.length (rcells L) ∧ Below w.heap.size w w'
end Bt
section
variable (w : World) (b n : Nat) (u : Nat → Bool) (hs : w.heap[b]? = some (sobj n u)) (hn : n ≤ 1024)
include hs hn
set_option maxRecDepth 100000 in
set_option maxHeartbeats 1600000 in
theorem bits_row : Calls Tryz.prog 72 #[.pointer (some ⟨b, 0, none⟩)] w (RowSays w (rowL u n)) := by
  have HLN := Lib.hid (bits_len w b n u hs)
  have HH := Lib.hid (fun (W : World) (hW : Below w.heap.size w W) k hk => bits_has W b n u (sobj_below hs hW) k hk)
  obtain ⟨i0, hi, hz0, hz1, hz2⟩ := info_parts info_intB
  have HI := Lib.hid hi
  have HZ0 := Lib.hid hz0
  have HZ1 := Lib.hid hz1
  have HZ2 := Lib.hid hz2
  clear hs hi hz0 hz1 hz2
  go_enter Tryz.func72, Tryz.ntmps72
  go_wp2_with (fail)
  refine HLN.out.mono ?_
  rintro e w2 ⟨rfl, rfl⟩
  go_wp2_with (fail)
  go_loopw [3, 7] (fun r i wr => ∃ (k : Nat) (A : Option Addr) (c : Nat), i = .int .i64 (k : Int) ∧ k ≤ n ∧ r = .slice A (rowL u k).length c ∧ wr.ownsRow w.heap.size 3 1 r (rowL u k).length (rcells (rowL u k)) ∧ Below w.heap.size w wr) (fun _ i _ => match i with | .int _ k => n - k.toNat | _ => 0)
  case atStart => exact ⟨0, none, 0, rfl, Nat.zero_le _, rfl, ⟨by rw [rcells_length, Nat.mul_one], .inl ⟨rfl, rfl⟩⟩, Below.refl _ _⟩
  case round =>
    obtain ⟨k, A, c, rfl, hk, rfl, hown, hb⟩ := hrel
    have HO := Lib.hid hown
    have HB := Lib.hid hb
    have HLE := Lib.hid (rowL_length u k)
    clear hown hb
    by_cases hlt : k < n
    · have x0 : (k : Int) < (n : Int) := by omega
      have x1 : decide ((k : Int) < (n : Int)) = true := decide_eq_true x0
      have x2 : 0 ≤ (k : Int) := by omega
      have HHX := Lib.hid (HH.out wr HB.out k (by omega))
      have HNX := Lib.hid (rowL_next u k)
      clear HH HLN
      cases hu : u k with
      | true =>
        rw [hu] at HHX HNX
        rw [if_pos rfl] at HNX
        generalize rowL u k = L at HO HLE HNX ⊢
        go_wp2_with (fail)
        refine HHX.out.mono ?_
        rintro e w2 ⟨rfl, m2, rfl⟩
        have HO2 := Lib.hid (show (wr.drewN m2).ownsRow w.heap.size 3 1 (.slice A L.length c) L.length (rcells L) from HO.out)
        have HB2 := Lib.hid (below_drewN HB.out m2)
        clear HO HB HHX
        generalize wr.drewN m2 = w3 at HO2 HB2 ⊢
        have hsz := HB2.out.size
        go_wp2_with (at_builtin; refine wpList_append_lies _ rfl (.tmp 13) (.tmp 15) 130 rfl w.heap.size 3 i0 _ 1 8 Tryz.underlying130 HI.out HZ0.out HZ1.out HZ2.out rfl (by omega) (.slice A L.length c) L.length _ rfl (HO2.out.alloc _) ⟨w3.heap.size, 0, none⟩ 1 1 [.int .i64 (k : Int)] rfl rfl (one_srcB w3 k) (one_oneB k) (by omega) (by unfold maxLen; have := HLE.out; omega) (by have := HLE.out; omega) (by simp; omega) _ rfl ?_; intro g4 c4 w4 hown4 hg4 hwh4 hl4)
        have HB4 := Lib.hid ((HB2.out.alloc hsz (.cells #[.int .i64 (k : Int)] 3)).grown hg4 (by simp; omega) (fun i hi => (HO2.out.lt i hi).1))
        rw [← rcells_add] at hown4
        have HO4 := Lib.hid hown4
        clear hown4 hg4 hwh4
        go_wp2_with (fail)
        refine ⟨⟨k + 1, _, c4, rfl, by omega, by rw [HNX.out, List.length_append, List.length_singleton], by rw [HNX.out, List.length_append, List.length_singleton]; exact HO4.out, HB4.out⟩, by show n - ((k : Int) + 1).toNat < n - (k : Int).toNat; omega⟩
      | false =>
        rw [hu] at HHX HNX
        rw [if_neg Bool.false_ne_true] at HNX
        go_wp2_with (fail)
        refine HHX.out.mono ?_
        rintro e w2 ⟨rfl, m2, rfl⟩
        go_wp2_with (fail)
        exact ⟨⟨k + 1, A, c, rfl, by omega, by rw [HNX.out], by rw [HNX.out]; exact HO.out, below_drewN HB.out m2⟩, by show n - ((k : Int) + 1).toNat < n - (k : Int).toNat; omega⟩
    · have hke : k = n := by omega
      subst hke
      have x0 : ¬ (k : Int) < (k : Int) := by omega
      have x1 : decide ((k : Int) < (k : Int)) = false := decide_eq_false x0
      clear hlt x0
      go_wp2_with (fail)
      refine bodyPost_ret (results_tmp rfl _ _ _) rfl ?_
      exact ⟨A, c, rfl, HO.out, HB.out⟩
set_option maxRecDepth 100000 in
theorem bits_count : Calls Tryz.prog 45 #[.pointer (some ⟨b, 0, none⟩)] w fun e w' => e = .returned (.int .i64 ((rowL u n).length : Int)) ∧ Below w.heap.size w w' := by
  have HR := Lib.hid (bits_row w b n u hs hn)
  clear hs hn
  generalize rowL u n = L at HR ⊢
  go_enter Tryz.func45, Tryz.ntmps45
  go_wp2_with (fail)
  refine HR.out.mono ?_
  rintro e w2 ⟨A, c, rfl, _, hb⟩
  go_wp2_with (fail)
  refine bodyPost_ret (results_tmp rfl _ _ _) rfl ?_
  exact ⟨rfl, hb⟩
end
end Go.Proofs.YtlechjpaldpgnaaGreatDoor
namespace Go.Proofs.YtlechjpaldpgnaaGreatDoor
open Go.ChangeShapes Go.WideShapes Go.ChangeAt Go.RowKit Bt

namespace Bt
def bcellsB (l : List UInt8) : List Value := l.map fun b => Value.int .u8 (b.toNat : Int)
theorem bcellsB_length (l : List UInt8) : (bcellsB l).length = l.length := by simp [bcellsB]
theorem foldl_pushB (ns : List UInt8) : ∀ r : ByteArray, ns.foldl (fun r b => r.push b) r = ⟨(r.data.toList ++ ns).toArray⟩ := by
  induction ns with
  | nil => intro r; simp
  | cons a ns ih =>
    intro r
    rw [List.foldl_cons, ih]
    simp [ByteArray.push]
theorem foldl_pushB_int (ns : List UInt8) (r : ByteArray) : (ns.map fun b => (b.toNat : Int)).foldl (fun r n => r.push (UInt8.ofNat n.toNat)) r = ns.foldl (fun r b => r.push b) r := by
  rw [List.foldl_map]
  congr 1
  funext r b
  rw [Int.toNat_natCast, UInt8.ofNat_toNat]
/-- A slice of bytes as a string. -/
theorem run_textB (w : World) (a : Addr) (n cap : Nat) (l : List UInt8) (hn : n = l.length) (h : ∀ j u, (bcellsB l)[j]? = some u → w.cell? (a.add j) = some u) :
    (convert 92 9 (.slice (some a) n cap)).run Tryz.prog w = .ok (.string ⟨l.toArray⟩) w := by
  subst hn
  rw [run_convert_bytes_string w _ _ 5 _ l.length cap Tryz.underlying92 Tryz.underlying5 Tryz.underlying9]
  have hl := run_loadCells_list (P := Tryz.prog) w a (bcellsB l) h
  have e : bcellsB l = (l.map fun b => (b.toNat : Int)).map (Value.int .u8) := by simp [bcellsB, List.map_map, Function.comp_def]
  rw [bcellsB_length] at hl
  rw [e] at hl
  rw [run_bytesToString w a l.length cap (l.map fun b => (b.toNat : Int)) hl, foldl_pushB_int, foldl_pushB]
  simp
theorem run_set_text {w : World} {b n : Nat} {u : Nat → Bool} (h : w.heap[b]? = some (sobj n u)) (hn : n ≤ 1024) (cap : Nat) :
    (convert 92 9 (.slice (some ⟨b, 1, none⟩) (szB n) cap)).run Tryz.prog w = .ok (.string (textB n u)) w := by
  refine run_textB w _ (szB n) cap (bytesOf u (szB n)) (bytesOf_length u _).symm fun j x hj => ?_
  have hl := (List.getElem?_eq_some_iff.1 hj).1
  rw [bcellsB_length, bytesOf_length] at hl
  rw [Addr.add_lit, sobj_byte h j (by unfold szB at hl; omega), ← hj]
  unfold bcellsB
  rw [List.getElem?_map, bytesOf_get u _ j hl]
  show _ = some (Value.int .u8 ((UInt8.ofNat (by8 u j)).toNat : Int))
  rw [byte_back]
end Bt
section
variable (w : World) (b n : Nat) (u : Nat → Bool) (hs : w.heap[b]? = some (sobj n u)) (hn : n ≤ 1024)
include hs hn
end
end Go.Proofs.YtlechjpaldpgnaaGreatDoor
namespace Go.Proofs.YtlechjpaldpgnaaGreatDoor
open Go.ChangeShapes Go.WideShapes Go.ChangeAt Go.RowKit Bt

namespace Bt
/-- The bits of a text. -/
def tb (t : ByteArray) (k : Nat) : Bool := (t.data.toList.getD (k / 8) 0).toNat.testBit (k % 8)
/-- Whether a bit behind the last of n numbers is there, in a text of n's size. -/
def overB (n : Nat) (t : ByteArray) : Bool := decide ((t.data.toList.getD (szB n - 1) 0).toNat / 2 ^ (n - (szB n - 1) * 8) ≠ 0)
theorem getD_at (t : ByteArray) (l : Nat) (h : l < t.size) : t.data.toList.getD l 0 = t[l]'h := by
  have hl : l < t.data.toList.length := h
  rw [List.getD_eq_getElem?_getD, List.getElem?_eq_getElem hl]
  rfl
theorem tb_by8 (t : ByteArray) (j : Nat) : by8 (tb t) j = (t.data.toList.getD j 0).toNat := by
  refine by8_of_bits _ (UInt8.toNat_lt _) _ _ fun e he => ?_
  unfold tb
  rw [show (8 * j + e) / 8 = j by omega, show (8 * j + e) % 8 = e by omega]
theorem tb_low {n : Nat} {t : ByteArray} (h1 : 1 ≤ n) (ht : t.size = szB n) (h : overB n t = false) : Low n (tb t) := fun k hk => by
  unfold tb at hk
  have hsz : t.data.toList.length = szB n := ht
  have hj : k / 8 < szB n := by
    rcases Nat.lt_or_ge (k / 8) (szB n) with h | h
    · exact h
    · rw [List.getD_eq_getElem?_getD, List.getElem?_eq_none (by omega)] at hk
      simp at hk
  rcases Nat.lt_or_ge k n with hlt | hge
  · exact hlt
  have hk8 : k / 8 = szB n - 1 := by unfold szB at *; omega
  unfold overB at h
  have h0 : (t.data.toList.getD (szB n - 1) 0).toNat / 2 ^ (n - (szB n - 1) * 8) = 0 := by simpa using h
  rw [hk8] at hk
  have hb := Nat.ge_two_pow_of_testBit hk
  have hle : 2 ^ (n - (szB n - 1) * 8) ≤ 2 ^ (k % 8) := Nat.pow_le_pow_right (by omega) (by omega)
  have := (Nat.div_eq_zero_iff).1 h0
  rcases this with h | h
  · have := Nat.pow_pos (n := n - (szB n - 1) * 8) (show 0 < 2 by omega); omega
  · omega
/-- Where bits behind the last number are there, no set has the text. -/
theorem tb_over {n : Nat} {t : ByteArray} (h1 : 1 ≤ n) (h : overB n t = true) : ∃ k, n ≤ k ∧ k < 8 * szB n ∧ tb t k = true := by
  unfold overB at h
  have h0 := of_decide_eq_true h
  have hx := UInt8.toNat_lt (t.data.toList.getD (szB n - 1) 0)
  have hs : 1 ≤ szB n := by unfold szB; omega
  generalize hX : (t.data.toList.getD (szB n - 1) 0).toNat = X at h0 hx
  obtain ⟨i, hi⟩ := Nat.exists_testBit_of_ne_zero h0
  rw [Nat.testBit_div_two_pow] at hi
  have hi8 : i + (n - (szB n - 1) * 8) < 8 := by
    rcases Nat.lt_or_ge (i + (n - (szB n - 1) * 8)) 8 with h | h
    · exact h
    · rw [Nat.testBit_lt_two_pow (Nat.lt_of_lt_of_le hx (Nat.pow_le_pow_right (n := 2) (i := 8) (by omega) h))] at hi
      cases hi
  refine ⟨8 * (szB n - 1) + (i + (n - (szB n - 1) * 8)), by omega, by omega, ?_⟩
  unfold tb
  rw [show (8 * (szB n - 1) + (i + (n - (szB n - 1) * 8))) / 8 = szB n - 1 by omega, show (8 * (szB n - 1) + (i + (n - (szB n - 1) * 8))) % 8 = i + (n - (szB n - 1) * 8) by omega, hX]
  exact hi
theorem text_tb {n : Nat} {t : ByteArray} (ht : t.size = szB n) : textB n (tb t) = t := by
  have hl : t.data.toList.length = szB n := ht
  have : bytesOf (tb t) (szB n) = t.data.toList := by
    apply List.ext_getElem?
    intro j
    by_cases hj : j < szB n
    · rw [bytesOf_get _ _ _ hj, tb_by8, List.getElem?_eq_getElem (by omega), List.getD_eq_getElem?_getD, List.getElem?_eq_getElem (by omega)]
      simp
    · rw [List.getElem?_eq_none (by rw [bytesOf_length]; omega), List.getElem?_eq_none (by omega)]
  unfold textB
  rw [this]
theorem tb_text {n : Nat} {u : Nat → Bool} (hu : Low n u) : tb (textB n u) = u := by
  funext k
  unfold tb textB
  show ((bytesOf u (szB n)).getD (k / 8) 0).toNat.testBit (k % 8) = u k
  rw [List.getD_eq_getElem?_getD]
  by_cases hk : k / 8 < szB n
  · rw [bytesOf_get _ _ _ hk]
    show (UInt8.ofNat (by8 u (k / 8))).toNat.testBit (k % 8) = u k
    rw [byte_back, by8_at]
  · rw [List.getElem?_eq_none (by rw [bytesOf_length]; omega), hu.off (by unfold szB at hk; omega)]
    simp
theorem over_text {n : Nat} {u : Nat → Bool} (h1 : 1 ≤ n) (hu : Low n u) : overB n (textB n u) = false := by
  cases h : overB n (textB n u) with
  | false => rfl
  | true =>
    obtain ⟨k, hk, _, h3⟩ := tb_over h1 h
    rw [tb_text hu] at h3
    exact absurd (hu k h3) (by omega)
/-- The builtin copy of a text into cells. -/
theorem run_copyB {P : Program} (w : World) (dT sT ty elem : TypeId) (b o dLen dCap : Nat) (q : ByteArray) (cs : List Value)
    (hu : P.underlying dT = some (.slice elem)) (hz : ∀ w, (Go.sizeOf elem).run P w = .ok 1 w) (ht : w.there b o cs.length)
    (hcs : cs = (q.data.toList.take (min q.size dLen)).map fun x => Value.int .u8 (x.toNat : Int)) (n : Nat) (hn : n = min q.size dLen) :
    (Builtin.copy_ #[dT, sT] ty #[.slice (some ⟨b, o, none⟩) dLen dCap, .string q]).run P w = .ok (goInt n) (w.setCells b o cs) := by
  subst hn
  have hst := run_storeCells_cells (P := P) b o cs 0 w (fun j hj => by simpa using (ht j hj).1) (fun j hj => by simpa using (ht j hj).2) (by
    intro v hv
    rw [hcs] at hv
    obtain ⟨x, _, rfl⟩ := List.mem_map.1 hv
    rfl)
  rw [Nat.add_zero] at hst
  have hmin : Nat.min q.size dLen = min q.size dLen := rfl
  simp [Builtin.copy_, run_underlying hu, Builtin.lenOf, Builtin.firstCells, hz, hmin]
  rw [← List.map_take, ← hcs, hst]
  rfl
theorem setCells_vals (b m : Nat) (t : TypeId) : ∀ (cs : List Value) (o : Nat) (f : Nat → Value) (w : World), w.heap[b]? = some (.cells (vals m f) t (0, 0)) →
    (w.setCells b o cs).heap[b]? = some (.cells (vals m fun i => if o ≤ i ∧ i < o + cs.length then cs.getD (i - o) (f i) else f i) t (0, 0))
  | [], o, f, w, h => by
    rw [World.setCells, h]
    congr 2
    exact vals_congr fun i _ => by rw [if_neg (by simp)]
  | v :: r, o, f, w, h => by
    rw [World.setCells, setCells_vals b m t r (o + 1) (fun j => if j = o then v else f j) _ (by rw [heap_setCell_same w b o _ _ _ h, vals_set])]
    congr 2
    refine vals_congr fun i _ => ?_
    by_cases h0 : i = o
    · subst h0
      rw [if_neg (by omega), if_pos rfl, if_pos ⟨Nat.le_refl _, by simp⟩, Nat.sub_self]
      rfl
    · rw [if_neg h0]
      by_cases h1 : o + 1 ≤ i ∧ i < o + 1 + r.length
      · rw [if_pos h1, if_pos ⟨by omega, by simp; omega⟩, show i - o = i - (o + 1) + 1 by omega]
        rfl
      · rw [if_neg h1, if_neg (by simp; omega)]
theorem setCells_sizeB (b : Nat) : ∀ (vs : List Value) (o : Nat) (w : World), (w.setCells b o vs).heap.size = w.heap.size
  | [], _, _ => rfl
  | v :: r, o, w => by rw [World.setCells, setCells_sizeB b r]; simp [World.setCell]
theorem setCells_belowB {B b : Nat} (hb : B ≤ b) {w0 : World} : ∀ (vs : List Value) (o : Nat) (w : World), Below B w0 w → Below B w0 (w.setCells b o vs)
  | [], _, _, h => h
  | v :: r, o, w, h => by rw [World.setCells]; exact setCells_belowB hb r (o + 1) _ (h.setCell (p := ⟨b, o, none⟩) hb v)
/-- What a text that is copied into a new set makes of it. -/
theorem sobj_copy {w : World} {b n : Nat} (h : w.heap[b]? = some (sobj n fun _ => false)) {t : ByteArray} :
    (w.setCells b 1 (bcellsB t.data.toList)).heap[b]? = some (sobj n (tb t)) := by
  rw [setCells_vals b 129 _ _ 1 _ w h]
  unfold sobj
  congr 2
  refine vals_congr fun i hi => ?_
  rw [bcellsB_length]
  by_cases h0 : i = 0
  · subst h0
    rw [if_neg (by omega)]
    rfl
  · unfold scell
    rw [if_neg h0, if_neg h0, tb_by8]
    by_cases h1 : 1 ≤ i ∧ i < 1 + t.data.toList.length
    · rw [if_pos h1]
      unfold bcellsB
      rw [List.getD_eq_getElem?_getD, List.getElem?_map, List.getD_eq_getElem?_getD, List.getElem?_eq_getElem (by omega)]
      rfl
    · rw [if_neg h1, List.getD_eq_getElem?_getD, List.getElem?_eq_none (by omega)]
      rfl
end Bt
section
variable (w : World) (n : Nat) (h1 : 1 ≤ n) (h2 : n ≤ 1024) (t : ByteArray) 
include h1 h2
end
end Go.Proofs.YtlechjpaldpgnaaGreatDoor
namespace Go.Proofs.YtlechjpaldpgnaaGreatDoor
open Go.ChangeShapes Go.WideShapes Go.ChangeAt Go.RowKit Bt

namespace Bt
/-- Whether two sets are the same. -/
def sameB (n : Nat) (u : Nat → Bool) (m : Nat) (v : Nat → Bool) : Bool := (n == m) && (List.range 128).all fun j => by8 u j == by8 v j
theorem sameB_self (n : Nat) (u : Nat → Bool) : sameB n u n u = true := by
  unfold sameB
  rw [beq_self_eq_true, Bool.true_and, List.all_eq_true]
  exact fun j _ => beq_self_eq_true _
theorem sameB_eq {n m : Nat} {u v : Nat → Bool} (hn : n ≤ 1024) (hu : Low n u) (hv : Low m v) (h : sameB n u m v = true) : n = m ∧ u = v := by
  unfold sameB at h
  rw [Bool.and_eq_true, List.all_eq_true, beq_iff_eq] at h
  obtain ⟨rfl, h⟩ := h
  refine ⟨rfl, ?_⟩
  funext k
  by_cases hk : k < n
  · have := by8_inj (beq_iff_eq.1 (h (k / 8) (List.mem_range.2 (by omega)))) (k % 8) (by omega)
    rwa [show 8 * (k / 8) + k % 8 = k by omega] at this
  · rw [hu.off (by omega), hv.off (by omega)]
theorem sameB_comm (n : Nat) (u : Nat → Bool) (m : Nat) (v : Nat → Bool) : sameB n u m v = sameB m v n u := by
  unfold sameB
  rw [Bool.beq_comm]
  congr 2
  funext j
  exact Bool.beq_comm
theorem sameB_not {n m : Nat} {u v : Nat → Bool} (h : n ≠ m) : sameB n u m v = false := by
  unfold sameB
  rw [beq_eq_false_iff_ne.2 h, Bool.false_and]
theorem info_u8B : (Tryz.prog.info? 5).map (fun i => (i.zero, i.size, i.bytes)) = some (some (.int .u8 0), 1, 1) := by kernel_rfl
def fieldsB : List (Bool × TypeId × Nat) := [(true, 3, 0), (true, 126, 1)]
set_option maxRecDepth 100000 in
theorem fields_set : (Tryz.prog.fieldsOf 128).toList.map (fun f => (f.name != "_", f.type, f.offset)) = fieldsB := by kernel_rfl
theorem run_part_n (n : Nat) (u : Nat → Bool) (w : World) : (part 3 (vals 129 (scell n u)) 0).run Tryz.prog w = .ok (.int .i64 (n : Int)) w := by
  have hg : (vals 129 (scell n u))[0]? = some (.int .i64 (n : Int)) := vals_get _ _ 0 (by omega)
  simp [part, go_sem, hg]
def rowB (u : Nat → Bool) : Array Value := vals 128 fun j => .int .u8 (by8 u j : Int)
theorem run_part_bytes (n : Nat) (u : Nat → Bool) (w : World) : (part 126 (vals 129 (scell n u)) 1).run Tryz.prog w = .ok (.agg (rowB u)) w := by
  have h1 : ∀ w, (isAgg 126).run Tryz.prog w = .ok true w := fun _ => by kernel_rfl
  have h2 : ∀ w, (Go.sizeOf 126).run Tryz.prog w = .ok 128 w := fun _ => by kernel_rfl
  have h3 : (vals 129 (scell n u)).extract 1 (1 + 128) = rowB u := by
    apply Array.ext (by simp [vals, rowB])
    intro j e1 e2
    have hj : j < 128 := by simpa [rowB, vals] using e2
    rw [Array.getElem_extract]
    have g1 := vals_get 129 (scell n u) (1 + j) (by omega)
    have g2 := vals_get 128 (fun j => Value.int .u8 (by8 u j : Int)) j hj
    rw [Array.getElem?_eq_getElem (by simpa [vals] using (show 1 + j < 129 by omega))] at g1
    rw [Array.getElem?_eq_getElem (by simpa [vals] using hj)] at g2
    refine (Option.some.inj g1).trans (Eq.trans ?_ (Option.some.inj g2).symm)
    unfold scell
    rw [if_neg (by omega), show 1 + j - 1 = j by omega]
  unfold part
  simp only [Sem.run_bind, h1, h2, Result.andThen_ok, if_true, Sem.run_pure, h3]
theorem run_part_byte (u : Nat → Bool) (i : Nat) (h : i < 128) (w : World) : (part 5 (rowB u) (i * 1)).run Tryz.prog w = .ok (.int .u8 (by8 u i : Int)) w := by
  have hg : (rowB u)[i]? = some (.int .u8 (by8 u i : Int)) := vals_get _ _ i h
  simp [part, go_sem, hg]
theorem nat_beq (a b : Nat) : ((a : Int) == (b : Int)) = (a == b) := by
  rw [Bool.eq_iff_iff, beq_iff_eq, beq_iff_eq]
  omega
theorem run_itemsB (u v : Nat → Bool) (w : World) : ∀ is : List Nat, (∀ i ∈ is, i < 128) → (Op.eqItems 9998 5 1 (rowB u) (rowB v) is).run Tryz.prog w = .ok (is.all fun i => by8 u i == by8 v i) w := by
  intro is
  induction is with
  | nil => intro _; rfl
  | cons i is ih =>
    intro h
    have hi := h i (by simp)
    have h2 := ih fun j hj => h j (by simp [hj])
    have h3 := run_equalIn_int (P := Tryz.prog) (w := w) 9997 5 .u8 .u8 (by8 u i : Int) (by8 v i : Int) Tryz.underlying5
    rw [nat_beq] at h3
    simp only [Op.eqItems, Sem.run_bind, run_part_byte u i hi, run_part_byte v i hi, Result.andThen_ok, h3]
    cases hb : (by8 u i == by8 v i)
    · simp [hb]
    · simp [hb, h2]
set_option maxRecDepth 100000 in
theorem run_eql_set (n : Nat) (u : Nat → Bool) (m : Nat) (v : Nat → Bool) (w : World) : (binOp .eql 128 (.agg (vals 129 (scell n u))) (.agg (vals 129 (scell m v)))).run Tryz.prog w = .ok (.bool (sameB n u m v)) w := by
  obtain ⟨i0, hi, _⟩ := info_parts info_u8B
  have hc : Tryz.prog.cellsOf 5 = 1 := by kernel_rfl
  have ht : Tryz.prog.underlying 128 = some (.struct (Tryz.prog.fieldsOf 128)) := by kernel_rfl
  have hp : Tryz.prog.stoodInHeld 128 = false := by kernel_rfl
  have hf := fields_set
  have h1 : ∀ w, (Op.equalIn 9999 126 (.agg (rowB u)) (.agg (rowB v))).run Tryz.prog w = .ok ((List.range 128).all fun i => by8 u i == by8 v i) w := fun w => by
    rw [run_equalIn_array (P := Tryz.prog) (w := w) 9998 (rowB u) (rowB v) Tryz.underlying126 hi, hc, run_itemsB u v w (List.range 128) (fun i hi => List.mem_range.1 hi)]
  have h0 : ∀ w, (Op.equalIn 9999 3 (.int .i64 (n : Int)) (.int .i64 (m : Int))).run Tryz.prog w = .ok (n == m) w := fun w => by
    have h3 := run_equalIn_int (P := Tryz.prog) (w := w) 9998 3 .i64 .i64 (n : Int) (m : Int) Tryz.underlying3
    rwa [nat_beq] at h3
  rw [run_eql_struct, run_equalIn_struct (P := Tryz.prog) w 9999 _ _ _ ht hp]
  generalize (Tryz.prog.fieldsOf 128).toList = fs at hf
  unfold fieldsB at hf
  obtain ⟨f0, fs, rfl, g0, hf⟩ := List.map_eq_cons_iff.1 hf
  obtain ⟨f1, fs, rfl, g1, hf⟩ := List.map_eq_cons_iff.1 hf
  obtain rfl := List.map_eq_nil_iff.1 hf
  simp only [Prod.mk.injEq, bne_iff_ne] at g0 g1
  obtain ⟨a0, a1, a2⟩ := g0
  obtain ⟨b0, b1, b2⟩ := g1
  unfold sameB
  simp only [Op.eqFields, a0, a1, a2, b0, b1, b2, ne_eq, not_false_eq_true, if_true, Sem.run_bind, run_part_n, Result.andThen_ok, h0]
  cases hb : (n == m)
  · simp
  · cases hall : ((List.range 128).all fun i => by8 u i == by8 v i) <;> simp [run_part_bytes, h1, hall]
theorem exec_eql_set (a : Act) (o : Oper) (x y : Operand) (z : TypeId) (ho : o.op = .binOp .eql 128 x y z) (n : Nat) (u : Nat → Bool) (m : Nat) (v : Nat → Bool) (hx : a.eval x = .agg (vals 129 (scell n u))) (hy : a.eval y = .agg (vals 129 (scell m v))) (W : World) :
    (execOp a.eval o).run Tryz.prog W = .ok (.value (.bool (sameB n u m v))) W := by
  have hn := run_eql_set n u m v W
  have hm : Tryz.prog.eqGuardType Tryz.prog.depth 128 = false := by kernel_rfl
  unfold execOp
  simp only [ho, hx, hy, Sem.run_bind, run_eqGuard_agg (P := Tryz.prog) (w := W) .eql _ x y _ _ hm, hn, Result.andThen_ok, Sem.run_pure]
theorem sobj_range {w : World} {b n : Nat} {u : Nat → Bool} (h : w.heap[b]? = some (sobj n u)) : w.rangeAt b 0 (vals 129 (scell n u)).toList := fun j v hj => by
  rw [Nat.zero_add, cell_of_row w b j _ _ _ h, ← hj]
  simp
/-- A load of many cells within a head that turns nothing. -/
theorem wpStill_load_midB {P : Program} {ops : Array Oper} {w : World} {Q : Act → Prop} {a : Act} {op : Oper} {rest : List Oper} (hw : Region.wanted op (yielded ops a.tmps) = true) (ty : TypeId) (x : Operand) (ho : op.op = .load ty x)
    (b o : Nat) (hx : a.eval x = .pointer (some ⟨b, o, none⟩)) (cs : List Value) (d : TypeDesc) (hc : w.rangeAt b o cs) (hu : P.underlying ty = some d) (hd : d.isRow = true) (hi : (P.info? ty).map (·.size) = some cs.length)
    (h : wpStill P ops w Q rest (a.put op.dst (.agg cs.toArray))) : wpStill P ops w Q (op :: rest) a := by
  refine wpStill_step (fun K hK => ?_)
  rw [if_pos hw]
  have hr : (execOp a.eval op).run P w = .ok (.value (.agg cs.toArray)) w := by
    unfold execOp
    simp only [ho, hx, Instr.loadAt, Instr.sureAddr, Sem.run_bind, Sem.run_pure, Result.andThen_ok, run_loadVar_mid w b o ty cs d hc hu hd hi]
  unfold Oper.still
  rw [hr]
  exact ⟨rfl, hK _ h⟩
/-- The comparison of two sets, at a plain region's list. -/
theorem wpList_eql_set {ops : Array Oper} {rest : List Oper} {o : Oper} {act : Act} {w : World} {Q : Exit → Act → World → Prop} (hg : o.guard = none) (x y : Operand) (z : TypeId) (ho : o.op = .binOp .eql 128 x y z) (n : Nat) (u : Nat → Bool) (m : Nat) (v : Nat → Bool)
    (hx : act.eval x = .agg (vals 129 (scell n u))) (hy : act.eval y = .agg (vals 129 (scell m v))) (h : wpList Tryz.prog ops Q rest (act.put o.dst (.bool (sameB n u m v))) w) : wpList Tryz.prog ops Q (o :: rest) act w :=
  wpList_plain hg fun K hK => by
    have he := exec_eql_set act o x y z ho n u m v hx hy w
    unfold Oper.wp Oper.upon
    rw [he]
    exact hK _ _ h
end Bt
end Go.Proofs.YtlechjpaldpgnaaGreatDoor
namespace Go.Proofs.YtlechjpaldpgnaaGreatDoor
open Go.ChangeShapes Go.WideShapes Go.ChangeAt Go.RowKit Bt

namespace Bt
/-- A set stands in a block that wasn't there at the beginning. -/
structure Stands (w0 w : World) (b n : Nat) (u : Nat → Bool) : Prop where
  blk : w.heap[b]? = some (sobj n u)
  new : w0.heap.size ≤ b
  below : Below w0.heap.size w0 w
namespace Stands
variable {w0 w w' : World} {b n : Nat} {u v : Nat → Bool}
theorem lt (h : Stands w0 w b n u) : b < w.heap.size := sobj_lt h.blk
theorem size (h : Stands w0 w b n u) : w0.heap.size ≤ w.heap.size := h.below.size
theorem step (h : Stands w0 w b n u) (hb : Below w.heap.size w w') : Stands w0 w' b n u := ⟨sobj_below h.blk hb, h.new, h.below.trans (hb.mono h.below.size)⟩
theorem drewN (h : Stands w0 w b n u) (k : Nat) : Stands w0 (w.drewN k) b n u := h.step (below_drewN (Below.refl _ _) k)
theorem drew (h : Stands w0 w b n u) : Stands w0 w.drew b n u := h.drewN 1
theorem alloc (h : Stands w0 w b n u) (o : Obj) : Stands w0 (w.alloc o) b n u := h.step ((Below.refl _ _).alloc (Nat.le_refl _) o)
theorem only (h : Stands w0 w b n u) (hs : w'.heap[b]? = some (sobj n v)) (ho : Only w w' b) : Stands w0 w' b n v := ⟨hs, h.new, h.below.trans (ho.below h.new h.below.size)⟩
/-- Beside another block that turns. -/
theorem beside (h : Stands w0 w b n u) {c : Nat} (ho : Only w w' c) (hc : w0.heap.size ≤ c) (hne : b ≠ c) : Stands w0 w' b n u := ⟨(ho.block b h.lt hne).trans h.blk, h.new, h.below.trans (ho.below hc h.below.size)⟩
end Stands
theorem ints1 (w : World) (x : Int) : IntsInB (w.alloc (.cells #[.int .i64 x] 3)) (some ⟨w.heap.size, 0, none⟩) 1 fun _ => x := fun _ => ⟨_, _, rfl, fun k hk => by
  obtain rfl : k = 0 := by omega
  exact cell_of_row _ _ 0 _ _ _ (heap_alloc_new w _)⟩
def two (x y : Int) (k : Nat) : Int := if k = 0 then x else y
theorem ints2 (w : World) (x y : Int) : IntsInB (w.alloc (.cells #[.int .i64 x, .int .i64 y] 3)) (some ⟨w.heap.size, 0, none⟩) 2 (two x y) := fun _ => ⟨_, _, rfl, fun k hk => by
  rcases (show k = 0 ∨ k = 1 by omega) with rfl | rfl
  · exact cell_of_row _ _ 0 _ _ _ (heap_alloc_new w _)
  · exact cell_of_row _ _ 1 _ _ _ (heap_alloc_new w _)⟩
theorem intsNone (w : World) (A : Option Addr) (xs : Nat → Int) : IntsInB w A 0 xs := fun h => absurd h (by omega)
theorem allIn_one {n : Nat} {x : Int} (h : fitsB n x = true) : allIn n (fun _ => x) 1 = true := by
  unfold allIn
  simp [List.range, List.range.loop, h]
theorem allAt_one (n : Nat) (u : Nat → Bool) (x : Int) : allAt n u (fun _ => x) 1 = isIn n u x := by
  unfold allAt
  simp [List.range, List.range.loop]
theorem isIn_nat {n k : Nat} (u : Nat → Bool) (h : k < n) : isIn n u (k : Int) = u k := by
  unfold isIn
  rw [fitsB_of h]
  rfl
theorem puts_one (v : Bool) (u : Nat → Bool) (k : Nat) : puts v u (fun _ => (k : Int)) 1 = upd u k v := rfl
section
variable {w0 w : World} {b n : Nat} {u : Nat → Bool}
theorem newSet (hb : Below w0.heap.size w0 w) (h1 : 1 ≤ n) (h2 : n ≤ 1024) : Calls Tryz.prog 34 #[.int .i64 (n : Int)] w fun e w' => ∃ b, e = .returned (.pointer (some ⟨b, 0, none⟩)) ∧ w.heap.size ≤ b ∧ Stands w0 w' b n (fun _ => false) ∧ Below w.heap.size w w' :=
  (bits_new w n h1 h2).mono fun _ _ ⟨b, he, hbb, hs, hB⟩ => ⟨b, he, hbb, ⟨hs, Nat.le_trans hb.size hbb, hb.trans (hB.mono hb.size)⟩, hB⟩
namespace Stands
/-- A list of one number, made for a call: added. -/
theorem add1 (h : Stands w0 w b n u) (hn : n ≤ 1024) {k : Nat} (hk : k < n) : Calls Tryz.prog 40 #[.pointer (some ⟨b, 0, none⟩), .slice (some ⟨w.heap.size, 0, none⟩) 1 1] (w.alloc (.cells #[.int .i64 (k : Int)] 3)) fun e w' => e = .returned (.int .i64 0) ∧ Stands w0 w' b n (upd u k true) ∧ Only w w' b := by
  have h1 := h.alloc (.cells #[.int .i64 (k : Int)] 3)
  refine (bits_Add _ b n u h1.blk hn _ 1 1 (fun _ => (k : Int)) (by omega) (ints1 w k) (allIn_one (fitsB_of hk)) (fun _ a ha => ?_)).mono ?_
  · injection ha with ha
    rw [← ha]
    have := h.lt
    show w.heap.size ≠ b
    omega
  · rintro e w' ⟨rfl, hs, ho⟩
    exact ⟨rfl, h1.only hs ho, ((Only.refl w b).alloc _).trans ho⟩
theorem has1 (h : Stands w0 w b n u) (hn : n ≤ 1024) {k : Nat} (hk : k < n) : Calls Tryz.prog 39 #[.pointer (some ⟨b, 0, none⟩), .slice (some ⟨w.heap.size, 0, none⟩) 1 1] (w.alloc (.cells #[.int .i64 (k : Int)] 3)) fun e w' => e = .returned (.bool (u k)) ∧ Stands w0 w' b n u ∧ Below w.heap.size w w' := by
  have h1 := h.alloc (.cells #[.int .i64 (k : Int)] 3)
  refine (bits_Has _ b n u h1.blk _ 1 1 (fun _ => (k : Int)) (by omega) (ints1 w k) hn).mono ?_
  rintro e w' ⟨rfl, m, rfl⟩
  rw [allAt_one, isIn_nat u hk]
  exact ⟨rfl, h1.drewN m, below_drewN ((Below.refl _ _).alloc (Nat.le_refl _) _) m⟩
theorem count (h : Stands w0 w b n u) (hn : n ≤ 1024) : Calls Tryz.prog 45 #[.pointer (some ⟨b, 0, none⟩)] w fun e w' => e = .returned (.int .i64 ((rowL u n).length : Int)) ∧ Stands w0 w' b n u ∧ Below w.heap.size w w' :=
  (bits_count w b n u h.blk hn).mono fun _ _ ⟨he, hb⟩ => ⟨he, h.step hb, hb⟩
theorem row (h : Stands w0 w b n u) (hn : n ≤ 1024) : Calls Tryz.prog 72 #[.pointer (some ⟨b, 0, none⟩)] w fun e w' => RowSays w (rowL u n) e w' ∧ Stands w0 w' b n u :=
  (bits_row w b n u h.blk hn).mono fun _ _ hr => ⟨hr, by obtain ⟨_, _, _, _, hb⟩ := hr; exact h.step hb⟩
theorem first (h : Stands w0 w b n u) (hn : n ≤ 1024) : Calls Tryz.prog 44 #[.pointer (some ⟨b, 0, none⟩)] w fun e w' => e = .returned (.int .i64 (fstB n u)) ∧ Stands w0 w' b n u ∧ Below w.heap.size w w' :=
  (bits_first w b n u h.blk hn).mono fun _ _ ⟨he, m, hw⟩ => ⟨he, by rw [hw]; exact h.drewN m, by rw [hw]; exact below_drewN (Below.refl _ _) m⟩
theorem len (h : Stands w0 w b n u) : Calls Tryz.prog 71 #[.pointer (some ⟨b, 0, none⟩)] w fun e w' => e = .returned (.int .i64 (n : Int)) ∧ Stands w0 w' b n u ∧ Below w.heap.size w w' :=
  (bits_len w b n u h.blk).mono fun _ _ ⟨he, hw⟩ => ⟨he, by rw [← hw]; exact h, by rw [← hw]; exact Below.refl _ _⟩
end Stands
end
end Bt
end Go.Proofs.YtlechjpaldpgnaaGreatDoor
namespace Go.Proofs.YtlechjpaldpgnaaGreatDoor
open Go.ChangeShapes Go.WideShapes Go.ChangeAt Go.RowKit Bt

namespace Bt
/-- How many of the numbers below n are there. -/
def cnt (u : Nat → Bool) (n : Nat) : Nat := (rowL u n).length
theorem cnt_next (u : Nat → Bool) (n : Nat) : cnt u (n + 1) = cnt u n + (u n).toNat := by
  unfold cnt
  rw [rowL_next]
  cases h : u n <;> simp
theorem cnt_le (u : Nat → Bool) (n : Nat) : cnt u n ≤ n := rowL_length u n
theorem cnt_upd_out (u : Nat → Bool) {k : Nat} (v : Bool) : ∀ n, n ≤ k → cnt (upd u k v) n = cnt u n
  | 0, _ => rfl
  | n + 1, h => by rw [cnt_next, cnt_next, cnt_upd_out u v n (by omega), upd_other u v (by omega)]
theorem cnt_more (u : Nat → Bool) {k : Nat} (hu : u k = false) : ∀ n, k < n → cnt (upd u k true) n = cnt u n + 1
  | n + 1, h => by
    rw [cnt_next, cnt_next]
    by_cases hk : k = n
    · subst hk
      rw [cnt_upd_out u true k (Nat.le_refl _), upd_same, hu]
      rfl
    · rw [cnt_more u hu n (by omega), upd_other u true (fun e => hk e.symm)]
      omega
theorem cnt_all {u : Nat → Bool} : ∀ n, (∀ j, j < n → u j = true) → cnt u n = n
  | 0, _ => rfl
  | n + 1, h => by
    rw [cnt_next, cnt_all n (fun j hj => h j (by omega)), h n (by omega)]
    rfl
theorem cnt_lt {u : Nat → Bool} {k n : Nat} (hk : k < n) (hu : u k = false) : cnt u n < n := by
  have h1 := cnt_more u hu n hk
  have h2 := cnt_le (upd u k true) n
  omega
theorem wrap_u64_ge (x : Int) : 0 ≤ IntKind.u64.wrap x := by
  simp [IntKind.wrap, IntKind.bits, IntKind.signed]
  omega
theorem cut_u64 (x : Int) (n : Nat) (hn : 0 < n) : ∃ i : Nat, i < n ∧ IntKind.u64.wrap x % (n : Int) = (i : Int) := by
  have h1 := Int.emod_nonneg (IntKind.u64.wrap x) (show (n : Int) ≠ 0 by omega)
  have h2 := Int.emod_lt_of_pos (IntKind.u64.wrap x) (show (0 : Int) < (n : Int) by omega)
  exact ⟨(IntKind.u64.wrap x % (n : Int)).toNat, by omega, by omega⟩
end Bt
end Go.Proofs.YtlechjpaldpgnaaGreatDoor
