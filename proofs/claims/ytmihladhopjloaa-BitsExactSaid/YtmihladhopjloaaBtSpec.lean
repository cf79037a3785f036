/-
  A set's own block: its number, and its bytes. No program's function here. No conditions.
-/
import Derived.Test.YtmihladhopjloaaBtMath
import Derived.Laws.Rows
namespace Go.Proofs.Ytmihladhopjloaa
open Go.ChangeShapes Go.WideShapes Go.ChangeAt Go.RowKit Bt

namespace Bt
def scell (n : Nat) (u : Nat → Bool) (i : Nat) : Value := if i = 0 then .int .i64 (n : Int) else .int .u8 (by8 u (i - 1) : Int)
/-- A set's block. -/
def sobj (n : Nat) (u : Nat → Bool) : Obj := .cells (vals 129 (scell n u)) 50 (0, 0)
theorem vals_set (m : Nat) (f : Nat → Value) (i : Nat) (v : Value) : (vals m f).setIfInBounds i v = vals m fun j => if j = i then v else f j := by
  apply Array.ext (by simp [vals])
  intro j h1 h2
  have hj : j < m := by simpa [vals] using h2
  rw [Array.getElem_setIfInBounds (by simpa [vals] using hj)]
  have e1 := vals_get m f j hj
  have e2 := vals_get m (fun j => if j = i then v else f j) j hj
  rw [Array.getElem?_eq_getElem (by simpa [vals] using hj)] at e1 e2
  rw [Option.some.inj e1, Option.some.inj e2]
  by_cases h : i = j
  · rw [if_pos h, if_pos h.symm]
  · rw [if_neg h, if_neg (fun e => h e.symm)]
section
variable {w w' : World} {b n : Nat} {u : Nat → Bool}
theorem sobj_n (h : w.heap[b]? = some (sobj n u)) : w.cell? ⟨b, 0, none⟩ = some (.int .i64 (n : Int)) := by rw [cell_of_row w b 0 _ _ _ h, vals_get _ _ _ (by omega)]; rfl
theorem sobj_byte (h : w.heap[b]? = some (sobj n u)) (j : Nat) (hj : j < 128) : w.cell? ⟨b, 1 + j, none⟩ = some (.int .u8 (by8 u j : Int)) := by
  rw [cell_of_row w b (1 + j) _ _ _ h, vals_get _ _ _ (by omega)]
  unfold scell
  rw [if_neg (by omega), show 1 + j - 1 = j by omega]
theorem sobj_fz (h : w.heap[b]? = some (sobj n u)) (j : Nat) : w.frozen? ⟨b, j, none⟩ = false := frozen_of_row w b j _ _ h
theorem sobj_lt (h : w.heap[b]? = some (sobj n u)) : b < w.heap.size := (Array.getElem?_eq_some_iff.1 h).1
theorem sobj_below (h : w.heap[b]? = some (sobj n u)) (hb : Below w.heap.size w w') : w'.heap[b]? = some (sobj n u) := (hb.block b (sobj_lt h)).trans h
theorem sobj_drewN (h : w.heap[b]? = some (sobj n u)) (k : Nat) : (w.drewN k).heap[b]? = some (sobj n u) := h
theorem sobj_put (h : w.heap[b]? = some (sobj n u)) (k : Nat) (v : Bool) : (w.setCell ⟨b, 1 + k / 8, none⟩ (.int .u8 (by8 (upd u k v) (k / 8) : Int))).heap[b]? = some (sobj n (upd u k v)) := by
  rw [heap_setCell_same w b (1 + k / 8) _ _ _ h, vals_set]
  unfold sobj
  congr 2
  refine vals_congr fun i hi => ?_
  by_cases h0 : i = 1 + k / 8
  · rw [if_pos h0, h0]
    unfold scell
    rw [if_neg (by omega), show 1 + k / 8 - 1 = k / 8 by omega]
  · rw [if_neg h0]
    unfold scell
    by_cases hz : i = 0
    · rw [if_pos hz, if_pos hz]
    · rw [if_neg hz, if_neg hz, by8_upd_other _ _ _ _ (by omega)]
end
/-- The bytes that m cells of a set's hold. -/
def bytesOf (u : Nat → Bool) (m : Nat) : List UInt8 := (List.range m).map fun j => UInt8.ofNat (by8 u j)
/-- How many bytes n bits have. -/
def szB (n : Nat) : Nat := (n + 7) / 8
/-- The text of a set. -/
def textB (n : Nat) (u : Nat → Bool) : ByteArray := ⟨(bytesOf u (szB n)).toArray⟩
theorem textB_size (n : Nat) (u : Nat → Bool) : (textB n u).size = szB n := by simp [textB, bytesOf, ByteArray.size]
theorem bytesOf_length (u : Nat → Bool) (m : Nat) : (bytesOf u m).length = m := by simp [bytesOf]
theorem bytesOf_get (u : Nat → Bool) (m j : Nat) (h : j < m) : (bytesOf u m)[j]? = some (UInt8.ofNat (by8 u j)) := by simp [bytesOf, h]
theorem byte_back (u : Nat → Bool) (j : Nat) : (UInt8.ofNat (by8 u j)).toNat = by8 u j := by
  rw [UInt8.toNat_ofNat', Nat.mod_eq_of_lt (by8_lt u j)]
/-- Sets of one length with the same bytes are the same. -/
theorem textB_inj {n : Nat} {u v : Nat → Bool} (hu : Low n u) (hv : Low n v) (h : textB n u = textB n v) : u = v := by
  have h1 : bytesOf u (szB n) = bytesOf v (szB n) := by
    unfold textB at h
    have := congrArg (fun b : ByteArray => b.data.toList) h
    simpa using this
  funext k
  by_cases hk : k < n
  · have hj : k / 8 < szB n := by unfold szB; omega
    have e1 := bytesOf_get u (szB n) (k / 8) hj
    have e2 := bytesOf_get v (szB n) (k / 8) hj
    rw [h1, e2] at e1
    have e3 := congrArg UInt8.toNat (Option.some.inj e1)
    rw [byte_back, byte_back] at e3
    have := by8_inj e3 (k % 8) (by omega)
    rw [show 8 * (k / 8) + k % 8 = k by omega] at this
    exact this.symm
  · rw [hu.off (by omega), hv.off (by omega)]
/-- Blocks of one length are the same when all their cells are. -/
theorem cells_inj {n m : Nat} {u v : Nat → Bool} (hn : n ≤ 1024) (hu : Low n u) (hv : Low n v) (h : vals 129 (scell n u) = vals 129 (scell m v)) : n = m ∧ u = v := by
  have at_ : ∀ i, i < 129 → scell n u i = scell m v i := fun i hi => by
    have e1 := vals_get 129 (scell n u) i hi
    rw [h, vals_get 129 (scell m v) i hi] at e1
    exact (Option.some.inj e1).symm
  have h0 := at_ 0 (by omega)
  unfold scell at h0
  rw [if_pos rfl, if_pos rfl] at h0
  injection h0 with _ h0
  refine ⟨by omega, ?_⟩
  funext k
  by_cases hk : k < n
  · have h1 := at_ (1 + k / 8) (by omega)
    unfold scell at h1
    rw [if_neg (by omega), if_neg (by omega), show 1 + k / 8 - 1 = k / 8 by omega] at h1
    injection h1 with _ h1
    have := by8_inj (show by8 u (k / 8) = by8 v (k / 8) by omega) (k % 8) (by omega)
    rw [show 8 * (k / 8) + k % 8 = k by omega] at this
    exact this
  · rw [hu.off (by omega), hv.off (by omega)]
end Bt
end Go.Proofs.Ytmihladhopjloaa
