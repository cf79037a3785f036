/-
  Bytes of sectors in plain words: parts, joined; a sealed text's; bytes that are made, and a text's end. No program's function here. No conditions.
-/
import Derived.Test.YtnmgkkjnjllpbaaGreatDoorMg29
import Derived.Test.YtnmgkkjnjllpbaaGreatDoorMg3
set_option maxRecDepth 100000
namespace Go.Proofs.YtnmgkkjnjllpbaaGreatDoor
open Go.ChangeShapes Go.WideShapes Go.ChangeAt Go.RowKit Pn Dk Sl

namespace Sl
theorem img_cut (m : Nat) (F : Nat → UInt8) (a k : Nat) (h : a + k ≤ m * 32) : (imgS m F).extract a (a + k) = ⟨((List.range k).map fun j => F (a + j)).toArray⟩ := by
  apply ByteArray.ext
  apply Array.toList_inj.1
  rw [ByteArray.data_extract, Array.toList_extract, List.extract_eq_take_drop, Nat.add_sub_cancel_left]
  show List.take k (List.drop a ((List.range (m * 32)).map F)) = (List.range k).map fun j => F (a + j)
  apply List.ext_getElem?
  intro j
  by_cases hj : j < k
  · rw [List.getElem?_take_of_lt hj, List.getElem?_drop, List.getElem?_map, List.getElem?_map, List.getElem?_range hj, List.getElem?_range (by omega)]
    rfl
  · rw [List.getElem?_eq_none (by rw [List.length_take]; omega), List.getElem?_eq_none (by simpa using hj)]
end Sl
namespace Tw
theorem img_app (a b : Nat) (H : Nat → UInt8) : imgS (a + b) H = imgS a H ++ imgS b fun j => H (a * 32 + j) := by
  apply ByteArray.ext
  apply Array.toList_inj.1
  rw [ByteArray.data_append, Array.toList_append]
  show (List.range ((a + b) * 32)).map H = (List.range (a * 32)).map H ++ (List.range (b * 32)).map fun j => H (a * 32 + j)
  rw [Nat.add_mul, List.range_add, List.map_append, List.map_map]
  rfl
theorem cat_eq (g : Nat) (L : List UInt8) : ∀ k, catB g L k = imgS k fun j => secF g L (j / 32) (j % 32)
  | 0 => rfl
  | k + 1 => by
    unfold catB
    rw [cat_eq g L k, img_app k 1]
    congr 1
    show secS (secF g L k) = imgS 1 fun j => secF g L ((k * 32 + j) / 32) ((k * 32 + j) % 32)
    apply ByteArray.ext
    apply Array.toList_inj.1
    show (List.range 32).map (secF g L k) = (List.range (1 * 32)).map fun j => secF g L ((k * 32 + j) / 32) ((k * 32 + j) % 32)
    rw [Nat.one_mul]
    refine List.map_congr_left fun j hj => ?_
    have := List.mem_range.1 hj
    show secF g L k j = secF g L ((k * 32 + j) / 32) ((k * 32 + j) % 32)
    rw [show (k * 32 + j) / 32 = k by omega, show (k * 32 + j) % 32 = j by omega]
theorem img_end (n p : Nat) (F : Nat → UInt8) (h : p ≤ n) : (imgS n F).extract (p * 32) (imgS n F).size = imgS (n - p) fun j => F (p * 32 + j) := by
  have e := img_cut n F (p * 32) ((n - p) * 32) (by omega)
  rw [show p * 32 + (n - p) * 32 = n * 32 by omega] at e
  rw [imgS_size, e]
  rfl
theorem img_beg (n p : Nat) (F : Nat → UInt8) (h : p ≤ n) : (imgS n F).extract 0 (p * 32) = imgS p F := by
  have e := img_cut n F 0 (p * 32) (by omega)
  rw [Nat.zero_add] at e
  rw [e]
  unfold imgS
  congr 2
  exact List.map_congr_left fun j _ => by rw [Nat.zero_add]
end Tw
theorem cut_tail (q : ByteArray) (i : Nat) (I : Int) (hI : I = (i : Int)) (h : i ≤ q.size) (W : World) : (Instr.slice 9 (.string q) (some (.int .i64 I)) none none).run Tryz.prog W = .ok (.string (q.extract i q.size)) W := by
  subst hI
  have := run_slice_string_from_if (P := Tryz.prog) W 9 q .i64 (i : Int) Tryz.underlying9
  rw [if_pos ⟨by omega, by omega⟩] at this
  simpa using this
theorem made_at (n j : Nat) (h : j < n) : (madeCells #[Value.int .u8 0] n)[j]? = some (.int .u8 0) := by
  simp [madeCells, Nat.mod_one, h]
theorem made_zeros7 (m : Nat) (b : Nat) (V : World) (h : V.heap[b]? = some (.cells (madeCells #[.int .u8 0] (m * 32)) 5 (0, 0))) :
    (convert 40 9 (.slice (some ⟨b, 0, none⟩) (m * 32) (m * 32))).run Tryz.prog V = .ok (.string (imgS m fun _ => 0)) V := by
  refine run_textK V _ (m * 32) (m * 32) ((List.range (m * 32)).map fun _ => (0 : UInt8)) (by simp) fun j u hj => ?_
  have hl := (List.getElem?_eq_some_iff.1 hj).1
  simp only [List.length_map, List.length_range] at hl
  rw [Addr.add_lit, Nat.zero_add, cell_of_row _ _ _ _ _ _ h, made_at _ _ hl, ← hj]
  simp [hl]
end Go.Proofs.YtnmgkkjnjllpbaaGreatDoor
