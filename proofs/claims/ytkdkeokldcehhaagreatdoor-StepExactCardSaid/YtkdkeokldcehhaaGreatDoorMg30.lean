/-
  Package pen's pen: all bytes that were written. Conditions: the pen stands in a block of its own; fewer than 2^40 bytes.
-/
import Derived.Test.YtkdkeokldcehhaaGreatDoorMg3
import Derived.Test.YtkdkeokldcehhaaGreatDoorMg29
import Derived.Laws.MakeOwn
import Derived.Deep.LoopGhost
set_option maxRecDepth 100000
namespace Go.Proofs.YtkdkeokldcehhaaGreatDoor
open Go.ChangeShapes Go.WideShapes Go.ChangeAt Go.RowKit Pn

theorem made_zero (N : Nat) : madeCells (Value.int .u8 0).cells (N * 1) = vals N fun _ => .int .u8 0 := by
  apply Array.ext (by rw [size_madeCells, vals_size]; omega)
  intro i h1 h2
  have := vals_get N (fun _ => Value.int .u8 0) i (by rwa [vals_size] at h2)
  rw [Array.getElem?_eq_getElem h2] at this
  rw [Option.some.inj this]
  simp [madeCells, Value.cells, Nat.mod_one]
theorem run_make_bytes (N : Nat) (hN : N < 1099511627776) (W : World) :
    (Instr.makeSlice 59 (.int .i64 (N : Int)) (.int .i64 (N : Int))).run Tryz.prog W = .ok (.slice (some ⟨W.heap.size, 0, none⟩) N N) (W.alloc (.cells (vals N fun _ => .int .u8 0) 5)) := by
  obtain ⟨i0, hi, hz0, hz1, hz2⟩ := info_parts infoB
  have h := run_make (P := Tryz.prog) W 59 5 i0 (.int .u8 0) Tryz.underlying59 hi hz0 .i64 .i64 (N : Int) (N : Int) (by omega) (by omega) (by rw [hz2]; omega) (by omega)
  rw [hz1, Int.toNat_natCast, made_zero] at h
  exact h
/-- What the row holds from place o on is what was written. -/
def Filled (L : List UInt8) (N o : Nat) (F : Nat → Value) : Prop := ∀ j, o ≤ j → j < N → F j = .int .u8 ((L.getD j 0).toNat : Int)
def pieceCells (q : ByteArray) (n : Nat) : List Value := (q.data.toList.take (min q.size n)).map fun x => Value.int .u8 (x.toNat : Int)
theorem pieceCells_len (q : ByteArray) (n : Nat) (h : q.size ≤ n) : (pieceCells q n).length = q.size := by
  unfold pieceCells
  have : q.data.toList.length = q.size := rfl
  rw [List.length_map, List.length_take]
  omega
theorem penL_at (d : List ByteArray) (q : ByteArray) (r : List ByteArray) : ∀ j, j < q.size → (penL (d ++ q :: r)).getD (total r + j) 0 = q.data.toList.getD j 0 := by
  have hp : ∀ d : List ByteArray, ∃ m, penL (d ++ q :: r) = penL r ++ (q.data.toList ++ m) := by
    intro d
    induction d with
    | nil => exact ⟨[], by simp [penL]⟩
    | cons a d ih =>
      obtain ⟨m, hm⟩ := ih
      exact ⟨m ++ a.data.toList, by simp only [List.cons_append, penL, hm, List.append_assoc]⟩
  intro j hj
  obtain ⟨m, hm⟩ := hp d
  have hl := penL_length r
  have hq : q.data.toList.length = q.size := rfl
  rw [hm, List.getD_eq_getElem?_getD, List.getD_eq_getElem?_getD, List.getElem?_append_right (by omega), show total r + j - (penL r).length = j by omega, List.getElem?_append_left (by omega)]
theorem total_append (d l : List ByteArray) : total (d ++ l) = total d + total l := by
  induction d with
  | nil => simp [total]
  | cons a d ih => simp only [List.cons_append, total, ih]; omega
theorem filled_next (d : List ByteArray) (q : ByteArray) (r : List ByteArray) (N : Nat) (F : Nat → Value) (hN : N = total (d ++ q :: r)) (h : Filled (penL (d ++ q :: r)) N (total (q :: r)) F) :
    Filled (penL (d ++ q :: r)) N (total r) (spliced (total r) (pieceCells q (N - total r)) F) := by
  have hq : q.size ≤ N - total r := by rw [hN, total_append]; simp only [total]; omega
  intro j h1 h2
  unfold spliced
  rw [pieceCells_len q _ hq]
  by_cases hj : j < total r + q.size
  · rw [if_pos ⟨h1, hj⟩]
    have := penL_at d q r (j - total r) (by omega)
    rw [show total r + (j - total r) = j by omega] at this
    rw [this]
    unfold pieceCells
    rw [Nat.min_eq_left hq, List.take_of_length_le (show q.data.toList.length ≤ q.size from Nat.le_refl _), List.getD_eq_getElem?_getD, List.getElem?_map, List.getD_eq_getElem?_getD, List.getElem?_eq_getElem (show j - total r < q.data.toList.length by show _ < q.size; omega)]
    rfl
  · rw [if_neg (by omega)]
    exact h j (by simp only [total]; omega) h2

end Go.Proofs.YtkdkeokldcehhaaGreatDoor
