/-
  A text's bytes in a row of their own ('[]byte(s)'), turned byte by byte, and read as a text again. No program's function here. Condition: the text is no longer than a machine holds.
-/
import Derived.Test.YtlechjpaldpgnaaGreatDoorMg17
import Derived.Lib.ConvBytes
import Derived.Lib.BufferMore
set_option maxRecDepth 100000
namespace Go.Proofs.YtlechjpaldpgnaaGreatDoor
open Go.ChangeShapes Go.WideShapes Go.ChangeAt Go.RowKit
namespace Tx

/-- The bytes l stand in the block g; none of them is frozen. -/
def TRow (W : World) (g : Nat) (l : List UInt8) : Prop := ∃ cs lo hi, W.heap[g]? = some (.cells cs 5 (lo, hi)) ∧ (lo < hi → l.length ≤ lo) ∧ l.length ≤ cs.size ∧ ∀ j, j < l.length → cs[j]? = some (.int .u8 ((l.getD j 0).toNat : Int))
namespace TRow
variable {W W' : World} {g : Nat} {l : List UInt8}
theorem lt (h : TRow W g l) : g < W.heap.size := by obtain ⟨cs, lo, hi, h, _⟩ := h; exact (Array.getElem?_eq_some_iff.1 h).1
theorem below (h : TRow W g l) (b : Below W.heap.size W W') : TRow W' g l := by
  have hl := h.lt
  obtain ⟨cs, lo, hi, h, r⟩ := h
  exact ⟨cs, lo, hi, (b.block g hl).trans h, r⟩
theorem cell (h : TRow W g l) {j : Nat} (hj : j < l.length) : W.cell? ⟨g, j, none⟩ = some (.int .u8 ((l.getD j 0).toNat : Int)) := by
  obtain ⟨cs, lo, hi, h, _, _, hc⟩ := h
  rw [cell_of_row W g j cs _ _ h]
  exact hc j hj
theorem frozen (h : TRow W g l) {j : Nat} (hj : j < l.length) : W.frozen? ⟨g, j, none⟩ = false := by
  obtain ⟨cs, lo, hi, h, hz, _⟩ := h
  simp only [World.frozen?, h]
  by_cases hlh : lo < hi
  · have := hz hlh
    simp
    omega
  · simp
    omega
theorem set (h : TRow W g l) {i : Nat} (hi : i < l.length) (b : UInt8) : TRow (W.setCell ⟨g, i, none⟩ (.int .u8 (b.toNat : Int))) g (l.set i b) := by
  obtain ⟨cs, lo, hi', h, hz, hs, hc⟩ := h
  refine ⟨_, lo, hi', Lib.heap_setCell_same h _, by rw [List.length_set]; exact hz, by rw [List.length_set, Array.size_setIfInBounds]; exact hs, fun j hj => ?_⟩
  rw [List.length_set] at hj
  rw [Array.getElem?_setIfInBounds, List.getD_eq_getElem?_getD, List.getElem?_set]
  by_cases e : i = j
  · rw [if_pos e, if_pos e, if_pos (by omega), if_pos hi]
    rfl
  · rw [if_neg e, if_neg e, hc j hj, List.getD_eq_getElem?_getD]
theorem text (h : TRow W g l) (cap : Nat) : (convert 92 9 (.slice (some ⟨g, 0, none⟩) l.length cap)).run Tryz.prog W = .ok (.string ⟨l.toArray⟩) W := by
  refine Vc.run_text8 W _ l.length cap l rfl fun j u hj => ?_
  have hl := (List.getElem?_eq_some_iff.1 hj).1
  rw [Vc.bcells_length] at hl
  rw [Addr.add_lit, Nat.zero_add, h.cell hl, ← hj]
  unfold Vc.bcells
  rw [List.getElem?_map, List.getElem?_eq_getElem hl, List.getD_eq_getElem?_getD, List.getElem?_eq_getElem hl]
  rfl
end TRow
/-- '[]byte(s)' in the walk. -/
theorem wpList_bytes {ops : Array Oper} {rest : List Oper} {o : Oper} {a : Act} {Q : Exit → Act → World → Prop} {w : World} (hgd : o.guard = none) (x : Operand) (ho : o.op = .convert 9 92 x)
    (q : ByteArray) (hx : a.eval x = .string q) (l : List UInt8) (hl : q.data.toList = l)
    (hK : ∀ cap w', TRow w' w.heap.size l → w.grownBy w' none → wpList Tryz.prog ops Q rest (a.put o.dst (.slice (some ⟨w.heap.size, 0, none⟩) l.length cap)) w') : wpList Tryz.prog ops Q (o :: rest) a w := by
  subst hl
  refine wpList_plain hgd fun K hK' => ?_
  have hrun := Lib.run_convert_string_bytes (P := Tryz.prog) w 9 92 5 q Tryz.underlying9 Tryz.underlying92 Tryz.underlying5
  have hg : w.grownBy (Lib.bytesWorld w 5 q) none := ⟨by unfold Lib.bytesWorld World.freeze; split <;> rfl, by unfold Lib.bytesWorld World.freeze; split <;> rfl, by unfold Lib.bytesWorld World.freeze; split <;> rfl, by rw [Lib.bytesWorld_size]; omega, fun k hk _ => Lib.bytesWorld_at_old w _ q k hk⟩
  have hge := grownCap_ge w q.size 0 5
  have hsz : (Lib.bytesCells w 5 q).size = grownCap w q.size 0 5 := by
    unfold Lib.bytesCells
    have : q.data.size = q.size := rfl
    simp
    omega
  have hq : q.data.toList.length = q.size := rfl
  have hrow : TRow (Lib.bytesWorld w 5 q) w.heap.size q.data.toList := ⟨_, _, _, Lib.bytesWorld_at_new w _ q, fun _ => by rw [hq]; omega, by rw [hq]; omega, fun j hj => by
    have := Lib.bytesWorld_cell w 5 q j hj
    rw [cell_of_row _ _ j _ _ _ (Lib.bytesWorld_at_new w _ q)] at this
    exact this⟩
  unfold Oper.wp
  simp [execOp, ho, hx, hrun, Result.andThen]
  exact hK' _ _ (hK _ _ hrow hg)
end Tx
end Go.Proofs.YtlechjpaldpgnaaGreatDoor
