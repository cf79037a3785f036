/-
  The reference of layer 16: Row. Conditions: the model's weights are as many as its shape asks; there is such a row.
-/
import Derived.Test.YtlechjpaldpgnaaGreatDoorMg18
import Derived.Test.YtlechjpaldpgnaaGreatDoorMg40
import Derived.Test.YtlechjpaldpgnaaGreatDoorMg43
set_option maxRecDepth 100000
namespace Go.Proofs.YtlechjpaldpgnaaGreatDoor
open Go.ChangeShapes Go.WideShapes Go.ChangeAt Go.RowKit Cf Vc Br

namespace Rf
/-- The reference's model: as a value, and in a block. -/
def mdV (x : Cfg) (s : ByteArray) : Value := .agg (brA x s)
def mdO (x : Cfg) (s : ByteArray) : Obj := .cells (brA x s) 67 (0, 0)
theorem seven {w : World} {b : Nat} {x : Cfg} {s : ByteArray} (h : w.heap[b]? = some (mdO x s)) : w.cell? ⟨b, 0, none⟩ = some (.int .i64 x.v) ∧ w.cell? ⟨b, 1, none⟩ = some (.int .i64 x.d) ∧ w.cell? ⟨b, 2, none⟩ = some (.int .i64 x.h) ∧ w.cell? ⟨b, 3, none⟩ = some (.int .i64 x.b) ∧ w.cell? ⟨b, 4, none⟩ = some (.int .i64 x.n) ∧ w.cell? ⟨b, 5, none⟩ = some (.int .i64 x.c) ∧ w.cell? ⟨b, 6, none⟩ = some (.string s) := by
  refine ⟨?_, ?_, ?_, ?_, ?_, ?_, ?_⟩
  · rw [cell_of_row w b 0 _ _ _ h]; rfl
  · rw [cell_of_row w b 1 _ _ _ h]; rfl
  · rw [cell_of_row w b 2 _ _ _ h]; rfl
  · rw [cell_of_row w b 3 _ _ _ h]; rfl
  · rw [cell_of_row w b 4 _ _ _ h]; rfl
  · rw [cell_of_row w b 5 _ _ _ h]; rfl
  · rw [cell_of_row w b 6 _ _ _ h]; rfl
theorem stays {w1 w2 : World} {b : Nat} {o : Obj} (h : w1.heap[b]? = some o) (hb : Below w1.heap.size w1 w2) : w2.heap[b]? = some o := (hb.block b (Array.getElem?_eq_some_iff.1 h).1).trans h
/-- A row's numbers, byte by byte. -/
theorem row_at {x : Cfg} {s : ByteArray} (h : Ok x s) {p k a : Nat} (hp : p ≤ 11) (hk : (k : Int) < timesZ x (p : Int)) (ha : (a : Int) < rowsZ x (p : Int)) :
    ∃ (F C R : Nat), fromZ x (p : Int) (k : Int) = (F : Int) ∧ colsZ x (p : Int) = (C : Int) ∧ rowsZ x (p : Int) = (R : Int) ∧ areaZ x (p : Int) = ((R * C : Nat) : Int) ∧ 1 ≤ C ∧ C ≤ 32 ∧ R ≤ 32 ∧ F + R * C ≤ s.size ∧ s.size ≤ 8192 ∧ a < R ∧ (rowZ x s (p : Int) (k : Int) (a : Int)).length = C ∧ ∀ i, i < C → ∃ hq : F + a * C + i < s.size, (rowZ x s (p : Int) (k : Int) (a : Int)).getD i 0 = i8 (s[F + a * C + i]'hq) := by
  have h1 := hit_within h.good.is hp hk
  have h2 := rows_in h.good.is (p := (p : Int)) (by omega) (by omega)
  have h3 := cols_in h.good.is (p := (p : Int)) (by omega) (by omega)
  have h4 := h.size
  have h5 := h.most
  have hi : isZ x (p : Int) (k : Int) = true := isZ_iff.2 ⟨h.good, by omega, by omega, by omega, hk⟩
  have hr : rowZ x s (p : Int) (k : Int) (a : Int) = rowD (listD (pieceB x s (p : Int) (k : Int))) (colsZ x (p : Int)).toNat a := by
    unfold rowZ
    rw [if_pos ⟨hi, by omega, ha⟩, Int.toNat_natCast]
  obtain ⟨F, hF⟩ : ∃ F : Nat, fromZ x (p : Int) (k : Int) = (F : Int) := ⟨(fromZ x (p : Int) (k : Int)).toNat, by omega⟩
  obtain ⟨C, hC⟩ : ∃ C : Nat, colsZ x (p : Int) = (C : Int) := ⟨(colsZ x (p : Int)).toNat, by omega⟩
  obtain ⟨R, hR⟩ : ∃ R : Nat, rowsZ x (p : Int) = (R : Int) := ⟨(rowsZ x (p : Int)).toNat, by omega⟩
  have hA : areaZ x (p : Int) = ((R * C : Nat) : Int) := by unfold areaZ; rw [hR, hC, Int.natCast_mul]
  have haR : a < R := by omega
  have hFs : F + R * C ≤ s.size := by omega
  have hm : a * C + C ≤ R * C := by
    have := Nat.mul_le_mul_right C (show a + 1 ≤ R by omega)
    rwa [Nat.add_mul, Nat.one_mul] at this
  refine ⟨F, C, R, hF, hC, hR, hA, by omega, by omega, by omega, hFs, h5, haR, by rw [hr, rowD_length, hC, Int.toNat_natCast], fun i hi' => ?_⟩
  have hq : F + a * C + i < s.size := by omega
  refine ⟨hq, ?_⟩
  rw [hr, hC, Int.toNat_natCast, rowD_at _ _ _ _ hi']
  have hps : (pieceB x s (p : Int) (k : Int)).size = R * C := by
    have := piece_size h hp hk
    rw [hA] at this
    omega
  rw [listD_at _ _ (by rw [hps]; omega)]
  congr 1
  unfold pieceB
  rw [ByteArray.getElem_extract]
  congr 1
  rw [hF, Int.toNat_natCast, Nat.add_assoc]
theorem i8_of (b : UInt8) : i8 b = if 127 < (b.toNat : Int) then (b.toNat : Int) - 256 else (b.toNat : Int) := by
  unfold i8
  split <;> split <;> omega
end Rf
end Go.Proofs.YtlechjpaldpgnaaGreatDoor
