/-
  The document's own digits of a sum. No condition.
-/
import Derived.Test.YtdadcpkkpopbcaaDoorRefRow
import Derived.Test.YtdadcpkkpopbcaaDoorShaText
namespace Go.Proofs.YtdadcpkkpopbcaaDoor
open Go.ChangeShapes Go.WideShapes Go.ChangeAt Go.RowKit Sh

theorem hex_cut (n : Nat) (h : n < 16) : (⟨#[48, 49, 50, 51, 52, 53, 54, 55, 56, 57, 97, 98, 99, 100, 101, 102]⟩ : ByteArray).extract n (n + 1) = ⟨#[hexd n]⟩ := by
  have key : ∀ k : _root_.Fin 16, (⟨#[48, 49, 50, 51, 52, 53, 54, 55, 56, 57, 97, 98, 99, 100, 101, 102]⟩ : ByteArray).extract k.val (k.val + 1) = ⟨#[hexd k.val]⟩ := by decide
  exact key ⟨n, h⟩
set_option maxHeartbeats 800000 in
theorem refText_any (f : Nat → UInt8) (w : World) :
    Calls Tryd.prog 18 #[.agg (digF f)] w fun e w' => e = .returned (.string ⟨(textOf f 32).toArray⟩) ∧ Below w.heap.size w w' := by
  go_enter Tryd.func18, Tryd.ntmps18
  go_wp2_with (fail)
  go_loopw [4, 5] (fun v i wr => ∃ k : Nat, k ≤ 32 ∧ v = .string ⟨(textOf f k).toArray⟩ ∧ i = .int .i64 k ∧ Below w.heap.size w wr ∧ wr.rowIs w.heap.size 24 32 (fun j => .int .u8 ((f j).toNat : Int))) (fun _ i _ => 32 - (intOf i).toNat)
  case atStart => exact ⟨0, by omega, rfl, rfl, (Below.refl _ _).alloc (Nat.le_refl _) _, row_alloc _ rfl rfl⟩
  case round =>
    obtain ⟨k, hk, rfl, rfl, hb, hr⟩ := hrel
    by_cases hlt : k < 32
    · have c0 := hr.cell hlt
      have lk : 0 ≤ (k : Int) := by omega
      have mk : (k : Int) < 32 := by omega
      have HL := Lib.hid (textOf_length f k)
      generalize hbk : f k = b at c0
      have hb8 := b.toNat_lt
      have e0 : IntKind.u8.wrap ((b.toNat : Int) / 16 + 1) = (b.toNat : Int) / 16 + 1 := by simp [IntKind.wrap, IntKind.bits, IntKind.signed]; omega
      have e1 : IntKind.u8.wrap ((b.toNat : Int) % 16 + 1) = (b.toNat : Int) % 16 + 1 := by simp [IntKind.wrap, IntKind.bits, IntKind.signed]; omega
      have w0 : IntKind.u8.wrap ((b.toNat : Int) / 16) = (b.toNat : Int) / 16 := by simp [IntKind.wrap, IntKind.bits, IntKind.signed]; omega
      have w1 : IntKind.u8.wrap ((b.toNat : Int) % 16) = (b.toNat : Int) % 16 := by simp [IntKind.wrap, IntKind.bits, IntKind.signed]; omega
      have a0 : 0 ≤ (b.toNat : Int) / 16 := by omega
      have a1 : (b.toNat : Int) / 16 ≤ (b.toNat : Int) / 16 + 1 := by omega
      have a2 : (b.toNat : Int) / 16 + 1 ≤ 16 := by omega
      have a3 : ((b.toNat : Int) / 16).toNat = b.toNat / 16 := by omega
      have a4 : ((b.toNat : Int) / 16 + 1).toNat = b.toNat / 16 + 1 := by omega
      have d0 : 0 ≤ (b.toNat : Int) % 16 := by omega
      have d1 : (b.toNat : Int) % 16 ≤ (b.toNat : Int) % 16 + 1 := by omega
      have d2 : (b.toNat : Int) % 16 + 1 ≤ 16 := by omega
      have d3 : ((b.toNat : Int) % 16).toNat = b.toNat % 16 := by omega
      have d4 : ((b.toNat : Int) % 16 + 1).toNat = b.toNat % 16 + 1 := by omega
      have HJ := Lib.hid (show (⟨(textOf f (k + 1)).toArray⟩ : ByteArray) = ⟨(textOf f k).toArray⟩ ++ ⟨#[hexd (b.toNat / 16)]⟩ ++ ⟨#[hexd (b.toNat % 16)]⟩ by
        rw [textOf_next, hbk]
        apply ByteArray.ext
        simp [ByteArray.data_append])
      have x0 := hex_cut (b.toNat / 16) (by omega)
      have x1 := hex_cut (b.toNat % 16) (by omega)
      have hT : (⟨(textOf f k).toArray⟩ : ByteArray).size ≤ 64 := by
        have := HL.out
        simp [ByteArray.size]; omega
      have hX0 : (⟨#[hexd (b.toNat / 16)]⟩ : ByteArray).size = 1 := rfl
      have hX1 : (⟨#[hexd (b.toNat % 16)]⟩ : ByteArray).size = 1 := rfl
      generalize (⟨(textOf f k).toArray⟩ : ByteArray) = T at HJ hT ⊢
      generalize (⟨#[hexd (b.toNat / 16)]⟩ : ByteArray) = X0 at HJ hX0 x0
      generalize (⟨#[hexd (b.toNat % 16)]⟩ : ByteArray) = X1 at HJ hX1 x1
      have q0 : ¬ 9223372036854775807 < T.size + X0.size := by omega
      have q1 : ¬ 9223372036854775807 < (T ++ X0).size + X1.size := by rw [ByteArray.size_append]; omega
      have q2 : ¬ 9223372036854775807 < T.size + X0.size + X1.size := by omega
      clear hX0 hX1 hT
      go_wp2
      go_quiet (fail)
      go_wp2
      go_roundw
      case rel => exact ⟨k + 1, by omega, by rw [HJ.out], by go_num, below_drewN hb _, hr⟩
      case measure => simp [intOf]; omega
    · have HK := Lib.hid (show k = 32 by omega)
      go_wp2
      go_ret
      have e := HK.out
      subst e
      exact ⟨rfl, hb⟩
end Go.Proofs.YtdadcpkkpopbcaaDoor
