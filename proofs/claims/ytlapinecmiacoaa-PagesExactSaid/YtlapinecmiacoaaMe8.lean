/-
  Models in plain words: a shape and its weights, the bytes that each part has, and that the parts, one behind the other, are the weights. No program's function here. Condition: the shape can be, and the weights are as many as it has.
-/
import Derived.Test.YtlapinecmiacoaaMe3
import Derived.Test.YtlapinecmiacoaaMe5
import Derived.Test.YtlapinecmiacoaaMe7
set_option maxRecDepth 100000
namespace Go.Proofs.Ytlapinecmiacoaa
open Go.ChangeShapes Go.WideShapes Go.ChangeAt Go.RowKit Nm Cf Vc
namespace Br

def brA (x : Cfg) (s : ByteArray) : Array Value := #[.int .i64 x.v, .int .i64 x.d, .int .i64 x.h, .int .i64 x.b, .int .i64 x.n, .int .i64 x.c, .string s]
/-- Its bytes. -/
def bytesB (x : Cfg) (s : ByteArray) : ByteArray := cfgB x ++ s
theorem bytesB_size (x : Cfg) (s : ByteArray) : (bytesB x s).size = 24 + s.size := by unfold bytesB; rw [ByteArray.size_append, cfgB_size]
structure Ok (x : Cfg) (s : ByteArray) : Prop where
  good : Cf.Good x
  size : (s.size : Int) = totZ x
theorem Ok.most {x : Cfg} {s : ByteArray} (h : Ok x s) : s.size ≤ 8192 := by have := h.size; have := h.good.fits; omega
theorem Ok.least {x : Cfg} {s : ByteArray} (h : Ok x s) : 1 ≤ s.size := by
  have h1 := h.size
  have h2 := span_in h.good.is 0 2 (by omega)
  have h3 := span_in h.good.is 11 1 (by omega)
  have h4 := mid_in h.good.is
  unfold totZ at h1
  omega
theorem isZ_iff {x : Cfg} {p k : Int} : isZ x p k = true ↔ Cf.Good x ∧ 0 ≤ p ∧ p ≤ 11 ∧ 0 ≤ k ∧ k < timesZ x p := by
  unfold isZ
  simp only [Bool.and_eq_true, decide_eq_true_iff, good_iff]
/-- The bytes of a part of a block. -/
def pieceB (x : Cfg) (s : ByteArray) (p k : Int) : ByteArray := s.extract (fromZ x p k).toNat (fromZ x p k + areaZ x p).toNat
theorem piece_size {x : Cfg} {s : ByteArray} (h : Ok x s) {p k : Nat} (hp : p ≤ 11) (hk : (k : Int) < timesZ x (p : Int)) : ((pieceB x s (p : Int) (k : Int)).size : Int) = areaZ x (p : Int) := by
  have h1 := hit_within h.good.is hp hk
  have h2 := h.size
  have h3 := area_in h.good.is (p := (p : Int)) (by omega) (by omega)
  unfold pieceB
  rw [ByteArray.size_extract]
  omega
theorem piece_sizeZ {x : Cfg} {s : ByteArray} (h : Ok x s) {p k : Int} (hi : isZ x p k = true) : ((pieceB x s p k).size : Int) = areaZ x p := by
  unfold isZ at hi
  simp only [Bool.and_eq_true, decide_eq_true_iff] at hi
  obtain ⟨_, h0, h1, h2, h3⟩ := hi
  have hp : ((p.toNat : Nat) : Int) = p := by omega
  have hk : ((k.toNat : Nat) : Int) = k := by omega
  have := piece_size h (p := p.toNat) (k := k.toNat) (by omega) (by rw [hp, hk]; exact h3)
  rwa [hp, hk] at this
theorem ext_more {s : ByteArray} {a b : Nat} (h : a ≤ b) : s.extract 0 a ++ s.extract a b = s.extract 0 b := by
  rw [ByteArray.extract_append_extract, Nat.min_eq_left (Nat.zero_le _), Nat.max_eq_right h]
/-- The weights up to a part. -/
def preF (x : Cfg) (s : ByteArray) (p : Nat) : ByteArray := s.extract 0 (spanZ x 0 p).toNat
def preM (x : Cfg) (s : ByteArray) (k q : Nat) : ByteArray := s.extract 0 (spanZ x 0 2 + (k : Int) * spanZ x 2 9 + spanZ x 2 q).toNat
theorem pre_zero (x : Cfg) (s : ByteArray) : preF x s 0 = ByteArray.empty := by
  unfold preF
  rw [show (spanZ x 0 0).toNat = 0 from rfl]
  apply ByteArray.ext
  rw [ByteArray.data_extract]
  simp
theorem pre_two (x : Cfg) (s : ByteArray) : preF x s 2 = preM x s 0 0 := by
  unfold preF preM
  rw [show ((0 : Nat) : Int) * spanZ x 2 9 = 0 from Int.zero_mul _, show spanZ x 2 0 = 0 from rfl, Int.add_zero, Int.add_zero]
theorem pre_nine (x : Cfg) (s : ByteArray) (k : Nat) : preM x s k 9 = preM x s (k + 1) 0 := by
  unfold preM
  rw [show spanZ x 2 0 = 0 from rfl, Int.add_zero, show ((k + 1 : Nat) : Int) = (k : Int) + 1 by omega, Int.add_mul, Int.one_mul, ← Int.add_assoc]
section
variable {x : Cfg} {s : ByteArray} (h : Ok x s)
include h
theorem pre_first {p : Nat} (hp : p < 2) : preF x s p ++ pieceB x s (p : Int) ((0 : Nat) : Int) = preF x s (p + 1) := by
  have h1 := span_nonneg h.good.is 0 p (by omega)
  have h2 := area_in h.good.is (p := (p : Int)) (by omega) (by omega)
  unfold preF pieceB
  rw [from_first hp]
  have h3 : spanZ x 0 (p + 1) = spanZ x 0 p + areaZ x ((0 + p : Nat) : Int) := rfl
  rw [Nat.zero_add] at h3
  rw [h3]
  exact ext_more (by omega)
theorem pre_mid {k q : Nat} (hq : q < 9) : preM x s k q ++ pieceB x s ((2 + q : Nat) : Int) (k : Int) = preM x s k (q + 1) := by
  have hS := span_nonneg h.good.is 2 9 (by omega)
  have h0 := span_nonneg h.good.is 0 2 (by omega)
  have h1 := span_nonneg h.good.is 2 q (by omega)
  have h2 := area_in h.good.is (p := ((2 + q : Nat) : Int)) (by omega) (by omega)
  have h4 : 0 ≤ (k : Int) * spanZ x 2 9 := Int.mul_nonneg (by omega) hS
  unfold preM pieceB
  rw [from_mid hq]
  have h3 : spanZ x 2 (q + 1) = spanZ x 2 q + areaZ x ((2 + q : Nat) : Int) := rfl
  rw [h3]
  rw [show spanZ x 0 2 + (k : Int) * spanZ x 2 9 + spanZ x 2 q + areaZ x ((2 + q : Nat) : Int) = spanZ x 0 2 + (k : Int) * spanZ x 2 9 + (spanZ x 2 q + areaZ x ((2 + q : Nat) : Int)) from Int.add_assoc _ _ _]
  exact ext_more (by omega)
theorem pre_last {B : Nat} (hB : (B : Int) = x.b) : preM x s B 0 ++ pieceB x s ((11 : Nat) : Int) ((0 : Nat) : Int) = s := by
  have h0 := span_nonneg h.good.is 0 2 (by omega)
  have h1 := mid_in h.good.is
  have h2 := area_in h.good.is (p := ((11 : Nat) : Int)) (by omega) (by omega)
  have h3 := h.size
  unfold preM pieceB
  rw [from_last, show spanZ x 2 0 = 0 from rfl, Int.add_zero, hB, ext_more (by omega)]
  have h4 : spanZ x 11 1 = 0 + areaZ x ((11 + 0 : Nat) : Int) := rfl
  rw [Int.zero_add, Nat.add_zero] at h4
  rw [show (spanZ x 0 2 + x.b * spanZ x 2 9 + areaZ x ((11 : Nat) : Int)).toNat = s.size by unfold totZ at h3; omega]
  exact ByteArray.extract_zero_size
theorem pre_sizes (k q : Nat) (p : Nat) : (preM x s k q).size ≤ 8192 ∧ (preF x s p).size ≤ 8192 ∧ ∀ p k : Int, (pieceB x s p k).size ≤ 8192 := by
  have := h.most
  unfold preM preF pieceB
  refine ⟨?_, ?_, fun p k => ?_⟩ <;> rw [ByteArray.size_extract] <;> omega
end
/-- The numbers of a row of a part of a block; nothing, if there is none. -/
def rowZ (x : Cfg) (s : ByteArray) (p k a : Int) : List Int := if isZ x p k = true ∧ 0 ≤ a ∧ a < rowsZ x p then rowD (listD (pieceB x s p k)) (colsZ x p).toNat a.toNat else []
theorem rows_fit {x : Cfg} (h : In x) {p : Int} (h0 : 0 ≤ p) (h1 : p ≤ 11) : fitB (rowsZ x p) = true ∧ fitB (colsZ x p) = true := by
  have a := rows_in h h0 h1
  have b := cols_in h h0 h1
  exact ⟨fitB_iff.2 ⟨a.1, by omega⟩, fitB_iff.2 ⟨b.1, by omega⟩⟩
end Br
end Go.Proofs.Ytlapinecmiacoaa
