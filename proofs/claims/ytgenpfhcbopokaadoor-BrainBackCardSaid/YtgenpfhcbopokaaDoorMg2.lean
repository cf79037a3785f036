/-
  Models' shapes in plain words: six numbers, whether they can be, how many rows and columns a part has, where it stands. No program here. No conditions.
-/
import Derived.Test.YtgenpfhcbopokaaDoorMg1
set_option maxRecDepth 100000
namespace Go.Proofs.YtgenpfhcbopokaaDoor
open Go Go.RowKit
namespace Cf

structure Cfg where
  v : Int
  d : Int
  h : Int
  b : Int
  n : Int
  c : Int
def cfA (x : Cfg) : Array Value := #[.int .i64 x.v, .int .i64 x.d, .int .i64 x.h, .int .i64 x.b, .int .i64 x.n, .int .i64 x.c]
def cfV (x : Cfg) : Value := .agg (cfA x)
def withinZ (n l m : Int) : Bool := decide (l ≤ n) && decide (n ≤ m)
def inZ (x : Cfg) : Bool := withinZ x.v 2 32 && (withinZ x.d 1 16 && (withinZ x.h 1 4 && (withinZ x.b 1 3 && (withinZ x.n 1 32 && withinZ x.c 1 32))))
structure In (x : Cfg) : Prop where
  v2 : 2 ≤ x.v
  v32 : x.v ≤ 32
  d1 : 1 ≤ x.d
  d16 : x.d ≤ 16
  h1 : 1 ≤ x.h
  h4 : x.h ≤ 4
  b1 : 1 ≤ x.b
  b3 : x.b ≤ 3
  n1 : 1 ≤ x.n
  n32 : x.n ≤ 32
  c1 : 1 ≤ x.c
  c32 : x.c ≤ 32
theorem within_iff {n l m : Int} : withinZ n l m = true ↔ l ≤ n ∧ n ≤ m := by
  unfold withinZ
  simp only [Bool.and_eq_true, decide_eq_true_iff]
theorem in_iff {x : Cfg} : inZ x = true ↔ In x := by
  unfold inZ
  simp only [Bool.and_eq_true, within_iff]
  constructor
  · rintro ⟨⟨a, b⟩, ⟨c, d⟩, ⟨e, f⟩, ⟨g, h⟩, ⟨i, j⟩, k, l⟩
    exact ⟨a, b, c, d, e, f, g, h, i, j, k, l⟩
  · rintro ⟨a, b, c, d, e, f, g, h, i, j, k, l⟩
    exact ⟨⟨a, b⟩, ⟨c, d⟩, ⟨e, f⟩, ⟨g, h⟩, ⟨i, j⟩, k, l⟩
/-- How many rows and columns a part has; 0, if it is none. -/
def rowsZ (x : Cfg) (p : Int) : Int := if p = 0 then x.v else if p = 1 then x.c else if p = 2 ∨ p = 7 ∨ p = 11 then 1 else if p = 3 ∨ p = 4 ∨ p = 5 ∨ p = 6 then x.d else if p = 8 ∨ p = 9 then x.n else if p = 10 then x.d else 0
def colsZ (x : Cfg) (p : Int) : Int := if p = 10 then x.n else if 0 ≤ p ∧ p ≤ 11 then x.d else 0
def areaZ (x : Cfg) (p : Int) : Int := rowsZ x p * colsZ x p
/-- How many bytes k parts from f on have. -/
def spanZ (x : Cfg) (f : Nat) : Nat → Int
  | 0 => 0
  | k + 1 => spanZ x f k + areaZ x ((f + k : Nat) : Int)
theorem part_cases {p : Int} (h0 : 0 ≤ p) (h1 : p ≤ 11) : p = 0 ∨ p = 1 ∨ p = 2 ∨ p = 3 ∨ p = 4 ∨ p = 5 ∨ p = 6 ∨ p = 7 ∨ p = 8 ∨ p = 9 ∨ p = 10 ∨ p = 11 := by omega
theorem rows_in {x : Cfg} (h : In x) {p : Int} (h0 : 0 ≤ p) (h1 : p ≤ 11) : 1 ≤ rowsZ x p ∧ rowsZ x p ≤ 32 := by
  obtain ⟨a, b, c, d, e, f, g, h, i, j, k, l⟩ := h
  unfold rowsZ
  repeat' split
  all_goals omega
theorem cols_in {x : Cfg} (h : In x) {p : Int} (h0 : 0 ≤ p) (h1 : p ≤ 11) : 1 ≤ colsZ x p ∧ colsZ x p ≤ 32 := by
  obtain ⟨a, b, c, d, e, f, g, h, i, j, k, l⟩ := h
  unfold colsZ
  repeat' split
  all_goals omega
theorem rows_out (x : Cfg) {p : Int} (h : p < 0 ∨ 11 < p) : rowsZ x p = 0 := by
  unfold rowsZ
  repeat' rw [if_neg (by omega)]
theorem cols_out (x : Cfg) {p : Int} (h : p < 0 ∨ 11 < p) : colsZ x p = 0 := by
  unfold colsZ
  repeat' rw [if_neg (by omega)]
theorem prod_in {a b : Int} (h1 : 1 ≤ a) (h2 : a ≤ 32) (h3 : 1 ≤ b) (h4 : b ≤ 32) : 1 ≤ a * b ∧ a * b ≤ 1024 :=
  ⟨by have := Int.mul_le_mul h1 h3 (by omega) (by omega); omega, by have := Int.mul_le_mul h2 h4 (by omega) (by omega : (0 : Int) ≤ 32); omega⟩
theorem area_in {x : Cfg} (h : In x) {p : Int} (h0 : 0 ≤ p) (h1 : p ≤ 11) : 1 ≤ areaZ x p ∧ areaZ x p ≤ 1024 := by
  obtain ⟨a, b⟩ := rows_in h h0 h1
  obtain ⟨c, d⟩ := cols_in h h0 h1
  exact prod_in a b c d
theorem span_in {x : Cfg} (h : In x) (f : Nat) : ∀ k, f + k ≤ 12 → (k : Int) ≤ spanZ x f k ∧ spanZ x f k ≤ 1024 * (k : Int)
  | 0, _ => by simp [spanZ]
  | k + 1, hk => by
    have h1 := span_in h f k (by omega)
    have h2 := area_in h (p := ((f + k : Nat) : Int)) (by omega) (by omega)
    unfold spanZ
    omega
def totZ (x : Cfg) : Int := spanZ x 0 2 + x.b * spanZ x 2 9 + spanZ x 11 1
def goodZ (x : Cfg) : Bool := inZ x && (decide (x.d.tmod x.h = 0) && decide (totZ x ≤ 8192))
structure Good (x : Cfg) : Prop where
  is : In x
  rest : x.d.tmod x.h = 0
  fits : totZ x ≤ 8192
theorem good_iff {x : Cfg} : goodZ x = true ↔ Good x := by
  unfold goodZ
  simp only [Bool.and_eq_true, decide_eq_true_iff, in_iff]
  exact ⟨fun ⟨a, b, c⟩ => ⟨a, b, c⟩, fun ⟨a, b, c⟩ => ⟨a, b, c⟩⟩
theorem mid_in {x : Cfg} (h : In x) : 0 ≤ x.b * spanZ x 2 9 ∧ x.b * spanZ x 2 9 ≤ 27648 := by
  have h1 := span_in h 2 9 (by omega)
  have h2 := h.b1
  have h3 := h.b3
  exact ⟨Int.mul_nonneg (by omega) (by omega), by have := Int.mul_le_mul h3 (show spanZ x 2 9 ≤ 9216 by omega) (by omega) (by omega : (0 : Int) ≤ 3); omega⟩
theorem tot_in {x : Cfg} (h : In x) : 0 ≤ totZ x ∧ totZ x ≤ 40000 := by
  have h1 := span_in h 0 2 (by omega)
  have h2 := span_in h 11 1 (by omega)
  have h3 := mid_in h
  unfold totZ
  omega
/-- Of how many blocks there is a part. -/
def timesZ (x : Cfg) (p : Int) : Int := if 2 ≤ p ∧ p < 11 then x.b else 1
/-- Whether there is such a part of such a block; from where on it stands. -/
def isZ (x : Cfg) (p k : Int) : Bool := goodZ x && (decide (0 ≤ p) && (decide (p ≤ 11) && (decide (0 ≤ k) && decide (k < timesZ x p))))
def fromZ (x : Cfg) (p k : Int) : Int := (if p = 11 then x.b - 1 else k) * spanZ x 2 9 + spanZ x 0 p.toNat
end Cf
end Go.Proofs.YtgenpfhcbopokaaDoor
