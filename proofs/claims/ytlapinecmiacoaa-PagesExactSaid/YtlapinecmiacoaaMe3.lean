/-
  Models' shapes in plain words: six numbers, whether they can be, how many rows and columns a part has, where it stands. No program here. No conditions.
  The rows of all parts of all blocks, as the document's own answer gathers them. No program here. No conditions.
  The rows of all parts of all blocks: what is among them, and where each stands. No program here. Condition: each number alone can be.
  The parts of all blocks cover the weights, none twice. No program here. Condition: each number alone can be.
-/
import Derived.Test.YtlapinecmiacoaaMe1
set_option maxRecDepth 100000
namespace Go.Proofs.Ytlapinecmiacoaa
open Go Go.RowKit
namespace Cf

structure Cfg where
  v : Int
  d : Int
  h : Int
  b : Int
  n : Int
  c : Int
def cfA (x : Cfg) : Array Value := #[.int .i64 x.v, .int .i64 x.d, .int .i64 x.h, .int .i64 x.b, .int .i64 x.n, .int .i64 x.c]
def cfV (x : Cfg) : Value := .agg (cfA x)
def withinZ (n l m : Int) : Bool := decide (l ≤ n) && decide (n ≤ m)
def inZ (x : Cfg) : Bool := withinZ x.v 2 32 && (withinZ x.d 1 16 && (withinZ x.h 1 4 && (withinZ x.b 1 3 && (withinZ x.n 1 32 && withinZ x.c 1 32))))
structure In (x : Cfg) : Prop where
  v2 : 2 ≤ x.v
  v32 : x.v ≤ 32
  d1 : 1 ≤ x.d
  d16 : x.d ≤ 16
  h1 : 1 ≤ x.h
  h4 : x.h ≤ 4
  b1 : 1 ≤ x.b
  b3 : x.b ≤ 3
  n1 : 1 ≤ x.n
  n32 : x.n ≤ 32
  c1 : 1 ≤ x.c
  c32 : x.c ≤ 32
theorem within_iff {n l m : Int} : withinZ n l m = true ↔ l ≤ n ∧ n ≤ m := by
  unfold withinZ
  simp only [Bool.and_eq_true, decide_eq_true_iff]
theorem in_iff {x : Cfg} : inZ x = true ↔ In x := by
  unfold inZ
  simp only [Bool.and_eq_true, within_iff]
  constructor
  · rintro ⟨⟨a, b⟩, ⟨c, d⟩, ⟨e, f⟩, ⟨g, h⟩, ⟨i, j⟩, k, l⟩
    exact ⟨a, b, c, d, e, f, g, h, i, j, k, l⟩
  · rintro ⟨a, b, c, d, e, f, g, h, i, j, k, l⟩
    exact ⟨⟨a, b⟩, ⟨c, d⟩, ⟨e, f⟩, ⟨g, h⟩, ⟨i, j⟩, k, l⟩
/-- How many rows and columns a part has; 0, if it is none. -/
def rowsZ (x : Cfg) (p : Int) : Int := if p = 0 then x.v else if p = 1 then x.c else if p = 2 ∨ p = 7 ∨ p = 11 then 1 else if p = 3 ∨ p = 4 ∨ p = 5 ∨ p = 6 then x.d else if p = 8 ∨ p = 9 then x.n else if p = 10 then x.d else 0
def colsZ (x : Cfg) (p : Int) : Int := if p = 10 then x.n else if 0 ≤ p ∧ p ≤ 11 then x.d else 0
def areaZ (x : Cfg) (p : Int) : Int := rowsZ x p * colsZ x p
/-- How many bytes k parts from f on have. -/
def spanZ (x : Cfg) (f : Nat) : Nat → Int
  | 0 => 0
  | k + 1 => spanZ x f k + areaZ x ((f + k : Nat) : Int)
theorem part_cases {p : Int} (h0 : 0 ≤ p) (h1 : p ≤ 11) : p = 0 ∨ p = 1 ∨ p = 2 ∨ p = 3 ∨ p = 4 ∨ p = 5 ∨ p = 6 ∨ p = 7 ∨ p = 8 ∨ p = 9 ∨ p = 10 ∨ p = 11 := by omega
theorem rows_in {x : Cfg} (h : In x) {p : Int} (h0 : 0 ≤ p) (h1 : p ≤ 11) : 1 ≤ rowsZ x p ∧ rowsZ x p ≤ 32 := by
  obtain ⟨a, b, c, d, e, f, g, h, i, j, k, l⟩ := h
  unfold rowsZ
  repeat' split
  all_goals omega
theorem cols_in {x : Cfg} (h : In x) {p : Int} (h0 : 0 ≤ p) (h1 : p ≤ 11) : 1 ≤ colsZ x p ∧ colsZ x p ≤ 32 := by
  obtain ⟨a, b, c, d, e, f, g, h, i, j, k, l⟩ := h
  unfold colsZ
  repeat' split
  all_goals omega
theorem rows_out (x : Cfg) {p : Int} (h : p < 0 ∨ 11 < p) : rowsZ x p = 0 := by
  unfold rowsZ
  repeat' rw [if_neg (by omega)]
theorem cols_out (x : Cfg) {p : Int} (h : p < 0 ∨ 11 < p) : colsZ x p = 0 := by
  unfold colsZ
  repeat' rw [if_neg (by omega)]
theorem prod_in {a b : Int} (h1 : 1 ≤ a) (h2 : a ≤ 32) (h3 : 1 ≤ b) (h4 : b ≤ 32) : 1 ≤ a * b ∧ a * b ≤ 1024 :=
  ⟨by have := Int.mul_le_mul h1 h3 (by omega) (by omega); omega, by have := Int.mul_le_mul h2 h4 (by omega) (by omega : (0 : Int) ≤ 32); omega⟩
theorem area_in {x : Cfg} (h : In x) {p : Int} (h0 : 0 ≤ p) (h1 : p ≤ 11) : 1 ≤ areaZ x p ∧ areaZ x p ≤ 1024 := by
  obtain ⟨a, b⟩ := rows_in h h0 h1
  obtain ⟨c, d⟩ := cols_in h h0 h1
  exact prod_in a b c d
theorem span_in {x : Cfg} (h : In x) (f : Nat) : ∀ k, f + k ≤ 12 → (k : Int) ≤ spanZ x f k ∧ spanZ x f k ≤ 1024 * (k : Int)
  | 0, _ => by simp [spanZ]
  | k + 1, hk => by
    have h1 := span_in h f k (by omega)
    have h2 := area_in h (p := ((f + k : Nat) : Int)) (by omega) (by omega)
    unfold spanZ
    omega
def totZ (x : Cfg) : Int := spanZ x 0 2 + x.b * spanZ x 2 9 + spanZ x 11 1
def goodZ (x : Cfg) : Bool := inZ x && (decide (x.d.tmod x.h = 0) && decide (totZ x ≤ 8192))
structure Good (x : Cfg) : Prop where
  is : In x
  rest : x.d.tmod x.h = 0
  fits : totZ x ≤ 8192
theorem good_iff {x : Cfg} : goodZ x = true ↔ Good x := by
  unfold goodZ
  simp only [Bool.and_eq_true, decide_eq_true_iff, in_iff]
  exact ⟨fun ⟨a, b, c⟩ => ⟨a, b, c⟩, fun ⟨a, b, c⟩ => ⟨a, b, c⟩⟩
theorem mid_in {x : Cfg} (h : In x) : 0 ≤ x.b * spanZ x 2 9 ∧ x.b * spanZ x 2 9 ≤ 27648 := by
  have h1 := span_in h 2 9 (by omega)
  have h2 := h.b1
  have h3 := h.b3
  exact ⟨Int.mul_nonneg (by omega) (by omega), by have := Int.mul_le_mul h3 (show spanZ x 2 9 ≤ 9216 by omega) (by omega) (by omega : (0 : Int) ≤ 3); omega⟩
theorem tot_in {x : Cfg} (h : In x) : 0 ≤ totZ x ∧ totZ x ≤ 40000 := by
  have h1 := span_in h 0 2 (by omega)
  have h2 := span_in h 11 1 (by omega)
  have h3 := mid_in h
  unfold totZ
  omega
/-- Of how many blocks there is a part. -/
def timesZ (x : Cfg) (p : Int) : Int := if 2 ≤ p ∧ p < 11 then x.b else 1
/-- Whether there is such a part of such a block; from where on it stands. -/
def isZ (x : Cfg) (p k : Int) : Bool := goodZ x && (decide (0 ≤ p) && (decide (p ≤ 11) && (decide (0 ≤ k) && decide (k < timesZ x p))))
def fromZ (x : Cfg) (p k : Int) : Int := (if p = 11 then x.b - 1 else k) * spanZ x 2 9 + spanZ x 0 p.toNat
end Cf
end Go.Proofs.Ytlapinecmiacoaa
namespace Go.Proofs.Ytlapinecmiacoaa
open Go Go.RowKit
namespace Cf

structure Rw where
  p : Int
  k : Int
  a : Int
  m : Int
def rwL (r : Rw) : List Value := [.int .i64 r.p, .int .i64 r.k, .int .i64 r.a, .int .i64 r.m]
def rwsL (L : List Rw) : List Value := L.flatMap rwL
theorem rwsL_length (L : List Rw) : (rwsL L).length = L.length * 4 := by
  unfold rwsL
  induction L with
  | nil => rfl
  | cons r L ih => rw [List.flatMap_cons, List.length_append, ih, List.length_cons]; show 4 + _ = _; omega
theorem rwsL_next (L : List Rw) (r : Rw) : rwsL (L ++ [r]) = rwsL L ++ rwL r := by
  unfold rwsL
  rw [List.flatMap_append, List.flatMap_cons, List.flatMap_nil, List.append_nil]
theorem rwsL_at : ∀ (L : List Rw) (i : Nat) (r : Rw), L[i]? = some r → ∀ j, j < 4 → (rwsL L)[i * 4 + j]? = (rwL r)[j]?
  | [], i, r, h, _, _ => by simp at h
  | q :: L, 0, r, h, j, hj => by
    rw [List.getElem?_cons_zero] at h
    injection h with h
    subst h
    unfold rwsL
    rw [List.flatMap_cons, List.getElem?_append_left (by show 0 * 4 + j < 4; omega), Nat.zero_mul, Nat.zero_add]
  | q :: L, i + 1, r, h, j, hj => by
    rw [List.getElem?_cons_succ] at h
    unfold rwsL
    rw [List.flatMap_cons, List.getElem?_append_right (by show 4 ≤ _; omega)]
    have := rwsL_at L i r h j hj
    unfold rwsL at this
    rw [← this]
    congr 1
    show (i + 1) * 4 + j - 4 = i * 4 + j
    omega
/-- Whether a part is left out beside block b; what block is told. -/
def skipB (x : Cfg) (b : Int) (p : Nat) : Bool := (decide (b < 0) && decide (1 < p)) || (decide (b = x.b) && decide (p < 11)) || (decide (0 ≤ b) && decide (b < x.b) && (decide (p < 2) || decide (10 < p)))
def blkZ (b : Int) (p : Nat) : Int := if p < 2 ∨ p = 11 then 0 else b
def inner (x : Cfg) (b : Int) (s : List Rw × Int) : Nat → List Rw × Int
  | 0 => s
  | p + 1 => if skipB x b p = true then inner x b s p else ((inner x b s p).1 ++ [⟨(p : Int), blkZ b p, (inner x b s p).2, areaZ x (p : Int)⟩], (inner x b s p).2 + areaZ x (p : Int))
def outer (x : Cfg) : Nat → List Rw × Int
  | 0 => ([], 0)
  | n + 1 => inner x ((n : Int) - 1) (outer x n) 12
structure OkS (s : List Rw × Int) (c : Nat) : Prop where
  len : s.1.length ≤ c
  low : 0 ≤ s.2
  high : s.2 ≤ 1024 * (c : Int)
theorem inner_ok {x : Cfg} (h : In x) (b : Int) {s : List Rw × Int} {c : Nat} (hs : OkS s c) : ∀ p, p ≤ 12 → OkS (inner x b s p) (c + p)
  | 0, _ => hs
  | p + 1, hp => by
    obtain ⟨h1, h2, h3⟩ := inner_ok h b hs p (by omega)
    have h4 := area_in h (p := (p : Int)) (by omega) (by omega)
    unfold inner
    split
    · exact ⟨by omega, h2, by omega⟩
    · exact ⟨by show ((inner x b s p).1 ++ [_]).length ≤ _; rw [List.length_append]; show _ + 1 ≤ _; omega, by show 0 ≤ _ + _; omega, by show _ + _ ≤ _; omega⟩
theorem outer_ok {x : Cfg} (h : In x) : ∀ n, OkS (outer x n) (12 * n)
  | 0 => ⟨Nat.le_refl _, Int.le_refl _, Int.le_refl _⟩
  | n + 1 => inner_ok h _ (outer_ok h n) 12 (Nat.le_refl _)
end Cf
end Go.Proofs.Ytlapinecmiacoaa
namespace Go.Proofs.Ytlapinecmiacoaa
open Go Go.RowKit
namespace Cf

theorem span_split (x : Cfg) (f i : Nat) : ∀ j, spanZ x f (i + j) = spanZ x f i + spanZ x (f + i) j
  | 0 => by rw [Nat.add_zero]; show _ = _ + 0; omega
  | j + 1 => by
    show spanZ x f (i + j) + areaZ x ((f + (i + j) : Nat) : Int) = spanZ x f i + (spanZ x (f + i) j + areaZ x ((f + i + j : Nat) : Int))
    rw [span_split x f i j, Nat.add_assoc f i j]
    omega
theorem inner_skip {x : Cfg} {b : Int} {s : List Rw × Int} {p : Nat} (h : skipB x b p = true) : inner x b s (p + 1) = inner x b s p := if_pos h
theorem inner_add {x : Cfg} {b : Int} {s : List Rw × Int} {p : Nat} (h : ¬ skipB x b p = true) : inner x b s (p + 1) = ((inner x b s p).1 ++ [⟨(p : Int), blkZ b p, (inner x b s p).2, areaZ x (p : Int)⟩], (inner x b s p).2 + areaZ x (p : Int)) := if_neg h
theorem skip_is {x : Cfg} {b : Int} {p : Nat} : skipB x b p = true ↔ (b < 0 ∧ 1 < p) ∨ (b = x.b ∧ p < 11) ∨ (0 ≤ b ∧ b < x.b ∧ (p < 2 ∨ 10 < p)) := by
  unfold skipB
  simp only [Bool.or_eq_true, Bool.and_eq_true, decide_eq_true_iff, or_assoc, and_assoc]
/-- The parts from f on, k of them, of a block that is told as q. -/
def partRows (x : Cfg) (q a : Int) (f : Nat) : Nat → List Rw
  | 0 => []
  | k + 1 => partRows x q a f k ++ [⟨((f + k : Nat) : Int), q, a + spanZ x f k, areaZ x ((f + k : Nat) : Int)⟩]
theorem inner_none {x : Cfg} {b : Int} {s : List Rw × Int} {f : Nat} : ∀ k, (∀ j, j < k → skipB x b (f + j) = true) → inner x b s (f + k) = inner x b s f
  | 0, _ => rfl
  | k + 1, h => by
    show inner x b s (f + k + 1) = _
    rw [inner_skip (h k (by omega)), inner_none k fun j hj => h j (by omega)]
theorem inner_some {x : Cfg} {b q : Int} {s : List Rw × Int} {f : Nat} (h0 : inner x b s f = s) : ∀ k, (∀ j, j < k → ¬ skipB x b (f + j) = true ∧ blkZ b (f + j) = q) → inner x b s (f + k) = (s.1 ++ partRows x q s.2 f k, s.2 + spanZ x f k)
  | 0, _ => by
    show inner x b s f = (s.1 ++ [], s.2 + 0)
    rw [h0, List.append_nil, Int.add_zero]
  | k + 1, h => by
    show inner x b s (f + k + 1) = _
    obtain ⟨h1, h2⟩ := h k (by omega)
    rw [inner_add h1, h2, inner_some h0 k fun j hj => h j (by omega)]
    show (s.1 ++ partRows x q s.2 f k ++ [_], s.2 + spanZ x f k + _) = (s.1 ++ (partRows x q s.2 f k ++ [_]), s.2 + (spanZ x f k + _))
    rw [List.append_assoc, Int.add_assoc]
theorem inner_first {x : Cfg} (hx : 1 ≤ x.b) (s : List Rw × Int) : inner x (-1) s 12 = (s.1 ++ partRows x 0 s.2 0 2, s.2 + spanZ x 0 2) := by
  have h1 := inner_none (x := x) (b := -1) (s := s) (f := 2) 10 fun j hj => by rw [skip_is]; omega
  have h2 := inner_some (x := x) (b := -1) (q := 0) (s := s) (f := 0) rfl 2 fun j hj => ⟨by rw [skip_is]; omega, by unfold blkZ; rw [if_pos (by omega)]⟩
  exact h1.trans h2
theorem inner_mid {x : Cfg} {b : Int} (h0 : 0 ≤ b) (h1 : b < x.b) (s : List Rw × Int) : inner x b s 12 = (s.1 ++ partRows x b s.2 2 9, s.2 + spanZ x 2 9) := by
  have h2 := inner_none (x := x) (b := b) (s := s) (f := 11) 1 fun j hj => by rw [skip_is]; omega
  have h3 := inner_none (x := x) (b := b) (s := s) (f := 0) 2 fun j hj => by rw [skip_is]; omega
  have h4 := inner_some (x := x) (b := b) (q := b) (s := s) (f := 2) h3 9 fun j hj => ⟨by rw [skip_is]; omega, by unfold blkZ; rw [if_neg (by omega)]⟩
  exact h2.trans h4
theorem inner_last {x : Cfg} (hx : 1 ≤ x.b) (s : List Rw × Int) : inner x x.b s 12 = (s.1 ++ partRows x 0 s.2 11 1, s.2 + spanZ x 11 1) := by
  have h3 := inner_none (x := x) (b := x.b) (s := s) (f := 0) 11 fun j hj => by rw [skip_is]; omega
  exact inner_some (x := x) (b := x.b) (q := 0) (s := s) (f := 11) h3 1 fun j hj => ⟨by rw [skip_is]; omega, by unfold blkZ; rw [if_pos (by omega)]⟩
/-- All blocks' rows. -/
def blocks (x : Cfg) : Nat → List Rw
  | 0 => []
  | k + 1 => blocks x k ++ partRows x (k : Int) (spanZ x 0 2 + (k : Int) * spanZ x 2 9) 2 9
theorem outer_mid {x : Cfg} (hx : 1 ≤ x.b) : ∀ n : Nat, (n : Int) ≤ x.b → outer x (n + 1) = (partRows x 0 0 0 2 ++ blocks x n, spanZ x 0 2 + (n : Int) * spanZ x 2 9)
  | 0, _ => by
    show inner x (-1) ([], 0) 12 = _
    rw [inner_first hx]
    show (([] : List Rw) ++ partRows x 0 0 0 2, 0 + spanZ x 0 2) = (partRows x 0 0 0 2 ++ [], spanZ x 0 2 + 0 * _)
    rw [List.nil_append, List.append_nil, Int.zero_mul, Int.zero_add, Int.add_zero]
  | n + 1, h => by
    show inner x (((n + 1 : Nat) : Int) - 1) (outer x (n + 1)) 12 = _
    rw [show (((n + 1 : Nat) : Int) - 1) = (n : Int) by omega, outer_mid hx n (by omega), inner_mid (by omega) (by omega)]
    show (partRows x 0 0 0 2 ++ blocks x n ++ _, _ + _) = (partRows x 0 0 0 2 ++ (blocks x n ++ _), _)
    rw [List.append_assoc, show (((n + 1 : Nat) : Int)) = (n : Int) + 1 by omega, Int.add_mul, Int.one_mul, Int.add_assoc]
def allRows (x : Cfg) : List Rw := partRows x 0 0 0 2 ++ blocks x x.b.toNat ++ partRows x 0 (spanZ x 0 2 + x.b * spanZ x 2 9) 11 1
theorem outer_all {x : Cfg} (hx : 1 ≤ x.b) : outer x (x.b.toNat + 2) = (allRows x, totZ x) := by
  have hb : ((x.b.toNat : Nat) : Int) = x.b := by omega
  show inner x (((x.b.toNat + 1 : Nat) : Int) - 1) (outer x (x.b.toNat + 1)) 12 = _
  rw [show (((x.b.toNat + 1 : Nat) : Int) - 1) = x.b by omega, outer_mid hx _ (by omega), inner_last hx, hb]
  rfl
theorem part_mem {x : Cfg} {q a : Int} {f : Nat} {r : Rw} : ∀ k, r ∈ partRows x q a f k ↔ ∃ i, i < k ∧ r = ⟨((f + i : Nat) : Int), q, a + spanZ x f i, areaZ x ((f + i : Nat) : Int)⟩
  | 0 => by
    show r ∈ ([] : List Rw) ↔ _
    simp
  | k + 1 => by
    show r ∈ partRows x q a f k ++ [_] ↔ _
    rw [List.mem_append, part_mem k, List.mem_singleton]
    constructor
    · rintro (⟨i, hi, h⟩ | h)
      · exact ⟨i, by omega, h⟩
      · exact ⟨k, by omega, h⟩
    · rintro ⟨i, hi, h⟩
      by_cases hik : i = k
      · exact .inr (by rw [h, hik])
      · exact .inl ⟨i, by omega, h⟩
theorem block_mem {x : Cfg} {r : Rw} : ∀ n, r ∈ blocks x n ↔ ∃ k, k < n ∧ r ∈ partRows x (k : Int) (spanZ x 0 2 + (k : Int) * spanZ x 2 9) 2 9
  | 0 => by
    show r ∈ ([] : List Rw) ↔ _
    simp
  | n + 1 => by
    show r ∈ blocks x n ++ _ ↔ _
    rw [List.mem_append, block_mem n]
    constructor
    · rintro (⟨i, hi, h⟩ | h)
      · exact ⟨i, by omega, h⟩
      · exact ⟨n, by omega, h⟩
    · rintro ⟨i, hi, h⟩
      by_cases hik : i = n
      · exact .inr (by rw [hik] at h; exact h)
      · exact .inl ⟨i, by omega, h⟩
/-- Each row tells a part that is there, and where it stands. -/
theorem row_tells {x : Cfg} (h : In x) {r : Rw} (hr : r ∈ allRows x) : 0 ≤ r.p ∧ r.p ≤ 11 ∧ 0 ≤ r.k ∧ r.k < timesZ x r.p ∧ r.a = fromZ x r.p r.k ∧ r.m = areaZ x r.p := by
  have hb := h.b1
  unfold allRows at hr
  rw [List.mem_append, List.mem_append, part_mem, block_mem, part_mem] at hr
  rcases hr with (⟨i, hi, rfl⟩ | ⟨k, hk, hr⟩) | ⟨i, hi, rfl⟩
  · refine ⟨by dsimp only; omega, by dsimp only; omega, Int.le_refl _, ?_, ?_, rfl⟩
    · dsimp only; unfold timesZ; rw [if_neg (by omega)]; omega
    · dsimp only; unfold fromZ; rw [if_neg (by omega), Int.zero_mul, Nat.zero_add, Int.toNat_natCast]
  · rw [part_mem] at hr
    obtain ⟨i, hi, rfl⟩ := hr
    refine ⟨by dsimp only; omega, by dsimp only; omega, by dsimp only; omega, ?_, ?_, rfl⟩
    · dsimp only; unfold timesZ; rw [if_pos (by omega)]; omega
    · dsimp only
      unfold fromZ
      rw [if_neg (by omega), Int.toNat_natCast, span_split x 0 2 i, Nat.zero_add]
      omega
  · obtain rfl : i = 0 := by omega
    refine ⟨by dsimp only; omega, by dsimp only; omega, Int.le_refl _, ?_, ?_, rfl⟩
    · show 0 < timesZ x 11; unfold timesZ; rw [if_neg (by omega)]; omega
    · show spanZ x 0 2 + x.b * spanZ x 2 9 + 0 = fromZ x 11 0
      unfold fromZ
      rw [if_pos rfl, show (11 : Int).toNat = 2 + 9 from rfl, span_split x 0 2 9, Nat.zero_add, Int.sub_mul, Int.one_mul]
      omega
/-- Each part that is there has a row. -/
theorem row_there {x : Cfg} (h : In x) {p k : Int} (h0 : 0 ≤ p) (h1 : p ≤ 11) (h2 : 0 ≤ k) (h3 : k < timesZ x p) : ∃ r, r ∈ allRows x ∧ r.p = p ∧ r.k = k := by
  have hb := h.b1
  unfold allRows
  unfold timesZ at h3
  simp only [List.mem_append, part_mem, block_mem]
  by_cases hp : p < 2
  · rw [if_neg (by omega)] at h3
    exact ⟨⟨p, k, 0 + spanZ x 0 p.toNat, areaZ x p⟩, .inl (.inl ⟨p.toNat, by omega, by rw [Nat.zero_add, show ((p.toNat : Nat) : Int) = p by omega, show k = 0 by omega]⟩), rfl, rfl⟩
  · by_cases hp2 : p < 11
    · rw [if_pos (by omega)] at h3
      have hk : ((k.toNat : Nat) : Int) = k := by omega
      exact ⟨_, .inl (.inr ⟨k.toNat, by omega, (p - 2).toNat, by omega, rfl⟩), by dsimp only; omega, hk⟩
    · rw [if_neg (by omega)] at h3
      exact ⟨_, .inr ⟨0, by omega, rfl⟩, by dsimp only; omega, by dsimp only; omega⟩
/-- The last row ends where the weights end. -/
theorem last_row (x : Cfg) : ∃ l r, allRows x = l ++ [r] ∧ r.a + r.m = totZ x :=
  ⟨partRows x 0 0 0 2 ++ blocks x x.b.toNat, ⟨((11 + 0 : Nat) : Int), 0, spanZ x 0 2 + x.b * spanZ x 2 9 + spanZ x 11 0, areaZ x ((11 + 0 : Nat) : Int)⟩, rfl, by
    show spanZ x 0 2 + x.b * spanZ x 2 9 + 0 + areaZ x ((11 + 0 : Nat) : Int) = spanZ x 0 2 + x.b * spanZ x 2 9 + (0 + areaZ x ((11 + 0 : Nat) : Int))
    omega⟩
theorem part_len {x : Cfg} {q a : Int} {f : Nat} : ∀ k, (partRows x q a f k).length = k
  | 0 => rfl
  | k + 1 => by show (partRows x q a f k ++ [_]).length = _; rw [List.length_append, part_len k]; rfl
theorem block_len {x : Cfg} : ∀ n, (blocks x n).length = 9 * n
  | 0 => rfl
  | n + 1 => by show (blocks x n ++ _).length = _; rw [List.length_append, block_len n, part_len]; omega
theorem all_len {x : Cfg} (h : In x) : (allRows x).length ≤ 30 := by
  have := h.b3
  unfold allRows
  rw [List.length_append, List.length_append, part_len, part_len, block_len]
  omega
end Cf
end Go.Proofs.Ytlapinecmiacoaa
namespace Go.Proofs.Ytlapinecmiacoaa
open Go Go.RowKit
namespace Cf

theorem span_mono {x : Cfg} (h : In x) (f : Nat) {q : Nat} : ∀ d, f + (q + d) ≤ 12 → spanZ x f q ≤ spanZ x f (q + d)
  | 0, _ => Int.le_refl _
  | d + 1, hd => by
    have h1 := span_mono h f (q := q) d (by omega)
    have h2 := area_in h (p := ((f + (q + d) : Nat) : Int)) (by omega) (by omega)
    show spanZ x f q ≤ spanZ x f (q + d) + areaZ x ((f + (q + d) : Nat) : Int)
    omega
theorem span_find {x : Cfg} (f : Nat) (j : Int) (h0 : 0 ≤ j) : ∀ n, j < spanZ x f n → ∃ q, q < n ∧ spanZ x f q ≤ j ∧ j < spanZ x f (q + 1)
  | 0, h => by
    have : spanZ x f 0 = 0 := rfl
    omega
  | n + 1, h => by
    by_cases hj : j < spanZ x f n
    · obtain ⟨q, a, b, c⟩ := span_find f j h0 n hj
      exact ⟨q, by omega, b, c⟩
    · exact ⟨n, by omega, by omega, h⟩
theorem span_same {x : Cfg} (h : In x) (f : Nat) {j : Int} {q r : Nat} (hq : f + (q + 1) ≤ 12) (hr : f + (r + 1) ≤ 12) (h1 : spanZ x f q ≤ j) (h2 : j < spanZ x f (q + 1)) (h3 : spanZ x f r ≤ j) (h4 : j < spanZ x f (r + 1)) : q = r := by
  by_cases h5 : q < r
  · have := span_mono h f (q := q + 1) (r - (q + 1)) (by omega)
    rw [show q + 1 + (r - (q + 1)) = r by omega] at this
    omega
  · by_cases h6 : r < q
    · have := span_mono h f (q := r + 1) (q - (r + 1)) (by omega)
      rw [show r + 1 + (q - (r + 1)) = q by omega] at this
      omega
    · omega
theorem block_find (S j : Int) (h0 : 0 ≤ j) : ∀ n : Nat, j < (n : Int) * S → ∃ k, k < n ∧ (k : Int) * S ≤ j ∧ j < (k : Int) * S + S
  | 0, h => by
    rw [show ((0 : Nat) : Int) * S = 0 from Int.zero_mul S] at h
    omega
  | n + 1, h => by
    by_cases hj : j < (n : Int) * S
    · obtain ⟨q, a, b, c⟩ := block_find S j h0 n hj
      exact ⟨q, by omega, b, c⟩
    · refine ⟨n, by omega, by omega, ?_⟩
      rw [show ((n + 1 : Nat) : Int) = (n : Int) + 1 by omega, Int.add_mul, Int.one_mul] at h
      exact h
theorem mul_up {S : Int} (hS : 0 ≤ S) {a b : Int} (h : a + 1 ≤ b) : a * S + S ≤ b * S := by
  have := Int.mul_le_mul_of_nonneg_right h hS
  rwa [Int.add_mul, Int.one_mul] at this
theorem block_same {S j a b : Int} (hS : 0 ≤ S) (h1 : a * S ≤ j) (h2 : j < a * S + S) (h3 : b * S ≤ j) (h4 : j < b * S + S) : a = b := by
  by_cases h5 : a < b
  · have := mul_up hS (show a + 1 ≤ b by omega)
    omega
  · by_cases h6 : b < a
    · have := mul_up hS (show b + 1 ≤ a by omega)
      omega
    · omega
/-- A part of a block has the byte i. -/
structure Hit (x : Cfg) (p k : Nat) (i : Int) : Prop where
  part : p ≤ 11
  block : (k : Int) < timesZ x (p : Int)
  low : fromZ x (p : Int) (k : Int) ≤ i
  high : i < fromZ x (p : Int) (k : Int) + areaZ x (p : Int)
theorem times_one {x : Cfg} {p : Nat} (h : p < 2 ∨ 10 < p) : timesZ x (p : Int) = 1 := by unfold timesZ; rw [if_neg (by omega)]
theorem times_mid {x : Cfg} {p : Nat} (h1 : 2 ≤ p) (h2 : p < 11) : timesZ x (p : Int) = x.b := by unfold timesZ; rw [if_pos (by omega)]
theorem from_first {x : Cfg} {p : Nat} (h : p < 2) : fromZ x (p : Int) ((0 : Nat) : Int) = spanZ x 0 p := by
  unfold fromZ
  rw [if_neg (by omega), show ((0 : Nat) : Int) = 0 from rfl, Int.zero_mul, Int.toNat_natCast, Int.zero_add]
theorem from_mid {x : Cfg} {q k : Nat} (h : q < 9) : fromZ x ((2 + q : Nat) : Int) (k : Int) = spanZ x 0 2 + (k : Int) * spanZ x 2 9 + spanZ x 2 q := by
  unfold fromZ
  rw [if_neg (by omega), Int.toNat_natCast, span_split x 0 2 q, Nat.zero_add]
  omega
theorem from_last (x : Cfg) (k : Int) : fromZ x ((11 : Nat) : Int) k = spanZ x 0 2 + x.b * spanZ x 2 9 := by
  unfold fromZ
  rw [if_pos (show ((11 : Nat) : Int) = 11 from rfl), Int.toNat_natCast, show (11 : Nat) = 2 + 9 from rfl, span_split x 0 2 9, Nat.zero_add, Int.sub_mul, Int.one_mul]
  omega
theorem part_class {p : Nat} (h : p ≤ 11) : p < 2 ∨ (∃ q, q < 9 ∧ p = 2 + q) ∨ p = 11 := by
  by_cases h1 : p < 2
  · exact .inl h1
  · by_cases h2 : p < 11
    · exact .inr (.inl ⟨p - 2, by omega, by omega⟩)
    · exact .inr (.inr (by omega))
theorem hit_there {x : Cfg} (h : In x) {i : Int} (h0 : 0 ≤ i) (h1 : i < totZ x) : ∃ p k, Hit x p k i := by
  have hb := h.b1
  by_cases c1 : i < spanZ x 0 2
  · obtain ⟨q, a, b, c⟩ := span_find (x := x) 0 i h0 2 c1
    refine ⟨q, 0, by omega, by rw [times_one (.inl a)]; omega, by rw [from_first a]; exact b, ?_⟩
    rw [from_first a]
    have : spanZ x 0 (q + 1) = spanZ x 0 q + areaZ x ((0 + q : Nat) : Int) := rfl
    rw [Nat.zero_add] at this
    omega
  · by_cases c2 : i < spanZ x 0 2 + x.b * spanZ x 2 9
    · obtain ⟨k, a, b, c⟩ := block_find (spanZ x 2 9) (i - spanZ x 0 2) (by omega) x.b.toNat (by rw [show ((x.b.toNat : Nat) : Int) = x.b by omega]; omega)
      obtain ⟨q, d, e, f⟩ := span_find (x := x) 2 (i - spanZ x 0 2 - (k : Int) * spanZ x 2 9) (by omega) 9 (by omega)
      refine ⟨2 + q, k, by omega, by rw [times_mid (by omega) (by omega)]; omega, by rw [from_mid d]; omega, ?_⟩
      rw [from_mid d]
      have : spanZ x 2 (q + 1) = spanZ x 2 q + areaZ x ((2 + q : Nat) : Int) := rfl
      omega
    · refine ⟨11, 0, by omega, by rw [times_one (.inr (by omega))]; omega, by rw [from_last]; omega, ?_⟩
      rw [from_last]
      have h2 : spanZ x 11 1 = 0 + areaZ x ((11 + 0 : Nat) : Int) := rfl
      rw [Int.zero_add, Nat.add_zero] at h2
      unfold totZ at h1
      omega
theorem hit_class {x : Cfg} {p k : Nat} {i : Int} (h : Hit x p k i) :
    (p < 2 ∧ k = 0 ∧ spanZ x 0 p ≤ i ∧ i < spanZ x 0 (p + 1)) ∨ (∃ q, q < 9 ∧ p = 2 + q ∧ (k : Int) < x.b ∧ spanZ x 0 2 + (k : Int) * spanZ x 2 9 + spanZ x 2 q ≤ i ∧ i < spanZ x 0 2 + (k : Int) * spanZ x 2 9 + spanZ x 2 (q + 1)) ∨ (p = 11 ∧ k = 0 ∧ spanZ x 0 2 + x.b * spanZ x 2 9 ≤ i) := by
  obtain ⟨h1, h2, h3, h4⟩ := h
  rcases part_class h1 with hp | ⟨q, hq, rfl⟩ | rfl
  · rw [times_one (.inl hp)] at h2
    obtain rfl : k = 0 := by omega
    rw [from_first hp] at h3 h4
    refine .inl ⟨hp, rfl, h3, ?_⟩
    have : spanZ x 0 (p + 1) = spanZ x 0 p + areaZ x ((0 + p : Nat) : Int) := rfl
    rw [Nat.zero_add] at this
    omega
  · rw [times_mid (by omega) (by omega)] at h2
    rw [from_mid hq] at h3 h4
    refine .inr (.inl ⟨q, hq, rfl, h2, h3, ?_⟩)
    have : spanZ x 2 (q + 1) = spanZ x 2 q + areaZ x ((2 + q : Nat) : Int) := rfl
    omega
  · rw [times_one (.inr (by omega))] at h2
    rw [from_last] at h3
    exact .inr (.inr ⟨rfl, by omega, h3⟩)
theorem span_nonneg {x : Cfg} (h : In x) (f k : Nat) (hk : f + k ≤ 12) : 0 ≤ spanZ x f k := by have := (span_in h f k hk).1; omega
/-- None twice. -/
theorem hit_same {x : Cfg} (h : In x) {p k p' k' : Nat} {i : Int} (h1 : Hit x p k i) (h2 : Hit x p' k' i) : p = p' ∧ k = k' := by
  have hS := span_nonneg h 2 9 (by omega)
  have key : ∀ q, q < 9 → 0 ≤ spanZ x 2 q ∧ spanZ x 2 (q + 1) ≤ spanZ x 2 9 := fun q hq => by
    have a := span_nonneg h 2 q (by omega)
    have b := span_mono h 2 (q := q + 1) (9 - (q + 1)) (by omega)
    rw [show q + 1 + (9 - (q + 1)) = 9 by omega] at b
    exact ⟨a, b⟩
  have fst : ∀ p, p < 2 → spanZ x 0 (p + 1) ≤ spanZ x 0 2 := fun p hp => by
    have b := span_mono h 0 (q := p + 1) (2 - (p + 1)) (by omega)
    rwa [show p + 1 + (2 - (p + 1)) = 2 by omega] at b
  have hM : 0 ≤ x.b * spanZ x 2 9 := (mid_in h).1
  have nn : ∀ k : Nat, 0 ≤ (k : Int) * spanZ x 2 9 := fun k => Int.mul_nonneg (by omega) hS
  rcases hit_class h1 with ⟨a1, a2, a3, a4⟩ | ⟨q, a1, a2, a3, a4, a5⟩ | ⟨a1, a2, a3⟩ <;> rcases hit_class h2 with ⟨b1, b2, b3, b4⟩ | ⟨r, b1, b2, b3, b4, b5⟩ | ⟨b1, b2, b3⟩
  · exact ⟨span_same h 0 (by omega) (by omega) a3 a4 b3 b4, by omega⟩
  · have := fst p a1; have := key r b1; have := nn k'; omega
  · have := fst p a1; omega
  · have := fst p' b1; have := key q a1; have := nn k; omega
  · have c1 := key q a1
    have c2 := key r b1
    have hk : (k : Int) = (k' : Int) := block_same (j := i - spanZ x 0 2) hS (by omega) (by omega) (by omega) (by omega)
    rw [← hk] at b4 b5
    have hq : q = r := span_same h 2 (j := i - spanZ x 0 2 - (k : Int) * spanZ x 2 9) (by omega) (by omega) (by omega) (by omega) (by omega) (by omega)
    exact ⟨by omega, by omega⟩
  · have c1 := key q a1
    have c2 := mul_up hS (show (k : Int) + 1 ≤ x.b by omega)
    omega
  · have := fst p' b1; omega
  · have c1 := key r b1
    have c2 := mul_up hS (show (k' : Int) + 1 ≤ x.b by omega)
    omega
  · exact ⟨by omega, by omega⟩
theorem hit_within {x : Cfg} (h : In x) {p k : Nat} (hp : p ≤ 11) (hk : (k : Int) < timesZ x (p : Int)) : 0 ≤ fromZ x (p : Int) (k : Int) ∧ fromZ x (p : Int) (k : Int) + areaZ x (p : Int) ≤ totZ x := by
  have hS := span_nonneg h 2 9 (by omega)
  have hL := span_nonneg h 11 1 (by omega)
  have hT := span_nonneg h 0 2 (by omega)
  have hM : 0 ≤ x.b * spanZ x 2 9 := (mid_in h).1
  rcases part_class hp with h2 | ⟨q, hq, rfl⟩ | rfl
  · rw [times_one (.inl h2)] at hk
    obtain rfl : k = 0 := by omega
    rw [from_first h2]
    have a := span_nonneg h 0 p (by omega)
    have b := span_mono h 0 (q := p + 1) (2 - (p + 1)) (by omega)
    rw [show p + 1 + (2 - (p + 1)) = 2 by omega] at b
    have c : spanZ x 0 (p + 1) = spanZ x 0 p + areaZ x ((0 + p : Nat) : Int) := rfl
    rw [Nat.zero_add] at c
    unfold totZ
    omega
  · rw [times_mid (by omega) (by omega)] at hk
    rw [from_mid hq]
    have a := span_nonneg h 2 q (by omega)
    have b := span_mono h 2 (q := q + 1) (9 - (q + 1)) (by omega)
    rw [show q + 1 + (9 - (q + 1)) = 9 by omega] at b
    have c : spanZ x 2 (q + 1) = spanZ x 2 q + areaZ x ((2 + q : Nat) : Int) := rfl
    have d := mul_up hS (show (k : Int) + 1 ≤ x.b by omega)
    have e : 0 ≤ (k : Int) * spanZ x 2 9 := Int.mul_nonneg (by omega) hS
    unfold totZ
    omega
  · rw [from_last]
    have c : spanZ x 11 1 = 0 + areaZ x ((11 + 0 : Nat) : Int) := rfl
    rw [Int.zero_add, Nat.add_zero] at c
    unfold totZ
    omega
/-- Whose each byte is. -/
theorem owners {x : Cfg} (h : In x) : ∃ O : Nat → Nat × Nat, ∀ i : Nat, (i : Int) < totZ x → Hit x (O i).1 (O i).2 (i : Int) := by
  have h1 : ∀ i : Nat, ∃ o : Nat × Nat, (i : Int) < totZ x → Hit x o.1 o.2 (i : Int) := fun i => by
    by_cases hi : (i : Int) < totZ x
    · obtain ⟨p, k, hh⟩ := hit_there h (i := (i : Int)) (by omega) hi
      exact ⟨(p, k), fun _ => hh⟩
    · exact ⟨(0, 0), fun hh => absurd hh hi⟩
  exact Classical.axiomOfChoice h1
/-- How often a byte was counted, when the parts ahead of (p, k) are; within that part the bytes ahead of j. -/
def seenZ (O : Nat → Nat × Nat) (p k i : Nat) : Int := if (O i).1 < p ∨ ((O i).1 = p ∧ (O i).2 < k) then 1 else 0
def seenJ (O : Nat → Nat × Nat) (p k j i : Nat) : Int := if ((O i).1 < p ∨ ((O i).1 = p ∧ (O i).2 < k)) ∨ ((O i).1 = p ∧ (O i).2 = k ∧ i < j) then 1 else 0
section
variable {x : Cfg} (h : In x) {O : Nat → Nat × Nat} (hO : ∀ i : Nat, (i : Int) < totZ x → Hit x (O i).1 (O i).2 (i : Int))
include h hO
theorem seen_begin {p k i : Nat} (hp : p ≤ 11) (hk : (k : Int) < timesZ x (p : Int)) (hi : (i : Int) < totZ x) : seenJ O p k (fromZ x (p : Int) (k : Int)).toNat i = seenZ O p k i := by
  unfold seenJ seenZ
  have ho := hO i hi
  have hw := hit_within h hp hk
  by_cases c : (O i).1 < p ∨ ((O i).1 = p ∧ (O i).2 < k)
  · rw [if_pos c, if_pos (.inl c)]
  · rw [if_neg c, if_neg]
    rintro (c1 | ⟨c1, c2, c3⟩)
    · exact c c1
    · have := ho.low
      rw [c1, c2] at this
      omega
theorem seen_end {p k i : Nat} (hp : p ≤ 11) (hk : (k : Int) < timesZ x (p : Int)) (hi : (i : Int) < totZ x) : seenJ O p k (fromZ x (p : Int) (k : Int) + areaZ x (p : Int)).toNat i = seenZ O p (k + 1) i := by
  unfold seenJ seenZ
  have ho := hO i hi
  have hw := hit_within h hp hk
  by_cases c : (O i).1 < p ∨ ((O i).1 = p ∧ (O i).2 < k)
  · rw [if_pos (.inl c), if_pos (by omega)]
  · by_cases c2 : (O i).1 = p ∧ (O i).2 = k
    · have := ho.high
      rw [c2.1, c2.2] at this
      rw [if_pos (.inr ⟨c2.1, c2.2, by omega⟩), if_pos (by omega)]
    · rw [if_neg (by omega), if_neg (by omega)]
theorem seen_new {p k j : Nat} (hp : p ≤ 11) (hk : (k : Int) < timesZ x (p : Int)) (h1 : fromZ x (p : Int) (k : Int) ≤ (j : Int)) (h2 : (j : Int) < fromZ x (p : Int) (k : Int) + areaZ x (p : Int)) : seenJ O p k j j = 0 ∧ seenJ O p k (j + 1) j = 1 := by
  have hw := hit_within h hp hk
  obtain ⟨e1, e2⟩ := hit_same h (hO j (by omega)) ⟨hp, hk, h1, h2⟩
  unfold seenJ
  exact ⟨if_neg (by omega), if_pos (.inr ⟨e1, e2, by omega⟩)⟩
theorem seen_row {p i : Nat} {B : Nat} (hB : ((B : Nat) : Int) = x.b) (hi : (i : Int) < totZ x) : seenZ O p B i = seenZ O (p + 1) 0 i := by
  unfold seenZ
  have ho := hO i hi
  have hb := ho.block
  have h1 := h.b1
  have ht : timesZ x ((O i).1 : Int) ≤ x.b := by
    unfold timesZ
    split <;> omega
  by_cases c : (O i).1 < p ∨ (O i).1 = p
  · rw [if_pos (by omega), if_pos (by omega)]
  · rw [if_neg (by omega), if_neg (by omega)]
end
theorem seen_skip {x : Cfg} {O : Nat → Nat × Nat} (hO : ∀ i : Nat, (i : Int) < totZ x → Hit x (O i).1 (O i).2 (i : Int)) {p k i : Nat} (hk : timesZ x (p : Int) ≤ (k : Int)) (hi : (i : Int) < totZ x) : seenZ O p k i = seenZ O p (k + 1) i := by
  unfold seenZ
  have ho := hO i hi
  have hb := ho.block
  by_cases c : (O i).1 < p ∨ ((O i).1 = p ∧ (O i).2 < k)
  · rw [if_pos c, if_pos (by omega)]
  · rw [if_neg c, if_neg]
    rintro (c1 | ⟨c1, c2⟩)
    · omega
    · rw [c1] at hb
      omega
theorem seen_all {x : Cfg} {O : Nat → Nat × Nat} (hO : ∀ i : Nat, (i : Int) < totZ x → Hit x (O i).1 (O i).2 (i : Int)) {i : Nat} (hi : (i : Int) < totZ x) : seenZ O 12 0 i = 1 := by
  have ho := (hO i hi).part
  exact if_pos (.inl (by omega))
theorem seen_none (O : Nat → Nat × Nat) (i : Nat) : seenZ O 0 0 i = 0 := if_neg (by omega)
theorem seen_other (O : Nat → Nat × Nat) {p k j i : Nat} (h : i ≠ j) : seenJ O p k (j + 1) i = seenJ O p k j i := by
  unfold seenJ
  by_cases c : ((O i).1 < p ∨ ((O i).1 = p ∧ (O i).2 < k)) ∨ ((O i).1 = p ∧ (O i).2 = k ∧ i < j)
  · rw [if_pos c, if_pos (by omega)]
  · rw [if_neg c, if_neg (by omega)]
end Cf
end Go.Proofs.Ytlapinecmiacoaa
