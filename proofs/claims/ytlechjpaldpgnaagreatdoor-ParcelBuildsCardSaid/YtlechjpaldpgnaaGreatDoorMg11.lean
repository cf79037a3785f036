/-
  Parts of a string as the walk takes them: s[i:j], s[:j], s[i:]. No program's function here. Conditions: both ends lie within the string.
  Models' shapes in plain words: six numbers, whether they can be, how many rows and columns a part has, where it stands. No program here. No conditions.
  The rows of all parts of all blocks, as the document's own answer gathers them. No program here. No conditions.
  The rows of all parts of all blocks: what is among them, and where each stands. No program here. Condition: each number alone can be.
  The parts of all blocks cover the weights, none twice. No program here. Condition: each number alone can be.
  A shape's bytes, and what six numbers of a text tell, with limits and without. No program here. No conditions.
  Package conf: within, bounded, side, times. No conditions.
  Package conf: span, total. Condition: each number alone can be.
  Package conf: Good, Size, Side, HeadDim, Of. No conditions.
  Package conf: Of. No conditions.
-/
import Derived.Test.YtlechjpaldpgnaaGreatDoorMg1
import Derived.Test.YtlechjpaldpgnaaGreatDoorMg3
import Derived.IntWalk
import Derived.Deep.RegionHeld3
import Derived.Laws.ResultCell
import Derived.Deep.OwnRows
set_option maxRecDepth 100000
namespace Go.Proofs.YtlechjpaldpgnaaGreatDoor
open Go.ChangeShapes Go.WideShapes Go.ChangeAt Go.RowKit

theorem str_cut (q : ByteArray) (i j : Nat) (I J : Int) (hI : I = (i : Int)) (hJ : J = (j : Int)) (h1 : i ≤ j) (h2 : j ≤ q.size) (W : World) : (Instr.slice 9 (.string q) (some (.int .i64 I)) (some (.int .i64 J)) none).run Tryz.prog W = .ok (.string (q.extract i j)) W := by
  subst hI hJ
  have := run_slice_string (P := Tryz.prog) W 9 q .i64 .i64 (i : Int) (j : Int) Tryz.underlying9 (by omega) (by omega) (by omega)
  simpa using this
theorem str_to (q : ByteArray) (j : Nat) (J : Int) (hJ : J = (j : Int)) (h2 : j ≤ q.size) (W : World) : (Instr.slice 9 (.string q) none (some (.int .i64 J)) none).run Tryz.prog W = .ok (.string (q.extract 0 j)) W := by
  subst hJ
  have := run_slice_string_to_if (P := Tryz.prog) W 9 q .i64 (j : Int) Tryz.underlying9
  rw [if_pos ⟨by omega, by omega⟩] at this
  simpa using this
theorem str_from (q : ByteArray) (i : Nat) (I : Int) (hI : I = (i : Int)) (h : i ≤ q.size) (W : World) : (Instr.slice 9 (.string q) (some (.int .i64 I)) none none).run Tryz.prog W = .ok (.string (q.extract i q.size)) W := by
  subst hI
  have := run_slice_string_from_if (P := Tryz.prog) W 9 q .i64 (i : Int) Tryz.underlying9
  rw [if_pos ⟨by omega, by omega⟩] at this
  simpa using this
end Go.Proofs.YtlechjpaldpgnaaGreatDoor
namespace Go.Proofs.YtlechjpaldpgnaaGreatDoor
open Go Go.RowKit
namespace Cf

structure Cfg where
  v : Int
  d : Int
  h : Int
  b : Int
  n : Int
  c : Int
def cfA (x : Cfg) : Array Value := #[.int .i64 x.v, .int .i64 x.d, .int .i64 x.h, .int .i64 x.b, .int .i64 x.n, .int .i64 x.c]
def cfV (x : Cfg) : Value := .agg (cfA x)
def withinZ (n l m : Int) : Bool := decide (l ≤ n) && decide (n ≤ m)
def inZ (x : Cfg) : Bool := withinZ x.v 2 32 && (withinZ x.d 1 16 && (withinZ x.h 1 4 && (withinZ x.b 1 3 && (withinZ x.n 1 32 && withinZ x.c 1 32))))
structure In (x : Cfg) : Prop where
  v2 : 2 ≤ x.v
  v32 : x.v ≤ 32
  d1 : 1 ≤ x.d
  d16 : x.d ≤ 16
  h1 : 1 ≤ x.h
  h4 : x.h ≤ 4
  b1 : 1 ≤ x.b
  b3 : x.b ≤ 3
  n1 : 1 ≤ x.n
  n32 : x.n ≤ 32
  c1 : 1 ≤ x.c
  c32 : x.c ≤ 32
theorem within_iff {n l m : Int} : withinZ n l m = true ↔ l ≤ n ∧ n ≤ m := by
  unfold withinZ
  simp only [Bool.and_eq_true, decide_eq_true_iff]
theorem in_iff {x : Cfg} : inZ x = true ↔ In x := by
  unfold inZ
  simp only [Bool.and_eq_true, within_iff]
  constructor
  · rintro ⟨⟨a, b⟩, ⟨c, d⟩, ⟨e, f⟩, ⟨g, h⟩, ⟨i, j⟩, k, l⟩
    exact ⟨a, b, c, d, e, f, g, h, i, j, k, l⟩
  · rintro ⟨a, b, c, d, e, f, g, h, i, j, k, l⟩
    exact ⟨⟨a, b⟩, ⟨c, d⟩, ⟨e, f⟩, ⟨g, h⟩, ⟨i, j⟩, k, l⟩
/-- How many rows and columns a part has; 0, if it is none. -/
def rowsZ (x : Cfg) (p : Int) : Int := if p = 0 then x.v else if p = 1 then x.c else if p = 2 ∨ p = 7 ∨ p = 11 then 1 else if p = 3 ∨ p = 4 ∨ p = 5 ∨ p = 6 then x.d else if p = 8 ∨ p = 9 then x.n else if p = 10 then x.d else 0
def colsZ (x : Cfg) (p : Int) : Int := if p = 10 then x.n else if 0 ≤ p ∧ p ≤ 11 then x.d else 0
def areaZ (x : Cfg) (p : Int) : Int := rowsZ x p * colsZ x p
/-- How many bytes k parts from f on have. -/
def spanZ (x : Cfg) (f : Nat) : Nat → Int
  | 0 => 0
  | k + 1 => spanZ x f k + areaZ x ((f + k : Nat) : Int)
theorem part_cases {p : Int} (h0 : 0 ≤ p) (h1 : p ≤ 11) : p = 0 ∨ p = 1 ∨ p = 2 ∨ p = 3 ∨ p = 4 ∨ p = 5 ∨ p = 6 ∨ p = 7 ∨ p = 8 ∨ p = 9 ∨ p = 10 ∨ p = 11 := by omega
theorem rows_in {x : Cfg} (h : In x) {p : Int} (h0 : 0 ≤ p) (h1 : p ≤ 11) : 1 ≤ rowsZ x p ∧ rowsZ x p ≤ 32 := by
  obtain ⟨a, b, c, d, e, f, g, h, i, j, k, l⟩ := h
  unfold rowsZ
  repeat' split
  all_goals omega
theorem cols_in {x : Cfg} (h : In x) {p : Int} (h0 : 0 ≤ p) (h1 : p ≤ 11) : 1 ≤ colsZ x p ∧ colsZ x p ≤ 32 := by
  obtain ⟨a, b, c, d, e, f, g, h, i, j, k, l⟩ := h
  unfold colsZ
  repeat' split
  all_goals omega
theorem rows_out (x : Cfg) {p : Int} (h : p < 0 ∨ 11 < p) : rowsZ x p = 0 := by
  unfold rowsZ
  repeat' rw [if_neg (by omega)]
theorem cols_out (x : Cfg) {p : Int} (h : p < 0 ∨ 11 < p) : colsZ x p = 0 := by
  unfold colsZ
  repeat' rw [if_neg (by omega)]
theorem prod_in {a b : Int} (h1 : 1 ≤ a) (h2 : a ≤ 32) (h3 : 1 ≤ b) (h4 : b ≤ 32) : 1 ≤ a * b ∧ a * b ≤ 1024 :=
  ⟨by have := Int.mul_le_mul h1 h3 (by omega) (by omega); omega, by have := Int.mul_le_mul h2 h4 (by omega) (by omega : (0 : Int) ≤ 32); omega⟩
theorem area_in {x : Cfg} (h : In x) {p : Int} (h0 : 0 ≤ p) (h1 : p ≤ 11) : 1 ≤ areaZ x p ∧ areaZ x p ≤ 1024 := by
  obtain ⟨a, b⟩ := rows_in h h0 h1
  obtain ⟨c, d⟩ := cols_in h h0 h1
  exact prod_in a b c d
theorem span_in {x : Cfg} (h : In x) (f : Nat) : ∀ k, f + k ≤ 12 → (k : Int) ≤ spanZ x f k ∧ spanZ x f k ≤ 1024 * (k : Int)
  | 0, _ => by simp [spanZ]
  | k + 1, hk => by
    have h1 := span_in h f k (by omega)
    have h2 := area_in h (p := ((f + k : Nat) : Int)) (by omega) (by omega)
    unfold spanZ
    omega
def totZ (x : Cfg) : Int := spanZ x 0 2 + x.b * spanZ x 2 9 + spanZ x 11 1
def goodZ (x : Cfg) : Bool := inZ x && (decide (x.d.tmod x.h = 0) && decide (totZ x ≤ 8192))
structure Good (x : Cfg) : Prop where
  is : In x
  rest : x.d.tmod x.h = 0
  fits : totZ x ≤ 8192
theorem good_iff {x : Cfg} : goodZ x = true ↔ Good x := by
  unfold goodZ
  simp only [Bool.and_eq_true, decide_eq_true_iff, in_iff]
  exact ⟨fun ⟨a, b, c⟩ => ⟨a, b, c⟩, fun ⟨a, b, c⟩ => ⟨a, b, c⟩⟩
theorem mid_in {x : Cfg} (h : In x) : 0 ≤ x.b * spanZ x 2 9 ∧ x.b * spanZ x 2 9 ≤ 27648 := by
  have h1 := span_in h 2 9 (by omega)
  have h2 := h.b1
  have h3 := h.b3
  exact ⟨Int.mul_nonneg (by omega) (by omega), by have := Int.mul_le_mul h3 (show spanZ x 2 9 ≤ 9216 by omega) (by omega) (by omega : (0 : Int) ≤ 3); omega⟩
theorem tot_in {x : Cfg} (h : In x) : 0 ≤ totZ x ∧ totZ x ≤ 40000 := by
  have h1 := span_in h 0 2 (by omega)
  have h2 := span_in h 11 1 (by omega)
  have h3 := mid_in h
  unfold totZ
  omega
/-- Of how many blocks there is a part. -/
def timesZ (x : Cfg) (p : Int) : Int := if 2 ≤ p ∧ p < 11 then x.b else 1
/-- Whether there is such a part of such a block; from where on it stands. -/
def isZ (x : Cfg) (p k : Int) : Bool := goodZ x && (decide (0 ≤ p) && (decide (p ≤ 11) && (decide (0 ≤ k) && decide (k < timesZ x p))))
def fromZ (x : Cfg) (p k : Int) : Int := (if p = 11 then x.b - 1 else k) * spanZ x 2 9 + spanZ x 0 p.toNat
end Cf
end Go.Proofs.YtlechjpaldpgnaaGreatDoor
namespace Go.Proofs.YtlechjpaldpgnaaGreatDoor
open Go Go.RowKit
namespace Cf

structure Rw where
  p : Int
  k : Int
  a : Int
  m : Int
def rwL (r : Rw) : List Value := [.int .i64 r.p, .int .i64 r.k, .int .i64 r.a, .int .i64 r.m]
def rwsL (L : List Rw) : List Value := L.flatMap rwL
theorem rwsL_length (L : List Rw) : (rwsL L).length = L.length * 4 := by
  unfold rwsL
  induction L with
  | nil => rfl
  | cons r L ih => rw [List.flatMap_cons, List.length_append, ih, List.length_cons]; show 4 + _ = _; omega
theorem rwsL_next (L : List Rw) (r : Rw) : rwsL (L ++ [r]) = rwsL L ++ rwL r := by
  unfold rwsL
  rw [List.flatMap_append, List.flatMap_cons, List.flatMap_nil, List.append_nil]
theorem rwsL_at : ∀ (L : List Rw) (i : Nat) (r : Rw), L[i]? = some r → ∀ j, j < 4 → (rwsL L)[i * 4 + j]? = (rwL r)[j]?
  | [], i, r, h, _, _ => by simp at h
  | q :: L, 0, r, h, j, hj => by
    rw [List.getElem?_cons_zero] at h
    injection h with h
    subst h
    unfold rwsL
    rw [List.flatMap_cons, List.getElem?_append_left (by show 0 * 4 + j < 4; omega), Nat.zero_mul, Nat.zero_add]
  | q :: L, i + 1, r, h, j, hj => by
    rw [List.getElem?_cons_succ] at h
    unfold rwsL
    rw [List.flatMap_cons, List.getElem?_append_right (by show 4 ≤ _; omega)]
    have := rwsL_at L i r h j hj
    unfold rwsL at this
    rw [← this]
    congr 1
    show (i + 1) * 4 + j - 4 = i * 4 + j
    omega
/-- Whether a part is left out beside block b; what block is told. -/
def skipB (x : Cfg) (b : Int) (p : Nat) : Bool := (decide (b < 0) && decide (1 < p)) || (decide (b = x.b) && decide (p < 11)) || (decide (0 ≤ b) && decide (b < x.b) && (decide (p < 2) || decide (10 < p)))
def blkZ (b : Int) (p : Nat) : Int := if p < 2 ∨ p = 11 then 0 else b
def inner (x : Cfg) (b : Int) (s : List Rw × Int) : Nat → List Rw × Int
  | 0 => s
  | p + 1 => if skipB x b p = true then inner x b s p else ((inner x b s p).1 ++ [⟨(p : Int), blkZ b p, (inner x b s p).2, areaZ x (p : Int)⟩], (inner x b s p).2 + areaZ x (p : Int))
def outer (x : Cfg) : Nat → List Rw × Int
  | 0 => ([], 0)
  | n + 1 => inner x ((n : Int) - 1) (outer x n) 12
structure OkS (s : List Rw × Int) (c : Nat) : Prop where
  len : s.1.length ≤ c
  low : 0 ≤ s.2
  high : s.2 ≤ 1024 * (c : Int)
theorem inner_ok {x : Cfg} (h : In x) (b : Int) {s : List Rw × Int} {c : Nat} (hs : OkS s c) : ∀ p, p ≤ 12 → OkS (inner x b s p) (c + p)
  | 0, _ => hs
  | p + 1, hp => by
    obtain ⟨h1, h2, h3⟩ := inner_ok h b hs p (by omega)
    have h4 := area_in h (p := (p : Int)) (by omega) (by omega)
    unfold inner
    split
    · exact ⟨by omega, h2, by omega⟩
    · exact ⟨by show ((inner x b s p).1 ++ [_]).length ≤ _; rw [List.length_append]; show _ + 1 ≤ _; omega, by show 0 ≤ _ + _; omega, by show _ + _ ≤ _; omega⟩
theorem outer_ok {x : Cfg} (h : In x) : ∀ n, OkS (outer x n) (12 * n)
  | 0 => ⟨Nat.le_refl _, Int.le_refl _, Int.le_refl _⟩
  | n + 1 => inner_ok h _ (outer_ok h n) 12 (Nat.le_refl _)
end Cf
end Go.Proofs.YtlechjpaldpgnaaGreatDoor
namespace Go.Proofs.YtlechjpaldpgnaaGreatDoor
open Go Go.RowKit
namespace Cf

theorem span_split (x : Cfg) (f i : Nat) : ∀ j, spanZ x f (i + j) = spanZ x f i + spanZ x (f + i) j
  | 0 => by rw [Nat.add_zero]; show _ = _ + 0; omega
  | j + 1 => by
    show spanZ x f (i + j) + areaZ x ((f + (i + j) : Nat) : Int) = spanZ x f i + (spanZ x (f + i) j + areaZ x ((f + i + j : Nat) : Int))
    rw [span_split x f i j, Nat.add_assoc f i j]
    omega
theorem inner_skip {x : Cfg} {b : Int} {s : List Rw × Int} {p : Nat} (h : skipB x b p = true) : inner x b s (p + 1) = inner x b s p := if_pos h
theorem inner_add {x : Cfg} {b : Int} {s : List Rw × Int} {p : Nat} (h : ¬ skipB x b p = true) : inner x b s (p + 1) = ((inner x b s p).1 ++ [⟨(p : Int), blkZ b p, (inner x b s p).2, areaZ x (p : Int)⟩], (inner x b s p).2 + areaZ x (p : Int)) := if_neg h
theorem skip_is {x : Cfg} {b : Int} {p : Nat} : skipB x b p = true ↔ (b < 0 ∧ 1 < p) ∨ (b = x.b ∧ p < 11) ∨ (0 ≤ b ∧ b < x.b ∧ (p < 2 ∨ 10 < p)) := by
  unfold skipB
  simp only [Bool.or_eq_true, Bool.and_eq_true, decide_eq_true_iff, or_assoc, and_assoc]
/-- The parts from f on, k of them, of a block that is told as q. -/
def partRows (x : Cfg) (q a : Int) (f : Nat) : Nat → List Rw
  | 0 => []
  | k + 1 => partRows x q a f k ++ [⟨((f + k : Nat) : Int), q, a + spanZ x f k, areaZ x ((f + k : Nat) : Int)⟩]
theorem inner_none {x : Cfg} {b : Int} {s : List Rw × Int} {f : Nat} : ∀ k, (∀ j, j < k → skipB x b (f + j) = true) → inner x b s (f + k) = inner x b s f
  | 0, _ => rfl
  | k + 1, h => by
    show inner x b s (f + k + 1) = _
    rw [inner_skip (h k (by omega)), inner_none k fun j hj => h j (by omega)]
theorem inner_some {x : Cfg} {b q : Int} {s : List Rw × Int} {f : Nat} (h0 : inner x b s f = s) : ∀ k, (∀ j, j < k → ¬ skipB x b (f + j) = true ∧ blkZ b (f + j) = q) → inner x b s (f + k) = (s.1 ++ partRows x q s.2 f k, s.2 + spanZ x f k)
  | 0, _ => by
    show inner x b s f = (s.1 ++ [], s.2 + 0)
    rw [h0, List.append_nil, Int.add_zero]
  | k + 1, h => by
    show inner x b s (f + k + 1) = _
    obtain ⟨h1, h2⟩ := h k (by omega)
    rw [inner_add h1, h2, inner_some h0 k fun j hj => h j (by omega)]
    show (s.1 ++ partRows x q s.2 f k ++ [_], s.2 + spanZ x f k + _) = (s.1 ++ (partRows x q s.2 f k ++ [_]), s.2 + (spanZ x f k + _))
    rw [List.append_assoc, Int.add_assoc]
theorem inner_first {x : Cfg} (hx : 1 ≤ x.b) (s : List Rw × Int) : inner x (-1) s 12 = (s.1 ++ partRows x 0 s.2 0 2, s.2 + spanZ x 0 2) := by
  have h1 := inner_none (x := x) (b := -1) (s := s) (f := 2) 10 fun j hj => by rw [skip_is]; omega
  have h2 := inner_some (x := x) (b := -1) (q := 0) (s := s) (f := 0) rfl 2 fun j hj => ⟨by rw [skip_is]; omega, by unfold blkZ; rw [if_pos (by omega)]⟩
  exact h1.trans h2
theorem inner_mid {x : Cfg} {b : Int} (h0 : 0 ≤ b) (h1 : b < x.b) (s : List Rw × Int) : inner x b s 12 = (s.1 ++ partRows x b s.2 2 9, s.2 + spanZ x 2 9) := by
  have h2 := inner_none (x := x) (b := b) (s := s) (f := 11) 1 fun j hj => by rw [skip_is]; omega
  have h3 := inner_none (x := x) (b := b) (s := s) (f := 0) 2 fun j hj => by rw [skip_is]; omega
  have h4 := inner_some (x := x) (b := b) (q := b) (s := s) (f := 2) h3 9 fun j hj => ⟨by rw [skip_is]; omega, by unfold blkZ; rw [if_neg (by omega)]⟩
  exact h2.trans h4
theorem inner_last {x : Cfg} (hx : 1 ≤ x.b) (s : List Rw × Int) : inner x x.b s 12 = (s.1 ++ partRows x 0 s.2 11 1, s.2 + spanZ x 11 1) := by
  have h3 := inner_none (x := x) (b := x.b) (s := s) (f := 0) 11 fun j hj => by rw [skip_is]; omega
  exact inner_some (x := x) (b := x.b) (q := 0) (s := s) (f := 11) h3 1 fun j hj => ⟨by rw [skip_is]; omega, by unfold blkZ; rw [if_pos (by omega)]⟩
/-- All blocks' rows. -/
def blocks (x : Cfg) : Nat → List Rw
  | 0 => []
  | k + 1 => blocks x k ++ partRows x (k : Int) (spanZ x 0 2 + (k : Int) * spanZ x 2 9) 2 9
theorem outer_mid {x : Cfg} (hx : 1 ≤ x.b) : ∀ n : Nat, (n : Int) ≤ x.b → outer x (n + 1) = (partRows x 0 0 0 2 ++ blocks x n, spanZ x 0 2 + (n : Int) * spanZ x 2 9)
  | 0, _ => by
    show inner x (-1) ([], 0) 12 = _
    rw [inner_first hx]
    show (([] : List Rw) ++ partRows x 0 0 0 2, 0 + spanZ x 0 2) = (partRows x 0 0 0 2 ++ [], spanZ x 0 2 + 0 * _)
    rw [List.nil_append, List.append_nil, Int.zero_mul, Int.zero_add, Int.add_zero]
  | n + 1, h => by
    show inner x (((n + 1 : Nat) : Int) - 1) (outer x (n + 1)) 12 = _
    rw [show (((n + 1 : Nat) : Int) - 1) = (n : Int) by omega, outer_mid hx n (by omega), inner_mid (by omega) (by omega)]
    show (partRows x 0 0 0 2 ++ blocks x n ++ _, _ + _) = (partRows x 0 0 0 2 ++ (blocks x n ++ _), _)
    rw [List.append_assoc, show (((n + 1 : Nat) : Int)) = (n : Int) + 1 by omega, Int.add_mul, Int.one_mul, Int.add_assoc]
def allRows (x : Cfg) : List Rw := partRows x 0 0 0 2 ++ blocks x x.b.toNat ++ partRows x 0 (spanZ x 0 2 + x.b * spanZ x 2 9) 11 1
theorem outer_all {x : Cfg} (hx : 1 ≤ x.b) : outer x (x.b.toNat + 2) = (allRows x, totZ x) := by
  have hb : ((x.b.toNat : Nat) : Int) = x.b := by omega
  show inner x (((x.b.toNat + 1 : Nat) : Int) - 1) (outer x (x.b.toNat + 1)) 12 = _
  rw [show (((x.b.toNat + 1 : Nat) : Int) - 1) = x.b by omega, outer_mid hx _ (by omega), inner_last hx, hb]
  rfl
theorem part_mem {x : Cfg} {q a : Int} {f : Nat} {r : Rw} : ∀ k, r ∈ partRows x q a f k ↔ ∃ i, i < k ∧ r = ⟨((f + i : Nat) : Int), q, a + spanZ x f i, areaZ x ((f + i : Nat) : Int)⟩
  | 0 => by
    show r ∈ ([] : List Rw) ↔ _
    simp
  | k + 1 => by
    show r ∈ partRows x q a f k ++ [_] ↔ _
    rw [List.mem_append, part_mem k, List.mem_singleton]
    constructor
    · rintro (⟨i, hi, h⟩ | h)
      · exact ⟨i, by omega, h⟩
      · exact ⟨k, by omega, h⟩
    · rintro ⟨i, hi, h⟩
      by_cases hik : i = k
      · exact .inr (by rw [h, hik])
      · exact .inl ⟨i, by omega, h⟩
theorem block_mem {x : Cfg} {r : Rw} : ∀ n, r ∈ blocks x n ↔ ∃ k, k < n ∧ r ∈ partRows x (k : Int) (spanZ x 0 2 + (k : Int) * spanZ x 2 9) 2 9
  | 0 => by
    show r ∈ ([] : List Rw) ↔ _
    simp
  | n + 1 => by
    show r ∈ blocks x n ++ _ ↔ _
    rw [List.mem_append, block_mem n]
    constructor
    · rintro (⟨i, hi, h⟩ | h)
      · exact ⟨i, by omega, h⟩
      · exact ⟨n, by omega, h⟩
    · rintro ⟨i, hi, h⟩
      by_cases hik : i = n
      · exact .inr (by rw [hik] at h; exact h)
      · exact .inl ⟨i, by omega, h⟩
/-- Each row tells a part that is there, and where it stands. -/
theorem row_tells {x : Cfg} (h : In x) {r : Rw} (hr : r ∈ allRows x) : 0 ≤ r.p ∧ r.p ≤ 11 ∧ 0 ≤ r.k ∧ r.k < timesZ x r.p ∧ r.a = fromZ x r.p r.k ∧ r.m = areaZ x r.p := by
  have hb := h.b1
  unfold allRows at hr
  rw [List.mem_append, List.mem_append, part_mem, block_mem, part_mem] at hr
  rcases hr with (⟨i, hi, rfl⟩ | ⟨k, hk, hr⟩) | ⟨i, hi, rfl⟩
  · refine ⟨by dsimp only; omega, by dsimp only; omega, Int.le_refl _, ?_, ?_, rfl⟩
    · dsimp only; unfold timesZ; rw [if_neg (by omega)]; omega
    · dsimp only; unfold fromZ; rw [if_neg (by omega), Int.zero_mul, Nat.zero_add, Int.toNat_natCast]
  · rw [part_mem] at hr
    obtain ⟨i, hi, rfl⟩ := hr
    refine ⟨by dsimp only; omega, by dsimp only; omega, by dsimp only; omega, ?_, ?_, rfl⟩
    · dsimp only; unfold timesZ; rw [if_pos (by omega)]; omega
    · dsimp only
      unfold fromZ
      rw [if_neg (by omega), Int.toNat_natCast, span_split x 0 2 i, Nat.zero_add]
      omega
  · obtain rfl : i = 0 := by omega
    refine ⟨by dsimp only; omega, by dsimp only; omega, Int.le_refl _, ?_, ?_, rfl⟩
    · show 0 < timesZ x 11; unfold timesZ; rw [if_neg (by omega)]; omega
    · show spanZ x 0 2 + x.b * spanZ x 2 9 + 0 = fromZ x 11 0
      unfold fromZ
      rw [if_pos rfl, show (11 : Int).toNat = 2 + 9 from rfl, span_split x 0 2 9, Nat.zero_add, Int.sub_mul, Int.one_mul]
      omega
/-- Each part that is there has a row. -/
theorem row_there {x : Cfg} (h : In x) {p k : Int} (h0 : 0 ≤ p) (h1 : p ≤ 11) (h2 : 0 ≤ k) (h3 : k < timesZ x p) : ∃ r, r ∈ allRows x ∧ r.p = p ∧ r.k = k := by
  have hb := h.b1
  unfold allRows
  unfold timesZ at h3
  simp only [List.mem_append, part_mem, block_mem]
  by_cases hp : p < 2
  · rw [if_neg (by omega)] at h3
    exact ⟨⟨p, k, 0 + spanZ x 0 p.toNat, areaZ x p⟩, .inl (.inl ⟨p.toNat, by omega, by rw [Nat.zero_add, show ((p.toNat : Nat) : Int) = p by omega, show k = 0 by omega]⟩), rfl, rfl⟩
  · by_cases hp2 : p < 11
    · rw [if_pos (by omega)] at h3
      have hk : ((k.toNat : Nat) : Int) = k := by omega
      exact ⟨_, .inl (.inr ⟨k.toNat, by omega, (p - 2).toNat, by omega, rfl⟩), by dsimp only; omega, hk⟩
    · rw [if_neg (by omega)] at h3
      exact ⟨_, .inr ⟨0, by omega, rfl⟩, by dsimp only; omega, by dsimp only; omega⟩
/-- The last row ends where the weights end. -/
theorem last_row (x : Cfg) : ∃ l r, allRows x = l ++ [r] ∧ r.a + r.m = totZ x :=
  ⟨partRows x 0 0 0 2 ++ blocks x x.b.toNat, ⟨((11 + 0 : Nat) : Int), 0, spanZ x 0 2 + x.b * spanZ x 2 9 + spanZ x 11 0, areaZ x ((11 + 0 : Nat) : Int)⟩, rfl, by
    show spanZ x 0 2 + x.b * spanZ x 2 9 + 0 + areaZ x ((11 + 0 : Nat) : Int) = spanZ x 0 2 + x.b * spanZ x 2 9 + (0 + areaZ x ((11 + 0 : Nat) : Int))
    omega⟩
theorem part_len {x : Cfg} {q a : Int} {f : Nat} : ∀ k, (partRows x q a f k).length = k
  | 0 => rfl
  | k + 1 => by show (partRows x q a f k ++ [_]).length = _; rw [List.length_append, part_len k]; rfl
theorem block_len {x : Cfg} : ∀ n, (blocks x n).length = 9 * n
  | 0 => rfl
  | n + 1 => by show (blocks x n ++ _).length = _; rw [List.length_append, block_len n, part_len]; omega
theorem all_len {x : Cfg} (h : In x) : (allRows x).length ≤ 30 := by
  have := h.b3
  unfold allRows
  rw [List.length_append, List.length_append, part_len, part_len, block_len]
  omega
end Cf
end Go.Proofs.YtlechjpaldpgnaaGreatDoor
namespace Go.Proofs.YtlechjpaldpgnaaGreatDoor
open Go Go.RowKit
namespace Cf

theorem span_mono {x : Cfg} (h : In x) (f : Nat) {q : Nat} : ∀ d, f + (q + d) ≤ 12 → spanZ x f q ≤ spanZ x f (q + d)
  | 0, _ => Int.le_refl _
  | d + 1, hd => by
    have h1 := span_mono h f (q := q) d (by omega)
    have h2 := area_in h (p := ((f + (q + d) : Nat) : Int)) (by omega) (by omega)
    show spanZ x f q ≤ spanZ x f (q + d) + areaZ x ((f + (q + d) : Nat) : Int)
    omega
theorem span_find {x : Cfg} (f : Nat) (j : Int) (h0 : 0 ≤ j) : ∀ n, j < spanZ x f n → ∃ q, q < n ∧ spanZ x f q ≤ j ∧ j < spanZ x f (q + 1)
  | 0, h => by
    have : spanZ x f 0 = 0 := rfl
    omega
  | n + 1, h => by
    by_cases hj : j < spanZ x f n
    · obtain ⟨q, a, b, c⟩ := span_find f j h0 n hj
      exact ⟨q, by omega, b, c⟩
    · exact ⟨n, by omega, by omega, h⟩
theorem span_same {x : Cfg} (h : In x) (f : Nat) {j : Int} {q r : Nat} (hq : f + (q + 1) ≤ 12) (hr : f + (r + 1) ≤ 12) (h1 : spanZ x f q ≤ j) (h2 : j < spanZ x f (q + 1)) (h3 : spanZ x f r ≤ j) (h4 : j < spanZ x f (r + 1)) : q = r := by
  by_cases h5 : q < r
  · have := span_mono h f (q := q + 1) (r - (q + 1)) (by omega)
    rw [show q + 1 + (r - (q + 1)) = r by omega] at this
    omega
  · by_cases h6 : r < q
    · have := span_mono h f (q := r + 1) (q - (r + 1)) (by omega)
      rw [show r + 1 + (q - (r + 1)) = q by omega] at this
      omega
    · omega
theorem block_find (S j : Int) (h0 : 0 ≤ j) : ∀ n : Nat, j < (n : Int) * S → ∃ k, k < n ∧ (k : Int) * S ≤ j ∧ j < (k : Int) * S + S
  | 0, h => by
    rw [show ((0 : Nat) : Int) * S = 0 from Int.zero_mul S] at h
    omega
  | n + 1, h => by
    by_cases hj : j < (n : Int) * S
    · obtain ⟨q, a, b, c⟩ := block_find S j h0 n hj
      exact ⟨q, by omega, b, c⟩
    · refine ⟨n, by omega, by omega, ?_⟩
      rw [show ((n + 1 : Nat) : Int) = (n : Int) + 1 by omega, Int.add_mul, Int.one_mul] at h
      exact h
theorem mul_up {S : Int} (hS : 0 ≤ S) {a b : Int} (h : a + 1 ≤ b) : a * S + S ≤ b * S := by
  have := Int.mul_le_mul_of_nonneg_right h hS
  rwa [Int.add_mul, Int.one_mul] at this
theorem block_same {S j a b : Int} (hS : 0 ≤ S) (h1 : a * S ≤ j) (h2 : j < a * S + S) (h3 : b * S ≤ j) (h4 : j < b * S + S) : a = b := by
  by_cases h5 : a < b
  · have := mul_up hS (show a + 1 ≤ b by omega)
    omega
  · by_cases h6 : b < a
    · have := mul_up hS (show b + 1 ≤ a by omega)
      omega
    · omega
/-- A part of a block has the byte i. -/
structure Hit (x : Cfg) (p k : Nat) (i : Int) : Prop where
  part : p ≤ 11
  block : (k : Int) < timesZ x (p : Int)
  low : fromZ x (p : Int) (k : Int) ≤ i
  high : i < fromZ x (p : Int) (k : Int) + areaZ x (p : Int)
theorem times_one {x : Cfg} {p : Nat} (h : p < 2 ∨ 10 < p) : timesZ x (p : Int) = 1 := by unfold timesZ; rw [if_neg (by omega)]
theorem times_mid {x : Cfg} {p : Nat} (h1 : 2 ≤ p) (h2 : p < 11) : timesZ x (p : Int) = x.b := by unfold timesZ; rw [if_pos (by omega)]
theorem from_first {x : Cfg} {p : Nat} (h : p < 2) : fromZ x (p : Int) ((0 : Nat) : Int) = spanZ x 0 p := by
  unfold fromZ
  rw [if_neg (by omega), show ((0 : Nat) : Int) = 0 from rfl, Int.zero_mul, Int.toNat_natCast, Int.zero_add]
theorem from_mid {x : Cfg} {q k : Nat} (h : q < 9) : fromZ x ((2 + q : Nat) : Int) (k : Int) = spanZ x 0 2 + (k : Int) * spanZ x 2 9 + spanZ x 2 q := by
  unfold fromZ
  rw [if_neg (by omega), Int.toNat_natCast, span_split x 0 2 q, Nat.zero_add]
  omega
theorem from_last (x : Cfg) (k : Int) : fromZ x ((11 : Nat) : Int) k = spanZ x 0 2 + x.b * spanZ x 2 9 := by
  unfold fromZ
  rw [if_pos (show ((11 : Nat) : Int) = 11 from rfl), Int.toNat_natCast, show (11 : Nat) = 2 + 9 from rfl, span_split x 0 2 9, Nat.zero_add, Int.sub_mul, Int.one_mul]
  omega
theorem part_class {p : Nat} (h : p ≤ 11) : p < 2 ∨ (∃ q, q < 9 ∧ p = 2 + q) ∨ p = 11 := by
  by_cases h1 : p < 2
  · exact .inl h1
  · by_cases h2 : p < 11
    · exact .inr (.inl ⟨p - 2, by omega, by omega⟩)
    · exact .inr (.inr (by omega))
theorem hit_there {x : Cfg} (h : In x) {i : Int} (h0 : 0 ≤ i) (h1 : i < totZ x) : ∃ p k, Hit x p k i := by
  have hb := h.b1
  by_cases c1 : i < spanZ x 0 2
  · obtain ⟨q, a, b, c⟩ := span_find (x := x) 0 i h0 2 c1
    refine ⟨q, 0, by omega, by rw [times_one (.inl a)]; omega, by rw [from_first a]; exact b, ?_⟩
    rw [from_first a]
    have : spanZ x 0 (q + 1) = spanZ x 0 q + areaZ x ((0 + q : Nat) : Int) := rfl
    rw [Nat.zero_add] at this
    omega
  · by_cases c2 : i < spanZ x 0 2 + x.b * spanZ x 2 9
    · obtain ⟨k, a, b, c⟩ := block_find (spanZ x 2 9) (i - spanZ x 0 2) (by omega) x.b.toNat (by rw [show ((x.b.toNat : Nat) : Int) = x.b by omega]; omega)
      obtain ⟨q, d, e, f⟩ := span_find (x := x) 2 (i - spanZ x 0 2 - (k : Int) * spanZ x 2 9) (by omega) 9 (by omega)
      refine ⟨2 + q, k, by omega, by rw [times_mid (by omega) (by omega)]; omega, by rw [from_mid d]; omega, ?_⟩
      rw [from_mid d]
      have : spanZ x 2 (q + 1) = spanZ x 2 q + areaZ x ((2 + q : Nat) : Int) := rfl
      omega
    · refine ⟨11, 0, by omega, by rw [times_one (.inr (by omega))]; omega, by rw [from_last]; omega, ?_⟩
      rw [from_last]
      have h2 : spanZ x 11 1 = 0 + areaZ x ((11 + 0 : Nat) : Int) := rfl
      rw [Int.zero_add, Nat.add_zero] at h2
      unfold totZ at h1
      omega
theorem hit_class {x : Cfg} {p k : Nat} {i : Int} (h : Hit x p k i) :
    (p < 2 ∧ k = 0 ∧ spanZ x 0 p ≤ i ∧ i < spanZ x 0 (p + 1)) ∨ (∃ q, q < 9 ∧ p = 2 + q ∧ (k : Int) < x.b ∧ spanZ x 0 2 + (k : Int) * spanZ x 2 9 + spanZ x 2 q ≤ i ∧ i < spanZ x 0 2 + (k : Int) * spanZ x 2 9 + spanZ x 2 (q + 1)) ∨ (p = 11 ∧ k = 0 ∧ spanZ x 0 2 + x.b * spanZ x 2 9 ≤ i) := by
  obtain ⟨h1, h2, h3, h4⟩ := h
  rcases part_class h1 with hp | ⟨q, hq, rfl⟩ | rfl
  · rw [times_one (.inl hp)] at h2
    obtain rfl : k = 0 := by omega
    rw [from_first hp] at h3 h4
    refine .inl ⟨hp, rfl, h3, ?_⟩
    have : spanZ x 0 (p + 1) = spanZ x 0 p + areaZ x ((0 + p : Nat) : Int) := rfl
    rw [Nat.zero_add] at this
    omega
  · rw [times_mid (by omega) (by omega)] at h2
    rw [from_mid hq] at h3 h4
    refine .inr (.inl ⟨q, hq, rfl, h2, h3, ?_⟩)
    have : spanZ x 2 (q + 1) = spanZ x 2 q + areaZ x ((2 + q : Nat) : Int) := rfl
    omega
  · rw [times_one (.inr (by omega))] at h2
    rw [from_last] at h3
    exact .inr (.inr ⟨rfl, by omega, h3⟩)
theorem span_nonneg {x : Cfg} (h : In x) (f k : Nat) (hk : f + k ≤ 12) : 0 ≤ spanZ x f k := by have := (span_in h f k hk).1; omega
/-- None twice. -/
theorem hit_same {x : Cfg} (h : In x) {p k p' k' : Nat} {i : Int} (h1 : Hit x p k i) (h2 : Hit x p' k' i) : p = p' ∧ k = k' := by
  have hS := span_nonneg h 2 9 (by omega)
  have key : ∀ q, q < 9 → 0 ≤ spanZ x 2 q ∧ spanZ x 2 (q + 1) ≤ spanZ x 2 9 := fun q hq => by
    have a := span_nonneg h 2 q (by omega)
    have b := span_mono h 2 (q := q + 1) (9 - (q + 1)) (by omega)
    rw [show q + 1 + (9 - (q + 1)) = 9 by omega] at b
    exact ⟨a, b⟩
  have fst : ∀ p, p < 2 → spanZ x 0 (p + 1) ≤ spanZ x 0 2 := fun p hp => by
    have b := span_mono h 0 (q := p + 1) (2 - (p + 1)) (by omega)
    rwa [show p + 1 + (2 - (p + 1)) = 2 by omega] at b
  have hM : 0 ≤ x.b * spanZ x 2 9 := (mid_in h).1
  have nn : ∀ k : Nat, 0 ≤ (k : Int) * spanZ x 2 9 := fun k => Int.mul_nonneg (by omega) hS
  rcases hit_class h1 with ⟨a1, a2, a3, a4⟩ | ⟨q, a1, a2, a3, a4, a5⟩ | ⟨a1, a2, a3⟩ <;> rcases hit_class h2 with ⟨b1, b2, b3, b4⟩ | ⟨r, b1, b2, b3, b4, b5⟩ | ⟨b1, b2, b3⟩
  · exact ⟨span_same h 0 (by omega) (by omega) a3 a4 b3 b4, by omega⟩
  · have := fst p a1; have := key r b1; have := nn k'; omega
  · have := fst p a1; omega
  · have := fst p' b1; have := key q a1; have := nn k; omega
  · have c1 := key q a1
    have c2 := key r b1
    have hk : (k : Int) = (k' : Int) := block_same (j := i - spanZ x 0 2) hS (by omega) (by omega) (by omega) (by omega)
    rw [← hk] at b4 b5
    have hq : q = r := span_same h 2 (j := i - spanZ x 0 2 - (k : Int) * spanZ x 2 9) (by omega) (by omega) (by omega) (by omega) (by omega) (by omega)
    exact ⟨by omega, by omega⟩
  · have c1 := key q a1
    have c2 := mul_up hS (show (k : Int) + 1 ≤ x.b by omega)
    omega
  · have := fst p' b1; omega
  · have c1 := key r b1
    have c2 := mul_up hS (show (k' : Int) + 1 ≤ x.b by omega)
    omega
  · exact ⟨by omega, by omega⟩
theorem hit_within {x : Cfg} (h : In x) {p k : Nat} (hp : p ≤ 11) (hk : (k : Int) < timesZ x (p : Int)) : 0 ≤ fromZ x (p : Int) (k : Int) ∧ fromZ x (p : Int) (k : Int) + areaZ x (p : Int) ≤ totZ x := by
  have hS := span_nonneg h 2 9 (by omega)
  have hL := span_nonneg h 11 1 (by omega)
  have hT := span_nonneg h 0 2 (by omega)
  have hM : 0 ≤ x.b * spanZ x 2 9 := (mid_in h).1
  rcases part_class hp with h2 | ⟨q, hq, rfl⟩ | rfl
  · rw [times_one (.inl h2)] at hk
    obtain rfl : k = 0 := by omega
    rw [from_first h2]
    have a := span_nonneg h 0 p (by omega)
    have b := span_mono h 0 (q := p + 1) (2 - (p + 1)) (by omega)
    rw [show p + 1 + (2 - (p + 1)) = 2 by omega] at b
    have c : spanZ x 0 (p + 1) = spanZ x 0 p + areaZ x ((0 + p : Nat) : Int) := rfl
    rw [Nat.zero_add] at c
    unfold totZ
    omega
  · rw [times_mid (by omega) (by omega)] at hk
    rw [from_mid hq]
    have a := span_nonneg h 2 q (by omega)
    have b := span_mono h 2 (q := q + 1) (9 - (q + 1)) (by omega)
    rw [show q + 1 + (9 - (q + 1)) = 9 by omega] at b
    have c : spanZ x 2 (q + 1) = spanZ x 2 q + areaZ x ((2 + q : Nat) : Int) := rfl
    have d := mul_up hS (show (k : Int) + 1 ≤ x.b by omega)
    have e : 0 ≤ (k : Int) * spanZ x 2 9 := Int.mul_nonneg (by omega) hS
    unfold totZ
    omega
  · rw [from_last]
    have c : spanZ x 11 1 = 0 + areaZ x ((11 + 0 : Nat) : Int) := rfl
    rw [Int.zero_add, Nat.add_zero] at c
    unfold totZ
    omega
/-- Whose each byte is. -/
theorem owners {x : Cfg} (h : In x) : ∃ O : Nat → Nat × Nat, ∀ i : Nat, (i : Int) < totZ x → Hit x (O i).1 (O i).2 (i : Int) := by
  have h1 : ∀ i : Nat, ∃ o : Nat × Nat, (i : Int) < totZ x → Hit x o.1 o.2 (i : Int) := fun i => by
    by_cases hi : (i : Int) < totZ x
    · obtain ⟨p, k, hh⟩ := hit_there h (i := (i : Int)) (by omega) hi
      exact ⟨(p, k), fun _ => hh⟩
    · exact ⟨(0, 0), fun hh => absurd hh hi⟩
  exact Classical.axiomOfChoice h1
/-- How often a byte was counted, when the parts ahead of (p, k) are; within that part the bytes ahead of j. -/
def seenZ (O : Nat → Nat × Nat) (p k i : Nat) : Int := if (O i).1 < p ∨ ((O i).1 = p ∧ (O i).2 < k) then 1 else 0
def seenJ (O : Nat → Nat × Nat) (p k j i : Nat) : Int := if ((O i).1 < p ∨ ((O i).1 = p ∧ (O i).2 < k)) ∨ ((O i).1 = p ∧ (O i).2 = k ∧ i < j) then 1 else 0
section
variable {x : Cfg} (h : In x) {O : Nat → Nat × Nat} (hO : ∀ i : Nat, (i : Int) < totZ x → Hit x (O i).1 (O i).2 (i : Int))
include h hO
theorem seen_begin {p k i : Nat} (hp : p ≤ 11) (hk : (k : Int) < timesZ x (p : Int)) (hi : (i : Int) < totZ x) : seenJ O p k (fromZ x (p : Int) (k : Int)).toNat i = seenZ O p k i := by
  unfold seenJ seenZ
  have ho := hO i hi
  have hw := hit_within h hp hk
  by_cases c : (O i).1 < p ∨ ((O i).1 = p ∧ (O i).2 < k)
  · rw [if_pos c, if_pos (.inl c)]
  · rw [if_neg c, if_neg]
    rintro (c1 | ⟨c1, c2, c3⟩)
    · exact c c1
    · have := ho.low
      rw [c1, c2] at this
      omega
theorem seen_end {p k i : Nat} (hp : p ≤ 11) (hk : (k : Int) < timesZ x (p : Int)) (hi : (i : Int) < totZ x) : seenJ O p k (fromZ x (p : Int) (k : Int) + areaZ x (p : Int)).toNat i = seenZ O p (k + 1) i := by
  unfold seenJ seenZ
  have ho := hO i hi
  have hw := hit_within h hp hk
  by_cases c : (O i).1 < p ∨ ((O i).1 = p ∧ (O i).2 < k)
  · rw [if_pos (.inl c), if_pos (by omega)]
  · by_cases c2 : (O i).1 = p ∧ (O i).2 = k
    · have := ho.high
      rw [c2.1, c2.2] at this
      rw [if_pos (.inr ⟨c2.1, c2.2, by omega⟩), if_pos (by omega)]
    · rw [if_neg (by omega), if_neg (by omega)]
theorem seen_new {p k j : Nat} (hp : p ≤ 11) (hk : (k : Int) < timesZ x (p : Int)) (h1 : fromZ x (p : Int) (k : Int) ≤ (j : Int)) (h2 : (j : Int) < fromZ x (p : Int) (k : Int) + areaZ x (p : Int)) : seenJ O p k j j = 0 ∧ seenJ O p k (j + 1) j = 1 := by
  have hw := hit_within h hp hk
  obtain ⟨e1, e2⟩ := hit_same h (hO j (by omega)) ⟨hp, hk, h1, h2⟩
  unfold seenJ
  exact ⟨if_neg (by omega), if_pos (.inr ⟨e1, e2, by omega⟩)⟩
theorem seen_row {p i : Nat} {B : Nat} (hB : ((B : Nat) : Int) = x.b) (hi : (i : Int) < totZ x) : seenZ O p B i = seenZ O (p + 1) 0 i := by
  unfold seenZ
  have ho := hO i hi
  have hb := ho.block
  have h1 := h.b1
  have ht : timesZ x ((O i).1 : Int) ≤ x.b := by
    unfold timesZ
    split <;> omega
  by_cases c : (O i).1 < p ∨ (O i).1 = p
  · rw [if_pos (by omega), if_pos (by omega)]
  · rw [if_neg (by omega), if_neg (by omega)]
end
theorem seen_skip {x : Cfg} {O : Nat → Nat × Nat} (hO : ∀ i : Nat, (i : Int) < totZ x → Hit x (O i).1 (O i).2 (i : Int)) {p k i : Nat} (hk : timesZ x (p : Int) ≤ (k : Int)) (hi : (i : Int) < totZ x) : seenZ O p k i = seenZ O p (k + 1) i := by
  unfold seenZ
  have ho := hO i hi
  have hb := ho.block
  by_cases c : (O i).1 < p ∨ ((O i).1 = p ∧ (O i).2 < k)
  · rw [if_pos c, if_pos (by omega)]
  · rw [if_neg c, if_neg]
    rintro (c1 | ⟨c1, c2⟩)
    · omega
    · rw [c1] at hb
      omega
theorem seen_all {x : Cfg} {O : Nat → Nat × Nat} (hO : ∀ i : Nat, (i : Int) < totZ x → Hit x (O i).1 (O i).2 (i : Int)) {i : Nat} (hi : (i : Int) < totZ x) : seenZ O 12 0 i = 1 := by
  have ho := (hO i hi).part
  exact if_pos (.inl (by omega))
theorem seen_none (O : Nat → Nat × Nat) (i : Nat) : seenZ O 0 0 i = 0 := if_neg (by omega)
theorem seen_other (O : Nat → Nat × Nat) {p k j i : Nat} (h : i ≠ j) : seenJ O p k (j + 1) i = seenJ O p k j i := by
  unfold seenJ
  by_cases c : ((O i).1 < p ∨ ((O i).1 = p ∧ (O i).2 < k)) ∨ ((O i).1 = p ∧ (O i).2 = k ∧ i < j)
  · rw [if_pos c, if_pos (by omega)]
  · rw [if_neg c, if_neg (by omega)]
end Cf
end Go.Proofs.YtlechjpaldpgnaaGreatDoor
namespace Go.Proofs.YtlechjpaldpgnaaGreatDoor
open Go Go.RowKit Pn
namespace Cf

def nthZ (x : Cfg) (i : Nat) : Int := match i with | 0 => x.v | 1 => x.d | 2 => x.h | 3 => x.b | 4 => x.n | _ => x.c
def cfgB (x : Cfg) : ByteArray := ⟨(numsL (nthZ x) 6).toArray⟩
theorem cfgB_pen (x : Cfg) : penL [⟨(numsL (nthZ x) 6).toArray⟩] = numsL (nthZ x) 6 := by simp [penL]
theorem cfgB_size (x : Cfg) : (cfgB x).size = 24 := by
  show (numsL (nthZ x) 6).toArray.size = 24
  rw [List.size_toArray, numsL_length]
/-- What is left of a text behind i numbers, whether one was wrong, and the next number. -/
def rsT (m : Nat → Int) (t : ByteArray) : Nat → ByteArray
  | 0 => t
  | i + 1 => nmRest (rsT m t i) (m i)
def bsT (m : Nat → Int) (t : ByteArray) : Nat → Bool
  | 0 => false
  | i + 1 => nmBad (rsT m t i) (bsT m t i) (m i)
def vsT (m : Nat → Int) (t : ByteArray) (i : Nat) : Nat := nmOut (rsT m t i) (m i)
def cfgT (m : Nat → Int) (t : ByteArray) : Cfg := ⟨vsT m t 0, vsT m t 1, vsT m t 2, vsT m t 3, vsT m t 4, vsT m t 5⟩
def lim (i : Nat) : Int := match i with | 0 => 32 | 1 => 16 | 2 => 4 | 3 => 3 | 4 => 32 | _ => 32
def free (_ : Nat) : Int := 4294967295
theorem sane_T (m : Nat → Int) (t : ByteArray) : ∀ i, Sane (rsT m t i) (bsT m t i)
  | 0 => fun h => by cases h
  | i + 1 => nm_sane (sane_T m t i) (m i)
def okT (m : Nat → Int) (t : ByteArray) : Bool := goodZ (cfgT m t) && (!bsT m t 6 && decide ((rsT m t 6).size = 0))
theorem okT_iff {m : Nat → Int} {t : ByteArray} : okT m t = true ↔ Good (cfgT m t) ∧ bsT m t 6 = false ∧ (rsT m t 6).size = 0 := by
  unfold okT
  simp only [Bool.and_eq_true, Bool.not_eq_true', decide_eq_true_iff, good_iff]
theorem low_ok {r : ByteArray} {m : Int} (h : 1 ≤ nmOut r m) : nmOk r m = true := by
  cases ho : nmOk r m with
  | true => rfl
  | false => rw [nm_out_no ho] at h; omega
theorem free_ok {r : ByteArray} {m : Int} (h : nmOk r m = true) (i : Nat) : nmOk r (free i) = true := by
  unfold nmOk at h
  simp only [Bool.and_eq_true, decide_eq_true_iff] at h
  exact nm_ok h.1 (by have := le4_lt r; unfold free; omega)
/-- A step that both readers take alike. -/
theorem step_alike {m : Nat → Int} {t : ByteArray} {i : Nat} (hr : rsT m t i = rsT free t i) (hb : bsT m t i = bsT free t i) (h1 : nmOk (rsT free t i) (m i) = true) :
    vsT m t i = vsT free t i ∧ rsT m t (i + 1) = rsT free t (i + 1) ∧ bsT m t (i + 1) = bsT free t (i + 1) := by
  have h2 := free_ok h1 i
  have h3 : nmOk (rsT m t i) (m i) = true := by rw [hr]; exact h1
  refine ⟨?_, ?_, ?_⟩
  · unfold vsT
    rw [nm_out_yes h3, nm_out_yes h2, hr]
  · show nmRest (rsT m t i) (m i) = nmRest (rsT free t i) (free i)
    rw [nm_rest_yes h3, nm_rest_yes h2, hr]
  · show nmBad (rsT m t i) (bsT m t i) (m i) = nmBad (rsT free t i) (bsT free t i) (free i)
    rw [nm_bad_yes _ h3, nm_bad_yes _ h2, hb]
theorem six_alike {m : Nat → Int} {t : ByteArray} (h : ∀ i, i < 6 → rsT m t i = rsT free t i → nmOk (rsT free t i) (m i) = true) :
    ∀ i, i ≤ 6 → rsT m t i = rsT free t i ∧ bsT m t i = bsT free t i ∧ (∀ j, j < i → vsT m t j = vsT free t j)
  | 0, _ => ⟨rfl, rfl, fun j hj => by omega⟩
  | i + 1, hi => by
    obtain ⟨a, b, c⟩ := six_alike h i (by omega)
    obtain ⟨d, e, f⟩ := step_alike a b (h i (by omega) a)
    exact ⟨e, f, fun j hj => by
      by_cases hji : j = i
      · rw [hji]; exact d
      · exact c j (by omega)⟩
theorem cfg_alike {m : Nat → Int} {t : ByteArray} (h : ∀ i, i < 6 → vsT m t i = vsT free t i) : cfgT m t = cfgT free t := by
  unfold cfgT
  rw [h 0 (by omega), h 1 (by omega), h 2 (by omega), h 3 (by omega), h 4 (by omega), h 5 (by omega)]
theorem each_low {m : Nat → Int} {t : ByteArray} (h : In (cfgT m t)) (i : Nat) (hi : i < 6) : 1 ≤ vsT m t i := by
  obtain ⟨a, _, b, _, c, _, d, _, e, _, f, _⟩ := h
  unfold cfgT at a b c d e f
  rcases (show i = 0 ∨ i = 1 ∨ i = 2 ∨ i = 3 ∨ i = 4 ∨ i = 5 by omega) with rfl | rfl | rfl | rfl | rfl | rfl <;> (dsimp only at a b c d e f; omega)
theorem each_lim {m : Nat → Int} {t : ByteArray} (h : In (cfgT m t)) (i : Nat) (hi : i < 6) : (vsT m t i : Int) ≤ lim i := by
  obtain ⟨_, a, _, b, _, c, _, d, _, e, _, f⟩ := h
  rcases (show i = 0 ∨ i = 1 ∨ i = 2 ∨ i = 3 ∨ i = 4 ∨ i = 5 by omega) with rfl | rfl | rfl | rfl | rfl | rfl
  · exact a
  · exact b
  · exact c
  · exact d
  · exact e
  · exact f
theorem bad_stays {m : Nat → Int} {t : ByteArray} (i : Nat) : ∀ k, bsT m t (i + k) = false → bsT m t i = false
  | 0, h => h
  | k + 1, h => by
    have h' : nmBad (rsT m t (i + k)) (bsT m t (i + k)) (m (i + k)) = false := h
    unfold nmBad at h'
    exact bad_stays i k (Bool.or_eq_false_iff.1 h').1
/-- With limits or without, what is read is the same. -/
theorem read_alike (t : ByteArray) : okT lim t = okT free t ∧ (okT free t = true → cfgT lim t = cfgT free t) := by
  have key : (okT lim t = true ∨ okT free t = true) → ∀ i, i < 6 → rsT lim t i = rsT free t i → nmOk (rsT free t i) (lim i) = true := fun h i hi he => by
    rcases h with h | h
    · have := low_ok (each_low (okT_iff.1 h).1.is i hi)
      rwa [he] at this
    · obtain ⟨h1, h2, h3⟩ := okT_iff.1 h
      have hb : bsT free t (i + 1) = false := bad_stays (i + 1) (6 - (i + 1)) (by rw [show i + 1 + (6 - (i + 1)) = 6 by omega]; exact h2)
      have hb' : nmBad (rsT free t i) (bsT free t i) (free i) = false := hb
      have ho : nmOk (rsT free t i) (free i) = true := by
        unfold nmBad at hb'
        have := (Bool.or_eq_false_iff.1 hb').2
        simpa using this
      have hl := each_lim h1.is i hi
      unfold vsT at hl
      rw [nm_out_yes ho] at hl
      unfold nmOk at ho
      simp only [Bool.and_eq_true, decide_eq_true_iff] at ho
      exact nm_ok ho.1 hl
  have all : (okT lim t = true ∨ okT free t = true) → okT lim t = okT free t ∧ cfgT lim t = cfgT free t := fun h => by
    obtain ⟨a, b, c⟩ := six_alike (key h) 6 (Nat.le_refl _)
    have hc := cfg_alike c
    refine ⟨?_, hc⟩
    unfold okT
    rw [hc, a, b]
  cases h1 : okT lim t with
  | true => exact ⟨by rw [← (all (.inl h1)).1, h1], fun _ => (all (.inl h1)).2⟩
  | false =>
    cases h2 : okT free t with
    | true => rw [← (all (.inr h2)).1, h1] at h2; cases h2
    | false => exact ⟨rfl, fun h => by cases h⟩
/-- What was written is read as it was. -/
theorem back_step (m : Nat → Int) (t : ByteArray) (i : Nat) (z : Int) (T : List UInt8) (h : rsT m t i = ⟨(numL z ++ T).toArray⟩) (hb : bsT m t i = false) (hz : numOk z = true) (hm : z ≤ m i) :
    (vsT m t i : Int) = z ∧ rsT m t (i + 1) = ⟨T.toArray⟩ ∧ bsT m t (i + 1) = false := by
  refine ⟨?_, ?_, ?_⟩
  · unfold vsT
    rw [h, nm_num_out z hz T _ hm]
  · show nmRest (rsT m t i) (m i) = _
    rw [h, nm_num_rest z hz T _ hm]
  · show nmBad (rsT m t i) (bsT m t i) (m i) = _
    rw [h, hb, nm_num_bad z hz T _ hm]
theorem nums_six (x : Cfg) : numsL (nthZ x) 6 = numL x.v ++ (numL x.d ++ (numL x.h ++ (numL x.b ++ (numL x.n ++ (numL x.c ++ []))))) := by
  show (List.range 6).flatMap (fun i => numL (nthZ x i)) = _
  simp [List.range_succ, nthZ]
theorem back_cfg (x : Cfg) (h : Good x) : okT lim (cfgB x) = true ∧ cfgT lim (cfgB x) = x := by
  obtain ⟨a, a2, b, b2, c, c2, d, d2, e, e2, f, f2⟩ := h.is
  obtain ⟨v0, r1, b1⟩ := back_step lim (cfgB x) 0 x.v _ (by show cfgB x = _; unfold cfgB; rw [nums_six]) rfl (num_ok (by omega) (by omega)) a2
  obtain ⟨v1, r2, b2'⟩ := back_step lim (cfgB x) 1 x.d _ r1 b1 (num_ok (by omega) (by omega)) b2
  obtain ⟨v2, r3, b3⟩ := back_step lim (cfgB x) 2 x.h _ r2 b2' (num_ok (by omega) (by omega)) c2
  obtain ⟨v3, r4, b4⟩ := back_step lim (cfgB x) 3 x.b _ r3 b3 (num_ok (by omega) (by omega)) d2
  obtain ⟨v4, r5, b5⟩ := back_step lim (cfgB x) 4 x.n _ r4 b4 (num_ok (by omega) (by omega)) e2
  obtain ⟨v5, r6, b6⟩ := back_step lim (cfgB x) 5 x.c _ r5 b5 (num_ok (by omega) (by omega)) f2
  have hc : cfgT lim (cfgB x) = x := by
    unfold cfgT
    rw [v0, v1, v2, v3, v4, v5]
  exact ⟨okT_iff.2 ⟨by rw [hc]; exact h, b6, by rw [r6]; rfl⟩, hc⟩
end Cf
end Go.Proofs.YtlechjpaldpgnaaGreatDoor
namespace Go.Proofs.YtlechjpaldpgnaaGreatDoor
open Go.ChangeShapes Go.WideShapes Go.ChangeAt Go.RowKit Cf

namespace Cf
/-- A shape's block, of either type. -/
def cfO (t : TypeId) (x : Cfg) : Obj := .cells (cfA x) t (0, 0)
section
variable {w : World} {b : Nat} {t : TypeId} {x : Cfg} (h : w.heap[b]? = some (cfO t x))
include h
theorem cell0 : w.cell? ⟨b, 0, none⟩ = some (.int .i64 x.v) := by rw [cell_of_row w b 0 _ _ _ h]; rfl
theorem cell1 : w.cell? ⟨b, 1, none⟩ = some (.int .i64 x.d) := by rw [cell_of_row w b 1 _ _ _ h]; rfl
theorem cell2 : w.cell? ⟨b, 2, none⟩ = some (.int .i64 x.h) := by rw [cell_of_row w b 2 _ _ _ h]; rfl
theorem cell3 : w.cell? ⟨b, 3, none⟩ = some (.int .i64 x.b) := by rw [cell_of_row w b 3 _ _ _ h]; rfl
theorem cell4 : w.cell? ⟨b, 4, none⟩ = some (.int .i64 x.n) := by rw [cell_of_row w b 4 _ _ _ h]; rfl
theorem cell5 : w.cell? ⟨b, 5, none⟩ = some (.int .i64 x.c) := by rw [cell_of_row w b 5 _ _ _ h]; rfl
end
theorem seven (b1 b2 b3 b4 b5 : Bool) : b1 = false ∨ (b1 = true ∧ b2 = false) ∨ (b1 = true ∧ b2 = true ∧ b3 = false) ∨ (b1 = true ∧ b2 = true ∧ b3 = true ∧ b4 = false) ∨ (b1 = true ∧ b2 = true ∧ b3 = true ∧ b4 = true ∧ b5 = false) ∨ (b1 = true ∧ b2 = true ∧ b3 = true ∧ b4 = true ∧ b5 = true) := by
  cases b1 <;> cases b2 <;> cases b3 <;> cases b4 <;> cases b5 <;> simp
end Cf
set_option maxRecDepth 100000 in
set_option maxHeartbeats 1600000 in
theorem conf_within (w : World) (n l m : Int) : Calls Tryz.prog 96 #[.int .i64 n, .int .i64 l, .int .i64 m] w fun e w' => e = .returned (.bool (withinZ n l m)) ∧ w = w' := by
  unfold withinZ
  by_cases h1 : l ≤ n
  · have t1 : decide (l ≤ n) = true := decide_eq_true h1
    cases h2 : decide (n ≤ m)
    all_goals
      go_enter Tryz.func96, Tryz.ntmps96
      go_wp2_with (fail)
      refine bodyPost_ret (results_tmp rfl _ _ _) rfl ?_
      exact ⟨by rw [t1]; rfl, rfl⟩
  · have t1 : decide (l ≤ n) = false := decide_eq_false h1
    go_enter Tryz.func96, Tryz.ntmps96
    go_wp2_with (fail)
    refine bodyPost_ret (results_tmp rfl _ _ _) rfl ?_
    exact ⟨rfl, rfl⟩
set_option maxRecDepth 100000 in
set_option maxHeartbeats 1600000 in
theorem conf_bounded (w : World) (x : Cfg) : Calls Tryz.prog 73 #[cfV x] w fun e w' => e = .returned (.bool (inZ x)) ∧ Below w.heap.size w w' := by
  have H1 := Lib.hid (fun W => conf_within W x.v 2 32)
  have H2 := Lib.hid (fun W => conf_within W x.d 1 16)
  have H3 := Lib.hid (fun W => conf_within W x.h 1 4)
  have H4 := Lib.hid (fun W => conf_within W x.b 1 3)
  have H5 := Lib.hid (fun W => conf_within W x.n 1 32)
  have H6 := Lib.hid (fun W => conf_within W x.c 1 32)
  have HB := Lib.hid ((Below.refl w.heap.size w).alloc (Nat.le_refl _) (cfO 60 x))
  unfold inZ
  unfold cfO at HB
  unfold cfV cfA at *
  generalize withinZ x.v 2 32 = b1 at H1 ⊢
  generalize withinZ x.d 1 16 = b2 at H2 ⊢
  generalize withinZ x.h 1 4 = b3 at H3 ⊢
  generalize withinZ x.b 1 3 = b4 at H4 ⊢
  generalize withinZ x.n 1 32 = b5 at H5 ⊢
  generalize withinZ x.c 1 32 = b6 at H6 ⊢
  rcases seven b1 b2 b3 b4 b5 with rfl | ⟨rfl, rfl⟩ | ⟨rfl, rfl, rfl⟩ | ⟨rfl, rfl, rfl, rfl⟩ | ⟨rfl, rfl, rfl, rfl, rfl⟩ | ⟨rfl, rfl, rfl, rfl, rfl⟩
  all_goals
    go_enter Tryz.func73, Tryz.ntmps73
    go_wp2_with (fail)
    try (refine (H1.out _).mono ?_; rintro e w1 ⟨rfl, rfl⟩; go_wp2_with (fail))
    try (refine (H2.out _).mono ?_; rintro e w1 ⟨rfl, rfl⟩; go_wp2_with (fail))
    try (refine (H3.out _).mono ?_; rintro e w1 ⟨rfl, rfl⟩; go_wp2_with (fail))
    try (refine (H4.out _).mono ?_; rintro e w1 ⟨rfl, rfl⟩; go_wp2_with (fail))
    try (refine (H5.out _).mono ?_; rintro e w1 ⟨rfl, rfl⟩; go_wp2_with (fail))
    try (refine (H6.out _).mono ?_; rintro e w1 ⟨rfl, rfl⟩; go_wp2_with (fail))
    exact bodyPost_ret (results_tmp rfl _ _ _) rfl ⟨rfl, HB.out⟩
/-- How many rows and columns: for each part, and for none. -/
theorem side_cases (x : Cfg) (p : Int) : (p = 0 ∧ rowsZ x p = x.v ∧ colsZ x p = x.d) ∨ (p = 1 ∧ rowsZ x p = x.c ∧ colsZ x p = x.d) ∨ ((p = 2 ∨ p = 7 ∨ p = 11) ∧ rowsZ x p = 1 ∧ colsZ x p = x.d) ∨ ((p = 3 ∨ p = 4 ∨ p = 5 ∨ p = 6) ∧ rowsZ x p = x.d ∧ colsZ x p = x.d) ∨ ((p = 8 ∨ p = 9) ∧ rowsZ x p = x.n ∧ colsZ x p = x.d) ∨ (p = 10 ∧ rowsZ x p = x.d ∧ colsZ x p = x.n) ∨
    ((p == 0) = false ∧ (p == 1) = false ∧ (p == 2) = false ∧ (p == 3) = false ∧ (p == 4) = false ∧ (p == 5) = false ∧ (p == 6) = false ∧ (p == 7) = false ∧ (p == 8) = false ∧ (p == 9) = false ∧ (p == 10) = false ∧ (p == 11) = false ∧ rowsZ x p = 0 ∧ colsZ x p = 0) := by
  by_cases h : 0 ≤ p ∧ p ≤ 11
  · rcases part_cases h.1 h.2 with rfl | rfl | rfl | rfl | rfl | rfl | rfl | rfl | rfl | rfl | rfl | rfl <;> simp [rowsZ, colsZ]
  · refine .inr (.inr (.inr (.inr (.inr (.inr ⟨?_, ?_, ?_, ?_, ?_, ?_, ?_, ?_, ?_, ?_, ?_, ?_, rows_out x (by omega), cols_out x (by omega)⟩)))))
    all_goals exact beq_eq_false_iff_ne.2 (by omega)
set_option maxRecDepth 100000 in
set_option maxHeartbeats 6400000 in
theorem conf_side (w : World) (x : Cfg) (p : Int) : Calls Tryz.prog 114 #[cfV x, .int .i64 p] w fun e w' => e = .returned (.tuple #[.int .i64 (rowsZ x p), .int .i64 (colsZ x p)]) ∧ Below w.heap.size w w' := by
  have HB := Lib.hid ((Below.refl w.heap.size w).alloc (Nat.le_refl _) (cfO 101 x))
  have HH := heap_alloc_new w (cfO 101 x)
  have e0 := cell0 HH
  have e1 := cell1 HH
  have e4 := cell4 HH
  have e5 := cell5 HH
  unfold cfO at HB e0 e1 e4 e5
  have hc := side_cases x p
  clear HH
  generalize rowsZ x p = R at hc ⊢
  generalize colsZ x p = C at hc ⊢
  unfold cfV cfA at *
  rcases hc with ⟨rfl, rfl, rfl⟩ | ⟨rfl, rfl, rfl⟩ | ⟨rfl | rfl | rfl, rfl, rfl⟩ | ⟨rfl | rfl | rfl | rfl, rfl, rfl⟩ | ⟨rfl | rfl, rfl, rfl⟩ | ⟨rfl, rfl, rfl⟩ | ⟨n0, n1, n2, n3, n4, n5, n6, n7, n8, n9, na, nb, rfl, rfl⟩
  case inr.inr.inr.inr.inr.inr =>
    go_enter Tryz.func114, Tryz.ntmps114
    go_wp2_with (fail)
    exact bodyPost_ret (results_tmp2 rfl _ _ _) rfl ⟨rfl, HB.out⟩
  all_goals
    go_enter Tryz.func114, Tryz.ntmps114
    go_wp2_with (fail)
    go_quiet (fail)
    have HQ := Lib.hid (below_drewN HB.out nq)
    go_wp2_with (fail)
    exact bodyPost_ret (results_tmp2 rfl _ _ _) rfl ⟨rfl, HQ.out⟩
end Go.Proofs.YtlechjpaldpgnaaGreatDoor
namespace Go.Proofs.YtlechjpaldpgnaaGreatDoor
open Go.ChangeShapes Go.WideShapes Go.ChangeAt Go.RowKit Cf

namespace Cf
theorem six {w : World} {b : Nat} {t : TypeId} {x : Cfg} (h : w.heap[b]? = some (cfO t x)) : w.cell? ⟨b, 0, none⟩ = some (.int .i64 x.v) ∧ w.cell? ⟨b, 1, none⟩ = some (.int .i64 x.d) ∧ w.cell? ⟨b, 2, none⟩ = some (.int .i64 x.h) ∧ w.cell? ⟨b, 3, none⟩ = some (.int .i64 x.b) ∧ w.cell? ⟨b, 4, none⟩ = some (.int .i64 x.n) ∧ w.cell? ⟨b, 5, none⟩ = some (.int .i64 x.c) :=
  ⟨cell0 h, cell1 h, cell2 h, cell3 h, cell4 h, cell5 h⟩
theorem less (a b : Nat) (h : a < b) : b - ((a : Int) + 1).toNat < b - (a : Int).toNat := by omega
/-- What stays as it was: a block that was there, behind a call. -/
theorem stays {w1 w2 : World} {B : Nat} {t : TypeId} {x : Cfg} (h : w1.heap[B]? = some (cfO t x)) (hb : Below w1.heap.size w1 w2) : w2.heap[B]? = some (cfO t x) := (hb.block B (Array.getElem?_eq_some_iff.1 h).1).trans h
end Cf
set_option maxRecDepth 100000 in
set_option maxHeartbeats 1600000 in
theorem conf_span (w : World) (x : Cfg) (h : In x) (f k t : Nat) (he : t = f + k) (h12 : t ≤ 12) : Calls Tryz.prog 97 #[cfV x, .int .i64 (f : Int), .int .i64 (t : Int)] w fun e w' => e = .returned (.int .i64 (spanZ x f k)) ∧ Below w.heap.size w w' := by
  have HS := Lib.hid (fun W p => conf_side W x p)
  have HA := Lib.hid (fun (p : Nat) (hp : p ≤ 11) => area_in h (p := (p : Int)) (by omega) (by omega))
  have HSP := Lib.hid (span_in h f)
  have HE := Lib.hid he
  have HZ := Lib.hid (show spanZ x f 0 = 0 from rfl)
  have HN := Lib.hid (fun j => show spanZ x f (j + 1) = spanZ x f j + rowsZ x ((f + j : Nat) : Int) * colsZ x ((f + j : Nat) : Int) from rfl)
  have HB0 := Lib.hid ((Below.refl w.heap.size w).alloc (Nat.le_refl _) (cfO 101 x))
  have HH0 := Lib.hid (heap_alloc_new w (cfO 101 x))
  unfold areaZ at HA
  clear he h
  generalize spanZ x f = sp at HSP HZ HN ⊢
  unfold cfO at HB0 HH0
  unfold cfV cfA at *
  go_enter Tryz.func97, Tryz.ntmps97
  go_wp2_with (fail)
  go_loopw [7, 8] (fun s i wr => ∃ p j : Nat, i = .int .i64 (p : Int) ∧ p = f + j ∧ j ≤ k ∧ s = .int .i64 (sp j) ∧ wr.heap[w.heap.size]? = some (cfO 101 x) ∧ Below w.heap.size w wr) (fun _ i _ => match i with | .int _ q => t - q.toNat | _ => 0)
  case atStart => exact ⟨f, 0, rfl, rfl, Nat.zero_le _, by rw [HZ.out], HH0.out, HB0.out⟩
  case round =>
    clear HH0 HB0
    obtain ⟨p, j, rfl, hp, hj, rfl, hh, hb⟩ := hrel
    have HH := Lib.hid hh
    have HB := Lib.hid hb
    have HP := Lib.hid hp
    have hpe := HE.out
    by_cases hlt : p < t
    · have x0 : (p : Int) < (t : Int) := by omega
      have x1 : decide ((p : Int) < (t : Int)) = true := decide_eq_true x0
      have HJ := Lib.hid (show j + 1 ≤ k by omega)
      have HR := Lib.hid (HA.out p (by omega))
      have HS1 := Lib.hid (show 0 ≤ sp j ∧ sp j ≤ 12288 by have := HSP.out j (by omega); omega)
      have HN1 := Lib.hid (HN.out j)
      rw [← hp] at HN1
      have X3 := Lib.hid (IntWalk.wrap64_in ((p : Int) + 1) (by omega))
      obtain ⟨e0, e1, e2, e3, e4, e5⟩ := six hh
      have HM := Lib.hid (less p t hlt)
      clear hh hb hp hpe hlt hj
      go_wp2_with (fail)
      refine (HS.out _ _).mono ?_
      rintro e w1 ⟨rfl, b1⟩
      have HH1 := Lib.hid (stays HH.out b1)
      have HB1 := Lib.hid (HB.out.trans (b1.mono HB.out.size))
      clear b1 e0 e1 e2 e3 e4 e5 HB HH
      generalize rowsZ x (p : Int) = R at HR HN1 ⊢
      generalize colsZ x (p : Int) = C at HR HN1 ⊢
      have m1 : wrap64 (R * C) = R * C := IntWalk.wrap64_in _ (by have := HR.out; omega)
      have m2 : wrap64 (sp j + R * C) = sp j + R * C := IntWalk.wrap64_in _ (by have := HR.out; have := HS1.out; omega)
      have m3 := X3.out
      go_wp2_with (fail)
      exact ⟨⟨p + 1, j + 1, rfl, by have := HP.out; omega, HJ.out, by rw [HN1.out, m2], HH1.out, HB1.out⟩, HM.out⟩
    · have x0 : ¬ (p : Int) < (t : Int) := by omega
      have x1 : decide ((p : Int) < (t : Int)) = false := decide_eq_false x0
      have hjk : j = k := by omega
      clear hh hb hp hpe hlt hj HP
      subst hjk
      go_wp2_with (fail)
      exact bodyPost_ret (results_tmp rfl _ _ _) rfl ⟨rfl, HB.out⟩
theorem ints_total (x : Cfg) (h : In x) : IntKind.i64.wrap (x.b * spanZ x 2 9) = x.b * spanZ x 2 9 ∧ IntKind.i64.wrap (spanZ x 0 2 + x.b * spanZ x 2 9) = spanZ x 0 2 + x.b * spanZ x 2 9 ∧ IntKind.i64.wrap (spanZ x 0 2 + x.b * spanZ x 2 9 + spanZ x 11 1) = totZ x := by
  have h1 := span_in h 0 2 (by omega)
  have h2 := span_in h 11 1 (by omega)
  have h3 := mid_in h
  unfold totZ
  exact ⟨IntWalk.i64_in _ (by omega), IntWalk.i64_in _ (by omega), IntWalk.i64_in _ (by omega)⟩
set_option maxRecDepth 100000 in
set_option maxHeartbeats 1600000 in
theorem conf_total (w : World) (x : Cfg) (h : In x) : Calls Tryz.prog 74 #[cfV x] w fun e w' => e = .returned (.int .i64 (totZ x)) ∧ Below w.heap.size w w' := by
  have H1 := Lib.hid (fun W => show Calls Tryz.prog 97 #[cfV x, .int .i64 0, .int .i64 2] W fun e w' => e = .returned (.int .i64 (spanZ x 0 2)) ∧ Below W.heap.size W w' from conf_span W x h 0 2 2 rfl (by omega))
  have H2 := Lib.hid (fun W => show Calls Tryz.prog 97 #[cfV x, .int .i64 2, .int .i64 11] W fun e w' => e = .returned (.int .i64 (spanZ x 2 9)) ∧ Below W.heap.size W w' from conf_span W x h 2 9 11 rfl (by omega))
  have H3 := Lib.hid (fun W => show Calls Tryz.prog 97 #[cfV x, .int .i64 11, .int .i64 12] W fun e w' => e = .returned (.int .i64 (spanZ x 11 1)) ∧ Below W.heap.size W w' from conf_span W x h 11 1 12 rfl (by omega))
  obtain ⟨i1, i2, i3⟩ := ints_total x h
  have HH := Lib.hid (show (w.alloc (cfO 101 x)).drew.heap[w.heap.size]? = some (cfO 101 x) from heap_alloc_new w _)
  have HB := Lib.hid (show Below w.heap.size w (w.alloc (cfO 101 x)).drew from below_drewN ((Below.refl _ _).alloc (Nat.le_refl _) _) 1)
  have k0 := six HH.out
  unfold cfV at *
  clear h
  generalize totZ x = T at i3 ⊢
  generalize spanZ x 0 2 = a at i2 i3 H1
  generalize spanZ x 11 1 = c at i3 H3
  generalize spanZ x 2 9 = b at i1 i2 i3 H2
  generalize hm : x.b * b = m at i1 i2 i3
  unfold cfO cfA at *
  go_enter Tryz.func74, Tryz.ntmps74
  go_wp2_with (fail)
  go_region_held3 (fun W : World => W.cell? ⟨w.heap.size, 0, none⟩ = some (.int .i64 x.v) ∧ W.cell? ⟨w.heap.size, 1, none⟩ = some (.int .i64 x.d) ∧ W.cell? ⟨w.heap.size, 2, none⟩ = some (.int .i64 x.h) ∧ W.cell? ⟨w.heap.size, 3, none⟩ = some (.int .i64 x.b) ∧ W.cell? ⟨w.heap.size, 4, none⟩ = some (.int .i64 x.n) ∧ W.cell? ⟨w.heap.size, 5, none⟩ = some (.int .i64 x.c)) (first | exact k0 | assumption) (first
    | (go_at_call 97; (with_reducible refine (H1.out _).mono ?_); rintro e w2 ⟨rfl, b2⟩; have HH2 := Lib.hid (stays HH.out b2); have HB2 := Lib.hid (HB.out.trans (b2.mono HB.out.size)); have k2 := six HH2.out; clear b2)
    | (go_at_call 97; (with_reducible refine (H2.out _).mono ?_); rintro e w3 ⟨rfl, b3⟩; have HH3 := Lib.hid (stays HH2.out b3); have HB3 := Lib.hid (HB2.out.trans (b3.mono HB2.out.size)); have k3 := six HH3.out; clear b3)
    | (go_at_call 97; (with_reducible refine (H3.out _).mono ?_); rintro e w4 ⟨rfl, b4⟩; have HH4 := Lib.hid (stays HH3.out b4); have HB4 := Lib.hid (HB3.out.trans (b4.mono HB3.out.size)); have k4 := six HH4.out; clear b4))
  go_wp2_with (fail)
  exact bodyPost_ret (results_tmp rfl _ _ _) rfl ⟨rfl, HB4.out⟩
end Go.Proofs.YtlechjpaldpgnaaGreatDoor
namespace Go.Proofs.YtlechjpaldpgnaaGreatDoor
open Go.ChangeShapes Go.WideShapes Go.ChangeAt Go.RowKit Cf

set_option maxRecDepth 100000 in
set_option maxHeartbeats 3200000 in
theorem conf_good (w : World) (x : Cfg) : Calls Tryz.prog 46 #[cfV x] w fun e w' => e = .returned (.bool (goodZ x)) ∧ Below w.heap.size w w' := by
  have HBD := Lib.hid (fun W => conf_bounded W x)
  have HB0 := Lib.hid ((Below.refl w.heap.size w).alloc (Nat.le_refl _) (cfO 60 x))
  have HH0 := Lib.hid (heap_alloc_new w (cfO 60 x))
  have k0 := six HH0.out
  have HT := Lib.hid (fun (h : In x) W => conf_total W x h)
  unfold goodZ
  have HI := Lib.hid (in_iff (x := x))
  generalize hg : inZ x = g at HBD HI ⊢
  clear hg
  unfold cfO at HB0 HH0 k0
  unfold cfV cfA at *
  cases g with
  | false =>
    go_enter Tryz.func46, Tryz.ntmps46
    go_wp2_with (fail)
    refine (HBD.out _).mono ?_
    rintro e w1 ⟨rfl, b1⟩
    have HB1 := Lib.hid (HB0.out.trans (b1.mono HB0.out.size))
    clear b1
    go_wp2_with (fail)
    exact bodyPost_ret (results_tmp rfl _ _ _) rfl ⟨rfl, HB1.out⟩
  | true =>
    have hin := HI.out.1 rfl
    have n0 : ¬ x.h = 0 := by have := hin.h1; omega
    have n1 : ¬ x.h = -1 := by have := hin.h1; omega
    have HT1 := Lib.hid (HT.out hin)
    clear HT hin HI
    by_cases hm : x.d.tmod x.h = 0
    · have hd : decide (x.d.tmod x.h = 0) = true := decide_eq_true hm
      have h2 : (x.d.tmod x.h == 0) = true := beq_iff_eq.2 hm
      rw [hd]
      clear hd hm
      cases h3 : decide (totZ x ≤ 8192)
      all_goals
        have H3 := Lib.hid h3
        clear h3
        go_enter Tryz.func46, Tryz.ntmps46
        go_wp2_with (fail)
        refine (HBD.out _).mono ?_
        rintro e w1 ⟨rfl, b1⟩
        have HH1 := Lib.hid (stays (x := x) (t := 60) HH0.out b1)
        have HB1 := Lib.hid (HB0.out.trans (b1.mono HB0.out.size))
        obtain ⟨e0, e1, e2, e3, e4, e5⟩ := six (x := x) (t := 60) HH1.out
        clear b1 k0
        go_wp2_with (fail)
        refine (HT1.out _).mono ?_
        rintro e w2 ⟨rfl, b2⟩
        have HB2 := Lib.hid (HB1.out.trans (b2.mono HB1.out.size))
        have h4 := H3.out
        clear b2
        go_wp2_with (fail)
        exact bodyPost_ret (results_tmp rfl _ _ _) rfl ⟨rfl, HB2.out⟩
    · have hd : decide (x.d.tmod x.h = 0) = false := decide_eq_false hm
      have h2 : (x.d.tmod x.h == 0) = false := beq_eq_false_iff_ne.2 hm
      rw [hd]
      clear hd hm
      go_enter Tryz.func46, Tryz.ntmps46
      go_wp2_with (fail)
      refine (HBD.out _).mono ?_
      rintro e w1 ⟨rfl, b1⟩
      have HH1 := Lib.hid (stays (x := x) (t := 60) HH0.out b1)
      have HB1 := Lib.hid (HB0.out.trans (b1.mono HB0.out.size))
      obtain ⟨e0, e1, e2, e3, e4, e5⟩ := six (x := x) (t := 60) HH1.out
      clear b1 k0
      go_wp2_with (fail)
      exact bodyPost_ret (results_tmp rfl _ _ _) rfl ⟨rfl, HB1.out⟩
theorem set_frozen {w : World} {b : Nat} {t : TypeId} {x : Cfg} (h : w.heap[b]? = some (cfO t x)) (i : Nat) : w.frozen? ⟨b, i, none⟩ = false := frozen_of_row w b i _ _ h
set_option maxRecDepth 100000 in
set_option maxHeartbeats 1600000 in
theorem conf_size (w : World) (x : Cfg) : Calls Tryz.prog 47 #[cfV x] w fun e w' => e = .returned (.int .i64 (if goodZ x = true then totZ x else 0)) ∧ Below w.heap.size w w' := by
  have HG := Lib.hid (fun W => conf_good W x)
  have HB0 := Lib.hid ((Below.refl w.heap.size w).alloc (Nat.le_refl _) (cfO 101 x))
  have HH0 := Lib.hid (heap_alloc_new w (cfO 101 x))
  have k0 := six HH0.out
  have HT := Lib.hid (fun (h : In x) W => conf_total W x h)
  have HI := Lib.hid (good_iff (x := x))
  generalize goodZ x = g at HG HI ⊢
  unfold cfO at HB0 HH0 k0
  unfold cfV cfA at *
  cases g with
  | false =>
    go_enter Tryz.func47, Tryz.ntmps47
    go_wp2_with (fail)
    refine (HG.out _).mono ?_
    rintro e w1 ⟨rfl, b1⟩
    have HB1 := Lib.hid (HB0.out.trans (b1.mono HB0.out.size))
    clear b1
    go_wp2_with (fail)
    exact bodyPost_ret (results_tmp rfl _ _ _) rfl ⟨rfl, HB1.out⟩
  | true =>
    have HT1 := Lib.hid (HT.out (HI.out.1 rfl).is)
    rw [if_pos rfl]
    go_enter Tryz.func47, Tryz.ntmps47
    go_wp2_with (fail)
    refine (HG.out _).mono ?_
    rintro e w1 ⟨rfl, b1⟩
    have HH1 := Lib.hid (stays (x := x) (t := 101) HH0.out b1)
    have HB1 := Lib.hid (HB0.out.trans (b1.mono HB0.out.size))
    obtain ⟨e0, e1, e2, e3, e4, e5⟩ := six (x := x) (t := 101) HH1.out
    clear b1 k0
    go_wp2_with (fail)
    refine (HT1.out _).mono ?_
    rintro e w2 ⟨rfl, b2⟩
    have HB2 := Lib.hid (HB1.out.trans (b2.mono HB1.out.size))
    clear b2
    go_wp2_with (fail)
    exact bodyPost_ret (results_tmp rfl _ _ _) rfl ⟨rfl, HB2.out⟩
theorem quo_in {x : Cfg} (h : In x) : wrap64 (x.d.tdiv x.h) = x.d.tdiv x.h := by
  have h1 := h.d1
  have h2 := h.d16
  have h3 := h.h1
  have h4 : x.d.tdiv x.h = x.d / x.h := Int.tdiv_eq_ediv_of_nonneg (by omega)
  have h5 : 0 ≤ x.d / x.h := Int.ediv_nonneg (by omega) (by omega)
  have h6 : x.d / x.h ≤ x.d := Int.ediv_le_self _ (by omega)
  exact IntWalk.wrap64_in _ (by omega)
end Go.Proofs.YtlechjpaldpgnaaGreatDoor
namespace Go.Proofs.YtlechjpaldpgnaaGreatDoor
open Go.ChangeShapes Go.WideShapes Go.ChangeAt Go.RowKit Cf

namespace Cf
def zeroC : Cfg := ⟨0, 0, 0, 0, 0, 0⟩
theorem res_cell_tmp {P : Program} {fn : Func} {p u : Tmp} {ty : TypeId} (h : fn.results = #[.cell p ty, .tmp u]) (tmps : Array Value) (w : World) (g : Nat) (t : TypeId) (cs : Array Value) (fr : Nat × Nat) (d : TypeDesc)
    (hp : tmps.getD p undef = .pointer (some ⟨g, 0, none⟩)) (hg : w.heap[g]? = some (.cells cs t fr))
    (hu : P.underlying ty = some d) (hd : (match d with | .struct _ | .array _ _ => true | _ => false) = true) (hi : (P.info? ty).map (·.size) = some cs.size) :
    (results fn tmps).run P w = .ok (.tuple #[.agg cs, tmps.getD u undef]) w := by
  rw [results_cell_tmp h, hp]
  simp [asAddr, run_loadVar_row w g t ty cs fr d hg hu hd hi]
def set6 (W : World) (b : Nat) (x : Cfg) : World := (((((W.setCell ⟨b, 0, none⟩ (.int .i64 x.v)).setCell ⟨b, 1, none⟩ (.int .i64 x.d)).setCell ⟨b, 2, none⟩ (.int .i64 x.h)).setCell ⟨b, 3, none⟩ (.int .i64 x.b)).setCell ⟨b, 4, none⟩ (.int .i64 x.n)).setCell ⟨b, 5, none⟩ (.int .i64 x.c)
theorem set6_row {W : World} {b : Nat} {t : TypeId} {y : Cfg} (h : W.heap[b]? = some (cfO t y)) (x : Cfg) : (set6 W b x).heap[b]? = some (cfO t x) :=
  heap_setCell_same _ b 5 _ _ _ (heap_setCell_same _ b 4 _ _ _ (heap_setCell_same _ b 3 _ _ _ (heap_setCell_same _ b 2 _ _ _ (heap_setCell_same _ b 1 _ _ _ (heap_setCell_same W b 0 _ _ _ h)))))
theorem set6_other (W : World) (b : Nat) (x : Cfg) (i : Nat) (hi : i ≠ b) : (set6 W b x).heap[i]? = W.heap[i]? := by
  unfold set6
  rw [heap_setCell_other _ ⟨b, 5, none⟩ i _ hi, heap_setCell_other _ ⟨b, 4, none⟩ i _ hi, heap_setCell_other _ ⟨b, 3, none⟩ i _ hi, heap_setCell_other _ ⟨b, 2, none⟩ i _ hi, heap_setCell_other _ ⟨b, 1, none⟩ i _ hi, heap_setCell_other _ ⟨b, 0, none⟩ i _ hi]
theorem set6_size (W : World) (b : Nat) (x : Cfg) : (set6 W b x).heap.size = W.heap.size := by unfold set6; simp [World.setCell]
theorem set6_below {B : Nat} {w0 W : World} (h : Below B w0 W) {b : Nat} (hb : B ≤ b) (x : Cfg) : Below B w0 (set6 W b x) :=
  (((((h.setCell (p := ⟨b, 0, none⟩) hb _).setCell (p := ⟨b, 1, none⟩) hb _).setCell (p := ⟨b, 2, none⟩) hb _).setCell (p := ⟨b, 3, none⟩) hb _).setCell (p := ⟨b, 4, none⟩) hb _).setCell (p := ⟨b, 5, none⟩) hb _
end Cf
theorem cfI (x : Cfg) : (Tryz.prog.info? 101).map (·.size) = some (cfA x).size := by kernel_rfl
/-- What Of answers. -/
def ofZ (x : Cfg) : Value := if goodZ x = true then .tuple #[cfV x, .int .i64 0] else .tuple #[cfV zeroC, .int .i64 1]
set_option maxRecDepth 100000 in
set_option maxHeartbeats 3200000 in
theorem conf_of (w : World) (x : Cfg) : Calls Tryz.prog 103 #[.int .i64 x.v, .int .i64 x.d, .int .i64 x.h, .int .i64 x.b, .int .i64 x.n, .int .i64 x.c] w fun e w' => e = .returned (ofZ x) ∧ Below w.heap.size w w' := by
  have HG := Lib.hid (fun W => conf_good W x)
  have HI := Lib.hid (cfI x)
  have HI0 := Lib.hid (cfI zeroC)
  have HB0 := Lib.hid (((Below.refl w.heap.size w).alloc (Nat.le_refl _) (cfO 101 zeroC)).alloc (by simp) (cfO 60 x))
  have HH0 := Lib.hid ((heap_alloc_old (w.alloc (cfO 101 zeroC)) (cfO 60 x) (by simp : w.heap.size < _)).trans (heap_alloc_new w (cfO 101 zeroC)))
  have HX0 := Lib.hid (show ((w.alloc (cfO 101 zeroC)).alloc (cfO 60 x)).heap[w.heap.size + 1]? = some (cfO 60 x) from heap_alloc2_new w _ _)
  have HT := Lib.hid (show ofZ x = if goodZ x = true then .tuple #[cfV x, .int .i64 0] else .tuple #[cfV zeroC, .int .i64 1] from rfl)
  have HC := Lib.hid (show cfV x = .agg (cfA x) from rfl)
  have HC0 := Lib.hid (show cfV zeroC = .agg (cfA zeroC) from rfl)
  generalize goodZ x = g at HG HT
  generalize ofZ x = T at HT ⊢
  unfold cfV at HG
  have HA := Lib.hid (show cfA x = #[.int .i64 x.v, .int .i64 x.d, .int .i64 x.h, .int .i64 x.b, .int .i64 x.n, .int .i64 x.c] from rfl)
  go_enter Tryz.func103, Tryz.ntmps103
  go_wp2_with (fail)
  refine (HG.out _).mono ?_
  rintro e w1 ⟨rfl, b1⟩
  have HB1 := Lib.hid (HB0.out.trans (b1.mono HB0.out.size))
  have HH1 := Lib.hid (stays HH0.out b1)
  have HX1 := Lib.hid (stays HX0.out b1)
  clear b1 HB0 HH0 HX0 HG
  obtain ⟨e0, e1, e2, e3, e4, e5⟩ := six HX1.out
  have fz := set_frozen HH1.out
  obtain ⟨d0, d1, d2, d3, d4, d5⟩ := six HH1.out
  cases g with
  | true =>
    have HT1 := Lib.hid (show T = .tuple #[cfV x, .int .i64 0] by rw [HT.out, if_pos rfl])
    clear HT
    go_wp2_with (fail)
    refine bodyPost_ret (res_cell_tmp rfl _ _ _ 101 _ _ _ rfl (set6_row HH1.out x) Tryz.underlying101 rfl HI.out) rfl ?_
    exact ⟨by rw [HT1.out, HC.out]; rfl, set6_below HB1.out (Nat.le_refl _) x⟩
  | false =>
    have HT1 := Lib.hid (show T = .tuple #[cfV zeroC, .int .i64 1] by rw [HT.out, if_neg Bool.false_ne_true])
    clear HT
    go_wp2_with (fail)
    refine bodyPost_ret (res_cell_tmp rfl _ _ _ 101 _ _ _ rfl (set6_row HH1.out zeroC) Tryz.underlying101 rfl HI0.out) rfl ?_
    exact ⟨by rw [HT1.out, HC0.out]; rfl, set6_below HB1.out (Nat.le_refl _) zeroC⟩
end Go.Proofs.YtlechjpaldpgnaaGreatDoor
