/-
  The parts of all blocks cover the weights, none twice. No program here. Condition: each number alone can be.
-/
import Derived.Test.YtgenpfhcbopokaaDoorMg4
set_option maxRecDepth 100000
namespace Go.Proofs.YtgenpfhcbopokaaDoor
open Go Go.RowKit
namespace Cf

theorem span_mono {x : Cfg} (h : In x) (f : Nat) {q : Nat} : ∀ d, f + (q + d) ≤ 12 → spanZ x f q ≤ spanZ x f (q + d)
  | 0, _ => Int.le_refl _
  | d + 1, hd => by
    have h1 := span_mono h f (q := q) d (by omega)
    have h2 := area_in h (p := ((f + (q + d) : Nat) : Int)) (by omega) (by omega)
    show spanZ x f q ≤ spanZ x f (q + d) + areaZ x ((f + (q + d) : Nat) : Int)
    omega
theorem span_find {x : Cfg} (f : Nat) (j : Int) (h0 : 0 ≤ j) : ∀ n, j < spanZ x f n → ∃ q, q < n ∧ spanZ x f q ≤ j ∧ j < spanZ x f (q + 1)
  | 0, h => by
    have : spanZ x f 0 = 0 := rfl
    omega
  | n + 1, h => by
    by_cases hj : j < spanZ x f n
    · obtain ⟨q, a, b, c⟩ := span_find f j h0 n hj
      exact ⟨q, by omega, b, c⟩
    · exact ⟨n, by omega, by omega, h⟩
theorem span_same {x : Cfg} (h : In x) (f : Nat) {j : Int} {q r : Nat} (hq : f + (q + 1) ≤ 12) (hr : f + (r + 1) ≤ 12) (h1 : spanZ x f q ≤ j) (h2 : j < spanZ x f (q + 1)) (h3 : spanZ x f r ≤ j) (h4 : j < spanZ x f (r + 1)) : q = r := by
  by_cases h5 : q < r
  · have := span_mono h f (q := q + 1) (r - (q + 1)) (by omega)
    rw [show q + 1 + (r - (q + 1)) = r by omega] at this
    omega
  · by_cases h6 : r < q
    · have := span_mono h f (q := r + 1) (q - (r + 1)) (by omega)
      rw [show r + 1 + (q - (r + 1)) = q by omega] at this
      omega
    · omega
theorem block_find (S j : Int) (h0 : 0 ≤ j) : ∀ n : Nat, j < (n : Int) * S → ∃ k, k < n ∧ (k : Int) * S ≤ j ∧ j < (k : Int) * S + S
  | 0, h => by
    rw [show ((0 : Nat) : Int) * S = 0 from Int.zero_mul S] at h
    omega
  | n + 1, h => by
    by_cases hj : j < (n : Int) * S
    · obtain ⟨q, a, b, c⟩ := block_find S j h0 n hj
      exact ⟨q, by omega, b, c⟩
    · refine ⟨n, by omega, by omega, ?_⟩
      rw [show ((n + 1 : Nat) : Int) = (n : Int) + 1 by omega, Int.add_mul, Int.one_mul] at h
      exact h
theorem mul_up {S : Int} (hS : 0 ≤ S) {a b : Int} (h : a + 1 ≤ b) : a * S + S ≤ b * S := by
  have := Int.mul_le_mul_of_nonneg_right h hS
  rwa [Int.add_mul, Int.one_mul] at this
theorem block_same {S j a b : Int} (hS : 0 ≤ S) (h1 : a * S ≤ j) (h2 : j < a * S + S) (h3 : b * S ≤ j) (h4 : j < b * S + S) : a = b := by
  by_cases h5 : a < b
  · have := mul_up hS (show a + 1 ≤ b by omega)
    omega
  · by_cases h6 : b < a
    · have := mul_up hS (show b + 1 ≤ a by omega)
      omega
    · omega
/-- A part of a block has the byte i. -/
structure Hit (x : Cfg) (p k : Nat) (i : Int) : Prop where
  part : p ≤ 11
  block : (k : Int) < timesZ x (p : Int)
  low : fromZ x (p : Int) (k : Int) ≤ i
  high : i < fromZ x (p : Int) (k : Int) + areaZ x (p : Int)
theorem times_one {x : Cfg} {p : Nat} (h : p < 2 ∨ 10 < p) : timesZ x (p : Int) = 1 := by unfold timesZ; rw [if_neg (by omega)]
theorem times_mid {x : Cfg} {p : Nat} (h1 : 2 ≤ p) (h2 : p < 11) : timesZ x (p : Int) = x.b := by unfold timesZ; rw [if_pos (by omega)]
theorem from_first {x : Cfg} {p : Nat} (h : p < 2) : fromZ x (p : Int) ((0 : Nat) : Int) = spanZ x 0 p := by
  unfold fromZ
  rw [if_neg (by omega), show ((0 : Nat) : Int) = 0 from rfl, Int.zero_mul, Int.toNat_natCast, Int.zero_add]
theorem from_mid {x : Cfg} {q k : Nat} (h : q < 9) : fromZ x ((2 + q : Nat) : Int) (k : Int) = spanZ x 0 2 + (k : Int) * spanZ x 2 9 + spanZ x 2 q := by
  unfold fromZ
  rw [if_neg (by omega), Int.toNat_natCast, span_split x 0 2 q, Nat.zero_add]
  omega
theorem from_last (x : Cfg) (k : Int) : fromZ x ((11 : Nat) : Int) k = spanZ x 0 2 + x.b * spanZ x 2 9 := by
  unfold fromZ
  rw [if_pos (show ((11 : Nat) : Int) = 11 from rfl), Int.toNat_natCast, show (11 : Nat) = 2 + 9 from rfl, span_split x 0 2 9, Nat.zero_add, Int.sub_mul, Int.one_mul]
  omega
theorem part_class {p : Nat} (h : p ≤ 11) : p < 2 ∨ (∃ q, q < 9 ∧ p = 2 + q) ∨ p = 11 := by
  by_cases h1 : p < 2
  · exact .inl h1
  · by_cases h2 : p < 11
    · exact .inr (.inl ⟨p - 2, by omega, by omega⟩)
    · exact .inr (.inr (by omega))
theorem hit_there {x : Cfg} (h : In x) {i : Int} (h0 : 0 ≤ i) (h1 : i < totZ x) : ∃ p k, Hit x p k i := by
  have hb := h.b1
  by_cases c1 : i < spanZ x 0 2
  · obtain ⟨q, a, b, c⟩ := span_find (x := x) 0 i h0 2 c1
    refine ⟨q, 0, by omega, by rw [times_one (.inl a)]; omega, by rw [from_first a]; exact b, ?_⟩
    rw [from_first a]
    have : spanZ x 0 (q + 1) = spanZ x 0 q + areaZ x ((0 + q : Nat) : Int) := rfl
    rw [Nat.zero_add] at this
    omega
  · by_cases c2 : i < spanZ x 0 2 + x.b * spanZ x 2 9
    · obtain ⟨k, a, b, c⟩ := block_find (spanZ x 2 9) (i - spanZ x 0 2) (by omega) x.b.toNat (by rw [show ((x.b.toNat : Nat) : Int) = x.b by omega]; omega)
      obtain ⟨q, d, e, f⟩ := span_find (x := x) 2 (i - spanZ x 0 2 - (k : Int) * spanZ x 2 9) (by omega) 9 (by omega)
      refine ⟨2 + q, k, by omega, by rw [times_mid (by omega) (by omega)]; omega, by rw [from_mid d]; omega, ?_⟩
      rw [from_mid d]
      have : spanZ x 2 (q + 1) = spanZ x 2 q + areaZ x ((2 + q : Nat) : Int) := rfl
      omega
    · refine ⟨11, 0, by omega, by rw [times_one (.inr (by omega))]; omega, by rw [from_last]; omega, ?_⟩
      rw [from_last]
      have h2 : spanZ x 11 1 = 0 + areaZ x ((11 + 0 : Nat) : Int) := rfl
      rw [Int.zero_add, Nat.add_zero] at h2
      unfold totZ at h1
      omega
theorem hit_class {x : Cfg} {p k : Nat} {i : Int} (h : Hit x p k i) :
    (p < 2 ∧ k = 0 ∧ spanZ x 0 p ≤ i ∧ i < spanZ x 0 (p + 1)) ∨ (∃ q, q < 9 ∧ p = 2 + q ∧ (k : Int) < x.b ∧ spanZ x 0 2 + (k : Int) * spanZ x 2 9 + spanZ x 2 q ≤ i ∧ i < spanZ x 0 2 + (k : Int) * spanZ x 2 9 + spanZ x 2 (q + 1)) ∨ (p = 11 ∧ k = 0 ∧ spanZ x 0 2 + x.b * spanZ x 2 9 ≤ i) := by
  obtain ⟨h1, h2, h3, h4⟩ := h
  rcases part_class h1 with hp | ⟨q, hq, rfl⟩ | rfl
  · rw [times_one (.inl hp)] at h2
    obtain rfl : k = 0 := by omega
    rw [from_first hp] at h3 h4
    refine .inl ⟨hp, rfl, h3, ?_⟩
    have : spanZ x 0 (p + 1) = spanZ x 0 p + areaZ x ((0 + p : Nat) : Int) := rfl
    rw [Nat.zero_add] at this
    omega
  · rw [times_mid (by omega) (by omega)] at h2
    rw [from_mid hq] at h3 h4
    refine .inr (.inl ⟨q, hq, rfl, h2, h3, ?_⟩)
    have : spanZ x 2 (q + 1) = spanZ x 2 q + areaZ x ((2 + q : Nat) : Int) := rfl
    omega
  · rw [times_one (.inr (by omega))] at h2
    rw [from_last] at h3
    exact .inr (.inr ⟨rfl, by omega, h3⟩)
theorem span_nonneg {x : Cfg} (h : In x) (f k : Nat) (hk : f + k ≤ 12) : 0 ≤ spanZ x f k := by have := (span_in h f k hk).1; omega
/-- None twice. -/
theorem hit_same {x : Cfg} (h : In x) {p k p' k' : Nat} {i : Int} (h1 : Hit x p k i) (h2 : Hit x p' k' i) : p = p' ∧ k = k' := by
  have hS := span_nonneg h 2 9 (by omega)
  have key : ∀ q, q < 9 → 0 ≤ spanZ x 2 q ∧ spanZ x 2 (q + 1) ≤ spanZ x 2 9 := fun q hq => by
    have a := span_nonneg h 2 q (by omega)
    have b := span_mono h 2 (q := q + 1) (9 - (q + 1)) (by omega)
    rw [show q + 1 + (9 - (q + 1)) = 9 by omega] at b
    exact ⟨a, b⟩
  have fst : ∀ p, p < 2 → spanZ x 0 (p + 1) ≤ spanZ x 0 2 := fun p hp => by
    have b := span_mono h 0 (q := p + 1) (2 - (p + 1)) (by omega)
    rwa [show p + 1 + (2 - (p + 1)) = 2 by omega] at b
  have hM : 0 ≤ x.b * spanZ x 2 9 := (mid_in h).1
  have nn : ∀ k : Nat, 0 ≤ (k : Int) * spanZ x 2 9 := fun k => Int.mul_nonneg (by omega) hS
  rcases hit_class h1 with ⟨a1, a2, a3, a4⟩ | ⟨q, a1, a2, a3, a4, a5⟩ | ⟨a1, a2, a3⟩ <;> rcases hit_class h2 with ⟨b1, b2, b3, b4⟩ | ⟨r, b1, b2, b3, b4, b5⟩ | ⟨b1, b2, b3⟩
  · exact ⟨span_same h 0 (by omega) (by omega) a3 a4 b3 b4, by omega⟩
  · have := fst p a1; have := key r b1; have := nn k'; omega
  · have := fst p a1; omega
  · have := fst p' b1; have := key q a1; have := nn k; omega
  · have c1 := key q a1
    have c2 := key r b1
    have hk : (k : Int) = (k' : Int) := block_same (j := i - spanZ x 0 2) hS (by omega) (by omega) (by omega) (by omega)
    rw [← hk] at b4 b5
    have hq : q = r := span_same h 2 (j := i - spanZ x 0 2 - (k : Int) * spanZ x 2 9) (by omega) (by omega) (by omega) (by omega) (by omega) (by omega)
    exact ⟨by omega, by omega⟩
  · have c1 := key q a1
    have c2 := mul_up hS (show (k : Int) + 1 ≤ x.b by omega)
    omega
  · have := fst p' b1; omega
  · have c1 := key r b1
    have c2 := mul_up hS (show (k' : Int) + 1 ≤ x.b by omega)
    omega
  · exact ⟨by omega, by omega⟩
theorem hit_within {x : Cfg} (h : In x) {p k : Nat} (hp : p ≤ 11) (hk : (k : Int) < timesZ x (p : Int)) : 0 ≤ fromZ x (p : Int) (k : Int) ∧ fromZ x (p : Int) (k : Int) + areaZ x (p : Int) ≤ totZ x := by
  have hS := span_nonneg h 2 9 (by omega)
  have hL := span_nonneg h 11 1 (by omega)
  have hT := span_nonneg h 0 2 (by omega)
  have hM : 0 ≤ x.b * spanZ x 2 9 := (mid_in h).1
  rcases part_class hp with h2 | ⟨q, hq, rfl⟩ | rfl
  · rw [times_one (.inl h2)] at hk
    obtain rfl : k = 0 := by omega
    rw [from_first h2]
    have a := span_nonneg h 0 p (by omega)
    have b := span_mono h 0 (q := p + 1) (2 - (p + 1)) (by omega)
    rw [show p + 1 + (2 - (p + 1)) = 2 by omega] at b
    have c : spanZ x 0 (p + 1) = spanZ x 0 p + areaZ x ((0 + p : Nat) : Int) := rfl
    rw [Nat.zero_add] at c
    unfold totZ
    omega
  · rw [times_mid (by omega) (by omega)] at hk
    rw [from_mid hq]
    have a := span_nonneg h 2 q (by omega)
    have b := span_mono h 2 (q := q + 1) (9 - (q + 1)) (by omega)
    rw [show q + 1 + (9 - (q + 1)) = 9 by omega] at b
    have c : spanZ x 2 (q + 1) = spanZ x 2 q + areaZ x ((2 + q : Nat) : Int) := rfl
    have d := mul_up hS (show (k : Int) + 1 ≤ x.b by omega)
    have e : 0 ≤ (k : Int) * spanZ x 2 9 := Int.mul_nonneg (by omega) hS
    unfold totZ
    omega
  · rw [from_last]
    have c : spanZ x 11 1 = 0 + areaZ x ((11 + 0 : Nat) : Int) := rfl
    rw [Int.zero_add, Nat.add_zero] at c
    unfold totZ
    omega
/-- Whose each byte is. -/
theorem owners {x : Cfg} (h : In x) : ∃ O : Nat → Nat × Nat, ∀ i : Nat, (i : Int) < totZ x → Hit x (O i).1 (O i).2 (i : Int) := by
  have h1 : ∀ i : Nat, ∃ o : Nat × Nat, (i : Int) < totZ x → Hit x o.1 o.2 (i : Int) := fun i => by
    by_cases hi : (i : Int) < totZ x
    · obtain ⟨p, k, hh⟩ := hit_there h (i := (i : Int)) (by omega) hi
      exact ⟨(p, k), fun _ => hh⟩
    · exact ⟨(0, 0), fun hh => absurd hh hi⟩
  exact Classical.axiomOfChoice h1
/-- How often a byte was counted, when the parts ahead of (p, k) are; within that part the bytes ahead of j. -/
def seenZ (O : Nat → Nat × Nat) (p k i : Nat) : Int := if (O i).1 < p ∨ ((O i).1 = p ∧ (O i).2 < k) then 1 else 0
def seenJ (O : Nat → Nat × Nat) (p k j i : Nat) : Int := if ((O i).1 < p ∨ ((O i).1 = p ∧ (O i).2 < k)) ∨ ((O i).1 = p ∧ (O i).2 = k ∧ i < j) then 1 else 0
section
variable {x : Cfg} (h : In x) {O : Nat → Nat × Nat} (hO : ∀ i : Nat, (i : Int) < totZ x → Hit x (O i).1 (O i).2 (i : Int))
include h hO
theorem seen_begin {p k i : Nat} (hp : p ≤ 11) (hk : (k : Int) < timesZ x (p : Int)) (hi : (i : Int) < totZ x) : seenJ O p k (fromZ x (p : Int) (k : Int)).toNat i = seenZ O p k i := by
  unfold seenJ seenZ
  have ho := hO i hi
  have hw := hit_within h hp hk
  by_cases c : (O i).1 < p ∨ ((O i).1 = p ∧ (O i).2 < k)
  · rw [if_pos c, if_pos (.inl c)]
  · rw [if_neg c, if_neg]
    rintro (c1 | ⟨c1, c2, c3⟩)
    · exact c c1
    · have := ho.low
      rw [c1, c2] at this
      omega
theorem seen_end {p k i : Nat} (hp : p ≤ 11) (hk : (k : Int) < timesZ x (p : Int)) (hi : (i : Int) < totZ x) : seenJ O p k (fromZ x (p : Int) (k : Int) + areaZ x (p : Int)).toNat i = seenZ O p (k + 1) i := by
  unfold seenJ seenZ
  have ho := hO i hi
  have hw := hit_within h hp hk
  by_cases c : (O i).1 < p ∨ ((O i).1 = p ∧ (O i).2 < k)
  · rw [if_pos (.inl c), if_pos (by omega)]
  · by_cases c2 : (O i).1 = p ∧ (O i).2 = k
    · have := ho.high
      rw [c2.1, c2.2] at this
      rw [if_pos (.inr ⟨c2.1, c2.2, by omega⟩), if_pos (by omega)]
    · rw [if_neg (by omega), if_neg (by omega)]
theorem seen_new {p k j : Nat} (hp : p ≤ 11) (hk : (k : Int) < timesZ x (p : Int)) (h1 : fromZ x (p : Int) (k : Int) ≤ (j : Int)) (h2 : (j : Int) < fromZ x (p : Int) (k : Int) + areaZ x (p : Int)) : seenJ O p k j j = 0 ∧ seenJ O p k (j + 1) j = 1 := by
  have hw := hit_within h hp hk
  obtain ⟨e1, e2⟩ := hit_same h (hO j (by omega)) ⟨hp, hk, h1, h2⟩
  unfold seenJ
  exact ⟨if_neg (by omega), if_pos (.inr ⟨e1, e2, by omega⟩)⟩
theorem seen_row {p i : Nat} {B : Nat} (hB : ((B : Nat) : Int) = x.b) (hi : (i : Int) < totZ x) : seenZ O p B i = seenZ O (p + 1) 0 i := by
  unfold seenZ
  have ho := hO i hi
  have hb := ho.block
  have h1 := h.b1
  have ht : timesZ x ((O i).1 : Int) ≤ x.b := by
    unfold timesZ
    split <;> omega
  by_cases c : (O i).1 < p ∨ (O i).1 = p
  · rw [if_pos (by omega), if_pos (by omega)]
  · rw [if_neg (by omega), if_neg (by omega)]
end
theorem seen_skip {x : Cfg} {O : Nat → Nat × Nat} (hO : ∀ i : Nat, (i : Int) < totZ x → Hit x (O i).1 (O i).2 (i : Int)) {p k i : Nat} (hk : timesZ x (p : Int) ≤ (k : Int)) (hi : (i : Int) < totZ x) : seenZ O p k i = seenZ O p (k + 1) i := by
  unfold seenZ
  have ho := hO i hi
  have hb := ho.block
  by_cases c : (O i).1 < p ∨ ((O i).1 = p ∧ (O i).2 < k)
  · rw [if_pos c, if_pos (by omega)]
  · rw [if_neg c, if_neg]
    rintro (c1 | ⟨c1, c2⟩)
    · omega
    · rw [c1] at hb
      omega
theorem seen_all {x : Cfg} {O : Nat → Nat × Nat} (hO : ∀ i : Nat, (i : Int) < totZ x → Hit x (O i).1 (O i).2 (i : Int)) {i : Nat} (hi : (i : Int) < totZ x) : seenZ O 12 0 i = 1 := by
  have ho := (hO i hi).part
  exact if_pos (.inl (by omega))
theorem seen_none (O : Nat → Nat × Nat) (i : Nat) : seenZ O 0 0 i = 0 := if_neg (by omega)
theorem seen_other (O : Nat → Nat × Nat) {p k j i : Nat} (h : i ≠ j) : seenJ O p k (j + 1) i = seenJ O p k j i := by
  unfold seenJ
  by_cases c : ((O i).1 < p ∨ ((O i).1 = p ∧ (O i).2 < k)) ∨ ((O i).1 = p ∧ (O i).2 = k ∧ i < j)
  · rw [if_pos c, if_pos (by omega)]
  · rw [if_neg c, if_neg (by omega)]
end Cf
end Go.Proofs.YtgenpfhcbopokaaDoor
