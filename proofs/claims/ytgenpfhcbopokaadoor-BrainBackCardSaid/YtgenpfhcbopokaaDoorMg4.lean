/-
  The rows of all parts of all blocks: what is among them, and where each stands. No program here. Condition: each number alone can be.
-/
import Derived.Test.YtgenpfhcbopokaaDoorMg3
set_option maxRecDepth 100000
namespace Go.Proofs.YtgenpfhcbopokaaDoor
open Go Go.RowKit
namespace Cf

theorem span_split (x : Cfg) (f i : Nat) : ∀ j, spanZ x f (i + j) = spanZ x f i + spanZ x (f + i) j
  | 0 => by rw [Nat.add_zero]; show _ = _ + 0; omega
  | j + 1 => by
    show spanZ x f (i + j) + areaZ x ((f + (i + j) : Nat) : Int) = spanZ x f i + (spanZ x (f + i) j + areaZ x ((f + i + j : Nat) : Int))
    rw [span_split x f i j, Nat.add_assoc f i j]
    omega
theorem inner_skip {x : Cfg} {b : Int} {s : List Rw × Int} {p : Nat} (h : skipB x b p = true) : inner x b s (p + 1) = inner x b s p := if_pos h
theorem inner_add {x : Cfg} {b : Int} {s : List Rw × Int} {p : Nat} (h : ¬ skipB x b p = true) : inner x b s (p + 1) = ((inner x b s p).1 ++ [⟨(p : Int), blkZ b p, (inner x b s p).2, areaZ x (p : Int)⟩], (inner x b s p).2 + areaZ x (p : Int)) := if_neg h
theorem skip_is {x : Cfg} {b : Int} {p : Nat} : skipB x b p = true ↔ (b < 0 ∧ 1 < p) ∨ (b = x.b ∧ p < 11) ∨ (0 ≤ b ∧ b < x.b ∧ (p < 2 ∨ 10 < p)) := by
  unfold skipB
  simp only [Bool.or_eq_true, Bool.and_eq_true, decide_eq_true_iff, or_assoc, and_assoc]
/-- The parts from f on, k of them, of a block that is told as q. -/
def partRows (x : Cfg) (q a : Int) (f : Nat) : Nat → List Rw
  | 0 => []
  | k + 1 => partRows x q a f k ++ [⟨((f + k : Nat) : Int), q, a + spanZ x f k, areaZ x ((f + k : Nat) : Int)⟩]
theorem inner_none {x : Cfg} {b : Int} {s : List Rw × Int} {f : Nat} : ∀ k, (∀ j, j < k → skipB x b (f + j) = true) → inner x b s (f + k) = inner x b s f
  | 0, _ => rfl
  | k + 1, h => by
    show inner x b s (f + k + 1) = _
    rw [inner_skip (h k (by omega)), inner_none k fun j hj => h j (by omega)]
theorem inner_some {x : Cfg} {b q : Int} {s : List Rw × Int} {f : Nat} (h0 : inner x b s f = s) : ∀ k, (∀ j, j < k → ¬ skipB x b (f + j) = true ∧ blkZ b (f + j) = q) → inner x b s (f + k) = (s.1 ++ partRows x q s.2 f k, s.2 + spanZ x f k)
  | 0, _ => by
    show inner x b s f = (s.1 ++ [], s.2 + 0)
    rw [h0, List.append_nil, Int.add_zero]
  | k + 1, h => by
    show inner x b s (f + k + 1) = _
    obtain ⟨h1, h2⟩ := h k (by omega)
    rw [inner_add h1, h2, inner_some h0 k fun j hj => h j (by omega)]
    show (s.1 ++ partRows x q s.2 f k ++ [_], s.2 + spanZ x f k + _) = (s.1 ++ (partRows x q s.2 f k ++ [_]), s.2 + (spanZ x f k + _))
    rw [List.append_assoc, Int.add_assoc]
theorem inner_first {x : Cfg} (hx : 1 ≤ x.b) (s : List Rw × Int) : inner x (-1) s 12 = (s.1 ++ partRows x 0 s.2 0 2, s.2 + spanZ x 0 2) := by
  have h1 := inner_none (x := x) (b := -1) (s := s) (f := 2) 10 fun j hj => by rw [skip_is]; omega
  have h2 := inner_some (x := x) (b := -1) (q := 0) (s := s) (f := 0) rfl 2 fun j hj => ⟨by rw [skip_is]; omega, by unfold blkZ; rw [if_pos (by omega)]⟩
  exact h1.trans h2
theorem inner_mid {x : Cfg} {b : Int} (h0 : 0 ≤ b) (h1 : b < x.b) (s : List Rw × Int) : inner x b s 12 = (s.1 ++ partRows x b s.2 2 9, s.2 + spanZ x 2 9) := by
  have h2 := inner_none (x := x) (b := b) (s := s) (f := 11) 1 fun j hj => by rw [skip_is]; omega
  have h3 := inner_none (x := x) (b := b) (s := s) (f := 0) 2 fun j hj => by rw [skip_is]; omega
  have h4 := inner_some (x := x) (b := b) (q := b) (s := s) (f := 2) h3 9 fun j hj => ⟨by rw [skip_is]; omega, by unfold blkZ; rw [if_neg (by omega)]⟩
  exact h2.trans h4
theorem inner_last {x : Cfg} (hx : 1 ≤ x.b) (s : List Rw × Int) : inner x x.b s 12 = (s.1 ++ partRows x 0 s.2 11 1, s.2 + spanZ x 11 1) := by
  have h3 := inner_none (x := x) (b := x.b) (s := s) (f := 0) 11 fun j hj => by rw [skip_is]; omega
  exact inner_some (x := x) (b := x.b) (q := 0) (s := s) (f := 11) h3 1 fun j hj => ⟨by rw [skip_is]; omega, by unfold blkZ; rw [if_pos (by omega)]⟩
/-- All blocks' rows. -/
def blocks (x : Cfg) : Nat → List Rw
  | 0 => []
  | k + 1 => blocks x k ++ partRows x (k : Int) (spanZ x 0 2 + (k : Int) * spanZ x 2 9) 2 9
theorem outer_mid {x : Cfg} (hx : 1 ≤ x.b) : ∀ n : Nat, (n : Int) ≤ x.b → outer x (n + 1) = (partRows x 0 0 0 2 ++ blocks x n, spanZ x 0 2 + (n : Int) * spanZ x 2 9)
  | 0, _ => by
    show inner x (-1) ([], 0) 12 = _
    rw [inner_first hx]
    show (([] : List Rw) ++ partRows x 0 0 0 2, 0 + spanZ x 0 2) = (partRows x 0 0 0 2 ++ [], spanZ x 0 2 + 0 * _)
    rw [List.nil_append, List.append_nil, Int.zero_mul, Int.zero_add, Int.add_zero]
  | n + 1, h => by
    show inner x (((n + 1 : Nat) : Int) - 1) (outer x (n + 1)) 12 = _
    rw [show (((n + 1 : Nat) : Int) - 1) = (n : Int) by omega, outer_mid hx n (by omega), inner_mid (by omega) (by omega)]
    show (partRows x 0 0 0 2 ++ blocks x n ++ _, _ + _) = (partRows x 0 0 0 2 ++ (blocks x n ++ _), _)
    rw [List.append_assoc, show (((n + 1 : Nat) : Int)) = (n : Int) + 1 by omega, Int.add_mul, Int.one_mul, Int.add_assoc]
def allRows (x : Cfg) : List Rw := partRows x 0 0 0 2 ++ blocks x x.b.toNat ++ partRows x 0 (spanZ x 0 2 + x.b * spanZ x 2 9) 11 1
theorem outer_all {x : Cfg} (hx : 1 ≤ x.b) : outer x (x.b.toNat + 2) = (allRows x, totZ x) := by
  have hb : ((x.b.toNat : Nat) : Int) = x.b := by omega
  show inner x (((x.b.toNat + 1 : Nat) : Int) - 1) (outer x (x.b.toNat + 1)) 12 = _
  rw [show (((x.b.toNat + 1 : Nat) : Int) - 1) = x.b by omega, outer_mid hx _ (by omega), inner_last hx, hb]
  rfl
theorem part_mem {x : Cfg} {q a : Int} {f : Nat} {r : Rw} : ∀ k, r ∈ partRows x q a f k ↔ ∃ i, i < k ∧ r = ⟨((f + i : Nat) : Int), q, a + spanZ x f i, areaZ x ((f + i : Nat) : Int)⟩
  | 0 => by
    show r ∈ ([] : List Rw) ↔ _
    simp
  | k + 1 => by
    show r ∈ partRows x q a f k ++ [_] ↔ _
    rw [List.mem_append, part_mem k, List.mem_singleton]
    constructor
    · rintro (⟨i, hi, h⟩ | h)
      · exact ⟨i, by omega, h⟩
      · exact ⟨k, by omega, h⟩
    · rintro ⟨i, hi, h⟩
      by_cases hik : i = k
      · exact .inr (by rw [h, hik])
      · exact .inl ⟨i, by omega, h⟩
theorem block_mem {x : Cfg} {r : Rw} : ∀ n, r ∈ blocks x n ↔ ∃ k, k < n ∧ r ∈ partRows x (k : Int) (spanZ x 0 2 + (k : Int) * spanZ x 2 9) 2 9
  | 0 => by
    show r ∈ ([] : List Rw) ↔ _
    simp
  | n + 1 => by
    show r ∈ blocks x n ++ _ ↔ _
    rw [List.mem_append, block_mem n]
    constructor
    · rintro (⟨i, hi, h⟩ | h)
      · exact ⟨i, by omega, h⟩
      · exact ⟨n, by omega, h⟩
    · rintro ⟨i, hi, h⟩
      by_cases hik : i = n
      · exact .inr (by rw [hik] at h; exact h)
      · exact .inl ⟨i, by omega, h⟩
/-- Each row tells a part that is there, and where it stands. -/
theorem row_tells {x : Cfg} (h : In x) {r : Rw} (hr : r ∈ allRows x) : 0 ≤ r.p ∧ r.p ≤ 11 ∧ 0 ≤ r.k ∧ r.k < timesZ x r.p ∧ r.a = fromZ x r.p r.k ∧ r.m = areaZ x r.p := by
  have hb := h.b1
  unfold allRows at hr
  rw [List.mem_append, List.mem_append, part_mem, block_mem, part_mem] at hr
  rcases hr with (⟨i, hi, rfl⟩ | ⟨k, hk, hr⟩) | ⟨i, hi, rfl⟩
  · refine ⟨by dsimp only; omega, by dsimp only; omega, Int.le_refl _, ?_, ?_, rfl⟩
    · dsimp only; unfold timesZ; rw [if_neg (by omega)]; omega
    · dsimp only; unfold fromZ; rw [if_neg (by omega), Int.zero_mul, Nat.zero_add, Int.toNat_natCast]
  · rw [part_mem] at hr
    obtain ⟨i, hi, rfl⟩ := hr
    refine ⟨by dsimp only; omega, by dsimp only; omega, by dsimp only; omega, ?_, ?_, rfl⟩
    · dsimp only; unfold timesZ; rw [if_pos (by omega)]; omega
    · dsimp only
      unfold fromZ
      rw [if_neg (by omega), Int.toNat_natCast, span_split x 0 2 i, Nat.zero_add]
      omega
  · obtain rfl : i = 0 := by omega
    refine ⟨by dsimp only; omega, by dsimp only; omega, Int.le_refl _, ?_, ?_, rfl⟩
    · show 0 < timesZ x 11; unfold timesZ; rw [if_neg (by omega)]; omega
    · show spanZ x 0 2 + x.b * spanZ x 2 9 + 0 = fromZ x 11 0
      unfold fromZ
      rw [if_pos rfl, show (11 : Int).toNat = 2 + 9 from rfl, span_split x 0 2 9, Nat.zero_add, Int.sub_mul, Int.one_mul]
      omega
/-- Each part that is there has a row. -/
theorem row_there {x : Cfg} (h : In x) {p k : Int} (h0 : 0 ≤ p) (h1 : p ≤ 11) (h2 : 0 ≤ k) (h3 : k < timesZ x p) : ∃ r, r ∈ allRows x ∧ r.p = p ∧ r.k = k := by
  have hb := h.b1
  unfold allRows
  unfold timesZ at h3
  simp only [List.mem_append, part_mem, block_mem]
  by_cases hp : p < 2
  · rw [if_neg (by omega)] at h3
    exact ⟨⟨p, k, 0 + spanZ x 0 p.toNat, areaZ x p⟩, .inl (.inl ⟨p.toNat, by omega, by rw [Nat.zero_add, show ((p.toNat : Nat) : Int) = p by omega, show k = 0 by omega]⟩), rfl, rfl⟩
  · by_cases hp2 : p < 11
    · rw [if_pos (by omega)] at h3
      have hk : ((k.toNat : Nat) : Int) = k := by omega
      exact ⟨_, .inl (.inr ⟨k.toNat, by omega, (p - 2).toNat, by omega, rfl⟩), by dsimp only; omega, hk⟩
    · rw [if_neg (by omega)] at h3
      exact ⟨_, .inr ⟨0, by omega, rfl⟩, by dsimp only; omega, by dsimp only; omega⟩
/-- The last row ends where the weights end. -/
theorem last_row (x : Cfg) : ∃ l r, allRows x = l ++ [r] ∧ r.a + r.m = totZ x :=
  ⟨partRows x 0 0 0 2 ++ blocks x x.b.toNat, ⟨((11 + 0 : Nat) : Int), 0, spanZ x 0 2 + x.b * spanZ x 2 9 + spanZ x 11 0, areaZ x ((11 + 0 : Nat) : Int)⟩, rfl, by
    show spanZ x 0 2 + x.b * spanZ x 2 9 + 0 + areaZ x ((11 + 0 : Nat) : Int) = spanZ x 0 2 + x.b * spanZ x 2 9 + (0 + areaZ x ((11 + 0 : Nat) : Int))
    omega⟩
theorem part_len {x : Cfg} {q a : Int} {f : Nat} : ∀ k, (partRows x q a f k).length = k
  | 0 => rfl
  | k + 1 => by show (partRows x q a f k ++ [_]).length = _; rw [List.length_append, part_len k]; rfl
theorem block_len {x : Cfg} : ∀ n, (blocks x n).length = 9 * n
  | 0 => rfl
  | n + 1 => by show (blocks x n ++ _).length = _; rw [List.length_append, block_len n, part_len]; omega
theorem all_len {x : Cfg} (h : In x) : (allRows x).length ≤ 30 := by
  have := h.b3
  unfold allRows
  rw [List.length_append, List.length_append, part_len, part_len, block_len]
  omega
end Cf
end Go.Proofs.YtgenpfhcbopokaaDoor
