/-
  A table times a sum of rows is the sum of what it is times each, where numbers are small. No program here. No conditions but those of each lemma.
-/
import Derived.Test.YtclobdeaocjnoaaVcSpec
namespace Go.Proofs.Ytclobdeaocjnoaa
open Go.RowKit Nm Vc

namespace Vc
def dotS : List Int → List Int → Int
  | x :: l, y :: k => x * y + dotS l k
  | _, _ => 0
theorem clamp_in {x lo hi : Int} (h1 : lo ≤ x) (h2 : x ≤ hi) : clamp x lo hi = x := by unfold clamp; rw [if_neg (by omega), if_neg (by omega)]
theorem mul_small {x y : Int} (hx : -128 ≤ x ∧ x ≤ 128) (hy : -14 ≤ y ∧ y ≤ 14) : -1792 ≤ x * y ∧ x * y ≤ 1792 := by
  have e := Int.natAbs_mul x y
  have := Nat.mul_le_mul (show x.natAbs ≤ 128 by omega) (show y.natAbs ≤ 14 by omega)
  rw [← e] at this
  omega
theorem mul_small7 {x y : Int} (hx : -128 ≤ x ∧ x ≤ 128) (hy : -7 ≤ y ∧ y ≤ 7) : -896 ≤ x * y ∧ x * y ≤ 896 := by
  have e := Int.natAbs_mul x y
  have := Nat.mul_le_mul (show x.natAbs ≤ 128 by omega) (show y.natAbs ≤ 7 by omega)
  rw [← e] at this
  omega
theorem plus_small {t x : Int} (ht : -1000000 ≤ t ∧ t ≤ 1000000) (hx : -1000000 ≤ x ∧ x ≤ 1000000) : plus t x = t + x := by
  unfold plus term
  rw [clamp_in (x := x) (by omega) (by omega), clamp_in (by omega) (by omega)]
theorem prod_small {x y : Int} (hx : -128 ≤ x ∧ x ≤ 128) (hy : -14 ≤ y ∧ y ≤ 14) : prod x y = x * y := by
  unfold prod
  rw [clamp_in (x := x) (by omega) (by omega), clamp_in (x := y) (by omega) (by omega)]
theorem prods_cons (x y : Int) (r a : List Int) : prods (x :: r) (y :: a) = prod x y :: prods r a := rfl
theorem dotS_cons (x y : Int) (r a : List Int) : dotS (x :: r) (y :: a) = x * y + dotS r a := rfl
theorem fold_small (r : List Int) : ∀ (a : List Int) (t B : Int), B = 1000000 - 1792 * (r.length : Int) → (∀ x ∈ r, -128 ≤ x ∧ x ≤ 128) → (∀ y ∈ a, -14 ≤ y ∧ y ≤ 14) → -B ≤ t → t ≤ B → (prods r a).foldl plus t = t + dotS r a := by
  induction r with
  | nil => intro a t B _ _ _ _ _; simp [prods, dotS]
  | cons x r ih =>
    intro a t B hB hr ha h1 h2
    cases a with
    | nil => simp [prods, dotS]
    | cons y a =>
      have hx := hr x (by simp)
      have hy := ha y (by simp)
      have hm := mul_small hx hy
      rw [List.length_cons] at hB
      have e1 : plus t (prod x y) = t + x * y := by
        rw [prod_small hx hy]
        exact plus_small (by omega) (by omega)
      have e2 := ih a (t + x * y) (B + 1792) (by omega) (fun z hz => hr z (by simp [hz])) (fun z hz => ha z (by simp [hz])) (by omega) (by omega)
      rw [prods_cons, dotS_cons, List.foldl_cons, e1, e2, Int.add_assoc]
theorem dot_small {r a : List Int} (hl : r.length ≤ 16) (hr : ∀ x ∈ r, -128 ≤ x ∧ x ≤ 128) (ha : ∀ y ∈ a, -14 ≤ y ∧ y ≤ 14) : dot r a = dotS r a := by
  have := fold_small r a 0 _ rfl hr ha (by omega) (by omega)
  rw [Int.zero_add] at this
  exact this
theorem dotS_in : ∀ (r a : List Int), (∀ x ∈ r, -128 ≤ x ∧ x ≤ 128) → (∀ y ∈ a, -7 ≤ y ∧ y ≤ 7) → -(896 * (r.length : Int)) ≤ dotS r a ∧ dotS r a ≤ 896 * (r.length : Int)
  | [], a, _, _ => by simp [dotS]
  | x :: r, [], _, _ => by simp only [dotS, List.length_cons]; omega
  | x :: r, y :: a, hr, ha => by
    have hm := mul_small7 (hr x (by simp)) (ha y (by simp))
    have := dotS_in r a (fun z hz => hr z (by simp [hz])) (fun z hz => ha z (by simp [hz]))
    simp only [dotS, List.length_cons]
    omega
theorem dotS_add : ∀ (r a b : List Int), a.length = b.length → dotS r (List.zipWith (· + ·) a b) = dotS r a + dotS r b
  | [], a, b, _ => by simp [dotS]
  | x :: r, [], [], _ => by simp [dotS]
  | x :: r, [], _ :: _, h => by simp at h
  | x :: r, _ :: _, [], h => by simp at h
  | x :: r, y :: a, z :: b, h => by
    have := dotS_add r a b (by simpa using h)
    simp only [List.zipWith_cons_cons, dotS]
    rw [this, Int.mul_add]
    omega
theorem sat_in {x : Int} (h1 : -32767 ≤ x) (h2 : x ≤ 32767) : sat x = x := clamp_in h1 h2
theorem sum2 {x y : Int} (hx : -1000000 ≤ x ∧ x ≤ 1000000) (hy : -1000000 ≤ y ∧ y ≤ 1000000) : sum [x, y] = x + y := by
  show plus (plus 0 x) y = x + y
  rw [plus_small (by omega) hx, Int.zero_add, plus_small hx hy]
/-- Small numbers. -/
def Small (a : List Int) : Prop := ∀ i, i < a.length → -7 ≤ a.getD i 0 ∧ a.getD i 0 ≤ 7
theorem Small.mem {a : List Int} (h : Small a) : ∀ y ∈ a, -7 ≤ y ∧ y ≤ 7 := fun y hy => by
  obtain ⟨i, hi, rfl⟩ := List.mem_iff_getElem.1 hy
  have := h i hi
  rwa [List.getD_eq_getElem?_getD, List.getElem?_eq_getElem hi] at this
theorem ext_getD {a b : List Int} (hl : a.length = b.length) (h : ∀ i, i < a.length → a.getD i 0 = b.getD i 0) : a = b := by
  apply List.ext_getElem hl
  intro i h1 h2
  have := h i h1
  rwa [List.getD_eq_getElem?_getD, List.getD_eq_getElem?_getD, List.getElem?_eq_getElem h1, List.getElem?_eq_getElem h2] at this
theorem plus_zip {a b : List Int} {n : Nat} (ha : a.length = n) (hb : b.length = n) (sa : Small a) (sb : Small b) : plusL [a, b] n = List.zipWith (· + ·) a b := by
  refine ext_getD (by rw [plusL_length, List.length_zipWith, ha, hb, Nat.min_self]) fun i hi => ?_
  rw [plusL_length] at hi
  have h1 := sa i (by omega)
  have h2 := sb i (by omega)
  rw [plusL_at _ _ _ hi]
  show sat (sum [a.getD i 0, b.getD i 0]) = _
  rw [sum2 (by omega) (by omega), sat_in (by omega) (by omega)]
  rw [List.getD_eq_getElem?_getD (l := List.zipWith _ _ _), List.getElem?_zipWith, List.getElem?_eq_getElem (show i < a.length by omega), List.getElem?_eq_getElem (show i < b.length by omega), List.getD_eq_getElem?_getD, List.getD_eq_getElem?_getD, List.getElem?_eq_getElem (show i < a.length by omega), List.getElem?_eq_getElem (show i < b.length by omega)]
  rfl
theorem rowD_in {D : List Int} (hD : I8 D) (y k : Nat) : ∀ x ∈ rowD D y k, -128 ≤ x ∧ x ≤ 128 := fun x hx => by
  unfold rowD at hx
  obtain ⟨i, _, rfl⟩ := List.mem_map.1 hx
  by_cases h : k * y + i < D.length
  · have := hD _ h
    omega
  · rw [List.getD_eq_getElem?_getD, List.getElem?_eq_none (by omega)]
    simp
theorem times_small {D : List Int} (hD : I8 D) (x : Nat) {y : Nat} (hy : y ≤ 16) {a : List Int} (sa : ∀ z ∈ a, -14 ≤ z ∧ z ≤ 14) {i : Nat} (hi : i < x) (hin : -32767 ≤ dotS (rowD D y i) a ∧ dotS (rowD D y i) a ≤ 32767) :
    (timesL D x y a 0).getD i 0 = dotS (rowD D y i) a := by
  rw [timesL_at _ _ _ _ _ _ hi, dot_small (by rw [rowD_length]; exact hy) (rowD_in hD y i) sa]
  show sat (dotS _ _) = _
  exact sat_in hin.1 hin.2
/-- The law's own equations. -/
theorem linear {D : List Int} (hD : I8 D) (x : Nat) {y : Nat} (hy : y ≤ 16) {a b : List Int} (ha : a.length = y) (hb : b.length = y) (sa : Small a) (sb : Small b) :
    plusL [timesL D x y a 0, timesL D x y b 0] x = timesL D x y (plusL [a, b] y) 0 ∧ plusL [timesL D x y b 0, timesL D x y a 0] x = timesL D x y (plusL [a, b] y) 0 := by
  rw [plus_zip ha hb sa sb]
  have hz : ∀ z ∈ List.zipWith (· + ·) a b, -14 ≤ z ∧ z ≤ 14 := fun z hz => by
    obtain ⟨i, hi, rfl⟩ := List.mem_iff_getElem.1 hz
    rw [List.length_zipWith] at hi
    rw [List.getElem_zipWith]
    have h1 := sa.mem _ (List.getElem_mem (show i < a.length by omega))
    have h2 := sb.mem _ (List.getElem_mem (show i < b.length by omega))
    omega
  have key : ∀ i, i < x → (timesL D x y a 0).getD i 0 = dotS (rowD D y i) a ∧ (timesL D x y b 0).getD i 0 = dotS (rowD D y i) b ∧ (timesL D x y (List.zipWith (· + ·) a b) 0).getD i 0 = dotS (rowD D y i) a + dotS (rowD D y i) b ∧
      (-14336 ≤ dotS (rowD D y i) a ∧ dotS (rowD D y i) a ≤ 14336) ∧ (-14336 ≤ dotS (rowD D y i) b ∧ dotS (rowD D y i) b ≤ 14336) := fun i hi => by
    have h1 := dotS_in (rowD D y i) a (rowD_in hD y i) sa.mem
    have h2 := dotS_in (rowD D y i) b (rowD_in hD y i) sb.mem
    rw [rowD_length] at h1 h2
    have h3 := dotS_add (rowD D y i) a b (ha.trans hb.symm)
    refine ⟨times_small hD x hy (fun z hz => by have := sa.mem z hz; omega) hi (by omega), times_small hD x hy (fun z hz => by have := sb.mem z hz; omega) hi (by omega), ?_, by omega, by omega⟩
    rw [times_small hD x hy hz hi (by rw [h3]; omega), h3]
  constructor
  · refine ext_getD (by rw [plusL_length, timesL_length]) fun i hi => ?_
    rw [plusL_length] at hi
    obtain ⟨k1, k2, k3, k4, k5⟩ := key i hi
    rw [plusL_at _ _ _ hi, k3]
    show sat (sum [(timesL D x y a 0).getD i 0, (timesL D x y b 0).getD i 0]) = _
    rw [k1, k2, sum2 (by omega) (by omega), sat_in (by omega) (by omega)]
  · refine ext_getD (by rw [plusL_length, timesL_length]) fun i hi => ?_
    rw [plusL_length] at hi
    obtain ⟨k1, k2, k3, k4, k5⟩ := key i hi
    rw [plusL_at _ _ _ hi, k3]
    show sat (sum [(timesL D x y b 0).getD i 0, (timesL D x y a 0).getD i 0]) = _
    rw [k1, k2, sum2 (by omega) (by omega), sat_in (by omega) (by omega), Int.add_comm]
end Vc
end Go.Proofs.Ytclobdeaocjnoaa
