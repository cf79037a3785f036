/-
  Plain whole numbers: what the numbers of layer 1 are, and that the walks' spellings come to it. No conditions but those of each lemma.
  The program's whole numbers (package num), call by call: what each comes to. No conditions but that numbers are such as an int holds.
  The program's whole numbers (package num): product and plus: what it comes to. Conditions: numbers are such as an int holds.
  The program's whole numbers (package num): Mul: what it comes to. Conditions: numbers are such as an int holds.
  The program's whole numbers (package num): rows of numbers: what it comes to. Conditions: numbers are such as an int holds.
  The program's whole numbers (package num): Dot: what it comes to. Conditions: numbers are such as an int holds, and cells hold what is said.
  The program's whole numbers (package num): Sum: what it comes to. Conditions: numbers are such as an int holds, and cells hold what is said.
-/
import Derived.Test.YtlapinecmiacoaaMe1
import Derived.WalkKit
import Derived.Laws.BitsLemmas
set_option maxRecDepth 100000
namespace Go.Proofs.Ytlapinecmiacoaa.Nm
open Go.RowKit

def clamp (x low high : Int) : Int := if x < low then low else if high < x then high else x
def sat (x : Int) : Int := clamp x (-32767) 32767
def shift (x n : Int) : Int := if n ≤ 0 then x else if 63 ≤ n then 0 else (x + 2 ^ (n.toNat - 1)) / 2 ^ n.toNat
def mul (a b n : Int) : Int := sat (shift (clamp a (-1073741824) 1073741824 * clamp b (-1073741824) 1073741824) n)
def div (a b : Int) : Int := if b = 0 then 0 else if a = -9223372036854775808 ∧ b = -1 then 9223372036854775807 else a.fdiv b
def root : Nat → Nat
  | 0 => 0
  | n + 1 => if (root n + 1) * (root n + 1) ≤ n + 1 then root n + 1 else root n
def sqrt (n : Int) : Int := root n.toNat
def term (x : Int) : Int := clamp x (-2305843009213693952) 2305843009213693952
def plus (t x : Int) : Int := clamp (t + term x) (-4611686018427387904) 4611686018427387904
def prod (a b : Int) : Int := clamp a (-1073741824) 1073741824 * clamp b (-1073741824) 1073741824
def sum (l : List Int) : Int := l.foldl plus 0
def most (first : Int) (l : List Int) : Int := l.foldl max first
def least (first : Int) (l : List Int) : Int := l.foldl min first
def mean (l : List Int) : Int := div (sum l) l.length
def prods : List Int → List Int → List Int
  | a :: l, b :: k => prod a b :: prods l k
  | _, _ => []
def dot (a b : List Int) : Int := sum (prods a b)

/-- What an int holds. -/
def Fits (x : Int) : Prop := -9223372036854775808 ≤ x ∧ x ≤ 9223372036854775807

theorem clamp_lo (x low high : Int) (h : low ≤ high) : low ≤ clamp x low high := by unfold clamp; split <;> (try split) <;> omega
theorem clamp_hi (x low high : Int) (h : low ≤ high) : clamp x low high ≤ high := by unfold clamp; split <;> (try split) <;> omega
theorem clamp_fits (x low high : Int) (h : Fits x) (h1 : Fits low) (h2 : Fits high) : Fits (clamp x low high) := by unfold Fits clamp at *; split <;> (try split) <;> omega

theorem and_one (n : Int) : bits .and .i64 n 1 = n % 2 := by
  have h1 : (BitVec.ofInt 64 1).toNat = 2 ^ 1 - 1 := by decide
  have key : (BitVec.ofInt 64 n &&& BitVec.ofInt 64 1).toNat = (n % ((2 ^ 64 : Nat) : Int)).toNat % 2 ^ 1 := by
    rw [BitVec.toNat_and, BitVec.toNat_ofInt, h1, Nat.and_two_pow_sub_one_eq_mod]
  show IntKind.i64.wrap ((BitVec.ofInt 64 n &&& BitVec.ofInt 64 1).toNat : Nat) = n % 2
  rw [key, IntKind.wrap_i64]
  omega

theorem quo_pow_fits (x : Int) (m : Nat) (h : Fits x) : Fits (x / 2 ^ m) := by
  have hp : (0 : Int) < 2 ^ m := Int.pow_pos (by omega)
  have h1 : (1 : Int) ≤ 2 ^ m := by omega
  unfold Fits at *
  constructor
  · apply Int.le_ediv_of_mul_le hp
    have := Int.mul_le_mul_of_nonneg_left h1 (by omega : (0 : Int) ≤ 9223372036854775808)
    omega
  · apply Int.le_of_lt_add_one
    apply Int.ediv_lt_of_lt_mul hp
    have := Int.mul_le_mul_of_nonneg_left h1 (by omega : (0 : Int) ≤ 9223372036854775808)
    omega

/-- The program's own way to shift. -/
theorem shift_way (x n : Int) (hx : Fits x) (h1 : 0 < n) (h2 : n < 63) :
    wrap64 (x / 2 ^ n.toNat + bits .and .i64 (x / 2 ^ (n.toNat - 1)) 1) = shift x n := by
  obtain ⟨m, rfl⟩ : ∃ m : Nat, n = (m : Int) + 1 := ⟨(n - 1).toNat, by omega⟩
  have e1 : ((m : Int) + 1).toNat = m + 1 := by omega
  unfold shift
  rw [if_neg (by omega), if_neg (by omega), and_one, e1]
  simp only [Nat.add_sub_cancel]
  have hp : (0 : Int) < 2 ^ m := Int.pow_pos (by omega)
  have hf := quo_pow_fits x m hx
  have e2 : x / 2 ^ (m + 1) = x / 2 ^ m / 2 := by rw [Int.pow_succ, Int.ediv_ediv_of_nonneg (by omega)]
  have e3 : (x + 2 ^ m) / 2 ^ (m + 1) = (x / 2 ^ m + 1) / 2 := by
    rw [Int.pow_succ, ← Int.ediv_ediv_of_nonneg (by omega), Int.add_ediv_of_dvd_right (Int.dvd_refl _), Int.ediv_self (by omega)]
  rw [e2, e3]
  generalize x / 2 ^ m = y at *
  unfold Fits at hf
  rw [IntWalk.wrap64_in _ ⟨by omega, by omega⟩]
  omega

theorem shift_fits (x n : Int) (hx : Fits x) : Fits (shift x n) := by
  by_cases h1 : n ≤ 0
  · unfold shift; rw [if_pos h1]; exact hx
  by_cases h2 : 63 ≤ n
  · unfold shift; rw [if_neg h1, if_pos h2]; unfold Fits; omega
  obtain ⟨m, rfl⟩ : ∃ m : Nat, n = (m : Int) + 1 := ⟨(n - 1).toNat, by omega⟩
  have e1 : ((m : Int) + 1).toNat = m + 1 := by omega
  unfold shift
  rw [if_neg h1, if_neg h2, e1]
  simp only [Nat.add_sub_cancel]
  have hp : (0 : Int) < 2 ^ m := Int.pow_pos (by omega)
  have hf := quo_pow_fits x m hx
  have e3 : (x + 2 ^ m) / 2 ^ (m + 1) = (x / 2 ^ m + 1) / 2 := by
    rw [Int.pow_succ, ← Int.ediv_ediv_of_nonneg (by omega), Int.add_ediv_of_dvd_right (Int.dvd_refl _), Int.ediv_self (by omega)]
  rw [e3]
  unfold Fits at *
  omega

theorem prod_lo (a b : Int) : -1152921504606846976 ≤ prod a b := by
  have h1 := clamp_lo a (-1073741824) 1073741824 (by omega)
  have h2 := clamp_hi a (-1073741824) 1073741824 (by omega)
  have h3 := clamp_lo b (-1073741824) 1073741824 (by omega)
  have h4 := clamp_hi b (-1073741824) 1073741824 (by omega)
  unfold prod
  generalize clamp a (-1073741824) 1073741824 = x at *
  generalize clamp b (-1073741824) 1073741824 = y at *
  have e := Int.natAbs_mul x y
  have := Nat.mul_le_mul (show x.natAbs ≤ 1073741824 by omega) (show y.natAbs ≤ 1073741824 by omega)
  rw [← e] at this
  omega
theorem prod_hi (a b : Int) : prod a b ≤ 1152921504606846976 := by
  have h1 := clamp_lo a (-1073741824) 1073741824 (by omega)
  have h2 := clamp_hi a (-1073741824) 1073741824 (by omega)
  have h3 := clamp_lo b (-1073741824) 1073741824 (by omega)
  have h4 := clamp_hi b (-1073741824) 1073741824 (by omega)
  unfold prod
  generalize clamp a (-1073741824) 1073741824 = x at *
  generalize clamp b (-1073741824) 1073741824 = y at *
  have e := Int.natAbs_mul x y
  have := Nat.mul_le_mul (show x.natAbs ≤ 1073741824 by omega) (show y.natAbs ≤ 1073741824 by omega)
  rw [← e] at this
  omega
theorem prod_fits (a b : Int) : Fits (prod a b) := by
  have := prod_lo a b
  have := prod_hi a b
  unfold Fits
  omega

/-! Division -/
theorem fdiv_mul (a b : Int) : a.fdiv b * b = a - a.fmod b := by
  have := Int.mul_fdiv_add_fmod a b
  have := Int.mul_comm b (a.fdiv b)
  omega

/-- The program's own way to divide: the quotient towards nought, one less where something is left and the signs part. -/
theorem fdiv_of_tdiv (a b : Int) (hb : b ≠ 0) : a.fdiv b = if a.tmod b ≠ 0 ∧ ¬ (a < 0 ↔ b < 0) then a.tdiv b - 1 else a.tdiv b := by
  rw [Int.fdiv_eq_tdiv]
  by_cases hd : b ∣ a
  · rw [if_pos hd, if_neg (fun h => h.1 (Int.tmod_eq_zero_of_dvd hd))]
    omega
  · have hn : a.tmod b ≠ 0 := fun h => hd (Int.dvd_of_tmod_eq_zero h)
    rw [if_neg hd]
    by_cases h1 : 0 ≤ a <;> by_cases h2 : 0 ≤ b
    · rw [if_pos h1, if_pos h2, if_neg (by omega)]; omega
    · rw [if_pos h1, if_neg h2, if_pos ⟨hn, by omega⟩]
    · rw [if_neg h1, if_pos h2, if_pos ⟨hn, by omega⟩, Int.sign_eq_one_of_pos (by omega)]
    · rw [if_neg h1, if_neg h2, if_neg (by omega), Int.sign_eq_neg_one_of_neg (by omega)]; omega

theorem fmod_pos (a b : Int) (hb : 0 < b) : 0 ≤ a.fmod b ∧ a.fmod b < b := ⟨Int.fmod_nonneg_of_pos a hb, Int.fmod_lt_of_pos a hb⟩
theorem fmod_neg (a b : Int) (hb : b < 0) : a.fmod b ≤ 0 ∧ b < a.fmod b := by
  have h := fmod_pos (-a) (-b) (by omega)
  rw [Int.neg_fmod_neg] at h
  omega

theorem fdiv_fits (a b : Int) (ha : Fits a) (hb : b ≠ 0) (hn : ¬ (a = -9223372036854775808 ∧ b = -1)) : Fits (a.fdiv b) := by
  have e := fdiv_mul a b
  unfold Fits at *
  rcases Int.lt_or_gt_of_ne hb with h | h
  · have hm := fmod_neg a b h
    by_cases h1 : b = -1
    · subst h1; omega
    · constructor
      · apply Int.not_lt.1
        intro hl
        have := Int.mul_le_mul_of_nonpos_right (b := a.fdiv b) (a := -9223372036854775809) (c := b) (by omega) (by omega)
        omega
      · apply Int.not_lt.1
        intro hl
        have := Int.mul_le_mul_of_nonpos_right (b := 9223372036854775808) (a := a.fdiv b) (c := b) (by omega) (by omega)
        omega
  · have hm := fmod_pos a b h
    constructor
    · apply Int.not_lt.1
      intro hl
      have := Int.mul_le_mul_of_nonneg_right (a := a.fdiv b) (b := -9223372036854775809) (c := b) (by omega) (by omega)
      omega
    · apply Int.not_lt.1
      intro hl
      have := Int.mul_le_mul_of_nonneg_right (a := 9223372036854775808) (b := a.fdiv b) (c := b) (by omega) (by omega)
      omega

theorem tdiv_fits (a b : Int) (ha : Fits a) (hb : b ≠ 0) (hn : ¬ (a = -9223372036854775808 ∧ b = -1)) : Fits (a.tdiv b) := by
  have h : (a.tdiv b).natAbs = a.natAbs / b.natAbs := Int.natAbs_tdiv a b
  have h2 : a.natAbs / b.natAbs ≤ a.natAbs := Nat.div_le_self _ _
  unfold Fits at *
  by_cases hm : a = -9223372036854775808
  · have hb1 : b ≠ -1 := fun e => hn ⟨hm, e⟩
    by_cases hb2 : b = 1
    · subst hb2; simpa using ha
    · have h3 : a.natAbs / b.natAbs ≤ a.natAbs / 2 := Nat.div_le_div_left (by omega) (by omega)
      rw [← h] at h3
      omega
  · rw [← h] at h2
    omega

/-- The ways of the program's own division. -/
theorem div_way_same (a b : Int) (ha : Fits a) (hb : b ≠ 0) (hn : ¬ (a = -9223372036854775808 ∧ b = -1)) (h : ¬ (a.tmod b ≠ 0 ∧ ¬ (a < 0 ↔ b < 0))) : wrap64 (a.tdiv b) = a.fdiv b := by
  have h1 := tdiv_fits a b ha hb hn
  rw [fdiv_of_tdiv a b hb, if_neg h]
  unfold Fits at h1
  exact IntWalk.wrap64_in _ ⟨by omega, by omega⟩
theorem div_way_less (a b : Int) (ha : Fits a) (hb : b ≠ 0) (hn : ¬ (a = -9223372036854775808 ∧ b = -1)) (h : a.tmod b ≠ 0 ∧ ¬ (a < 0 ↔ b < 0)) : wrap64 (wrap64 (a.tdiv b) - 1) = a.fdiv b := by
  have h1 := tdiv_fits a b ha hb hn
  have h2 := fdiv_fits a b ha hb hn
  have h3 := fdiv_of_tdiv a b hb
  rw [if_pos h] at h3
  unfold Fits at h1 h2
  rw [IntWalk.wrap64_in (a.tdiv b) ⟨by omega, by omega⟩, IntWalk.wrap64_in _ ⟨by omega, by omega⟩]
  omega

/-- The same, as the walk's tests have it. -/
theorem div_w1 (a b : Int) (ha : Fits a) (hb : b ≠ 0) (hn : ¬ (a = -9223372036854775808 ∧ b = -1)) (h : a.tmod b = 0) : wrap64 (a.tdiv b) = a.fdiv b :=
  div_way_same a b ha hb hn fun ⟨h1, _⟩ => h1 h
theorem div_w2 (a b : Int) (ha : Fits a) (hb : b ≠ 0) (hn : ¬ (a = -9223372036854775808 ∧ b = -1)) (h : (a.tmod b != 0) = true ∧ (!decide (a < 0) == decide (b < 0)) = true) :
    wrap64 (wrap64 (a.tdiv b) - 1) = a.fdiv b :=
  div_way_less a b ha hb hn ⟨by simpa using h.1, by by_cases h1 : a < 0 <;> by_cases h2 : b < 0 <;> simp_all⟩
theorem div_w3 (a b : Int) (ha : Fits a) (hb : b ≠ 0) (hn : ¬ (a = -9223372036854775808 ∧ b = -1)) (h : (a.tmod b != 0) = false ∨ (!decide (a < 0) == decide (b < 0)) = false) :
    wrap64 (a.tdiv b) = a.fdiv b :=
  div_way_same a b ha hb hn fun ⟨k1, k2⟩ => by
    rcases h with h | h
    · exact k1 (by simpa using h)
    · refine k2 ?_
      have e : decide (a < 0) = decide (b < 0) := by
        cases h1 : decide (a < 0) <;> cases h2 : decide (b < 0) <;> rw [h1, h2] at h <;> first | rfl | cases h
      exact decide_eq_decide.1 e
theorem least_tdiv (b : Int) : -Int.tdiv 9223372036854775808 b = Int.tdiv (-9223372036854775808) b := (Int.neg_tdiv _ _).symm
theorem least_tmod (b : Int) : -(9223372036854775808 % b) = Int.tmod (-9223372036854775808) b := by
  rw [Int.neg_tmod, Int.tmod_eq_emod_of_nonneg (by omega)]
theorem div_m1 (a b : Int) (ha : Fits a) (hb : b ≠ 0) (hn : ¬ (a = -9223372036854775808 ∧ b = -1)) (e : a = -9223372036854775808) (h : (9223372036854775808 : Int) % b = 0) :
    wrap64 (-Int.tdiv 9223372036854775808 b) = a.fdiv b := by
  subst e
  rw [least_tdiv]
  exact div_w1 _ _ ha hb hn (by rw [← least_tmod, h]; rfl)
theorem div_m2 (a b : Int) (ha : Fits a) (hb : b ≠ 0) (hn : ¬ (a = -9223372036854775808 ∧ b = -1)) (e : a = -9223372036854775808) (h : (-((9223372036854775808 : Int) % b) != 0) = true ∧ (!decide (b < 0)) = true) :
    wrap64 (wrap64 (-Int.tdiv 9223372036854775808 b) - 1) = a.fdiv b := by
  subst e
  rw [least_tdiv]
  rw [least_tmod] at h
  exact div_w2 _ _ ha hb hn ⟨h.1, by simpa using h.2⟩
theorem div_m3 (a b : Int) (ha : Fits a) (hb : b ≠ 0) (hn : ¬ (a = -9223372036854775808 ∧ b = -1)) (e : a = -9223372036854775808) (h : (-((9223372036854775808 : Int) % b) != 0) = false ∨ (!decide (b < 0)) = false) :
    wrap64 (-Int.tdiv 9223372036854775808 b) = a.fdiv b := by
  subst e
  rw [least_tdiv]
  rw [least_tmod] at h
  exact div_w3 _ _ ha hb hn (h.imp id fun h => by simpa using h)

/-! Roots -/
theorem root_spec : ∀ n : Nat, root n * root n ≤ n ∧ n < (root n + 1) * (root n + 1)
  | 0 => by decide
  | n + 1 => by
    have ⟨h1, h2⟩ := root_spec n
    unfold root
    split
    · rename_i h
      refine ⟨h, ?_⟩
      have : (root n + 1 + 1) * (root n + 1 + 1) = (root n + 1) * (root n + 1) + 2 * root n + 3 := by
        simp only [Nat.add_mul, Nat.mul_add]; omega
      omega
    · omega

theorem sq_lt {a b : Nat} (h : a < b) : a * a < b * b := Nat.mul_lt_mul_of_lt_of_le h (Nat.le_of_lt h) (by omega)
theorem sq_le {a b : Nat} (h : a ≤ b) : a * a ≤ b * b := Nat.mul_le_mul h h

theorem root_only (n s : Nat) (h1 : s * s ≤ n) (h2 : n < (s + 1) * (s + 1)) : root n = s := by
  have ⟨h3, h4⟩ := root_spec n
  rcases Nat.lt_trichotomy (root n) s with h | h | h
  · have := sq_le (show root n + 1 ≤ s from h); omega
  · exact h
  · have := sq_le (show s + 1 ≤ root n from h); omega

theorem sqrt_spec (n : Int) (h : 0 ≤ n) : 0 ≤ sqrt n ∧ sqrt n * sqrt n ≤ n ∧ n < (sqrt n + 1) * (sqrt n + 1) := by
  obtain ⟨m, rfl⟩ : ∃ m : Nat, n = (m : Int) := ⟨n.toNat, by omega⟩
  unfold sqrt
  rw [Int.toNat_natCast]
  have ⟨h1, h2⟩ := root_spec m
  generalize root m = s at *
  refine ⟨by omega, by exact_mod_cast h1, by exact_mod_cast h2⟩
theorem sqrt_only (n s : Int) (h0 : 0 ≤ s) (h1 : s * s ≤ n) (h2 : n < (s + 1) * (s + 1)) : sqrt n = s := by
  obtain ⟨t, rfl⟩ : ∃ t : Nat, s = (t : Int) := ⟨s.toNat, by omega⟩
  have hn : 0 ≤ n := Int.le_trans (Int.mul_nonneg h0 h0) h1
  obtain ⟨m, rfl⟩ : ∃ m : Nat, n = (m : Int) := ⟨n.toNat, by omega⟩
  unfold sqrt
  rw [Int.toNat_natCast, root_only m t (by exact_mod_cast h1) (by exact_mod_cast h2)]
theorem sqrt_sq (k : Int) (h0 : 0 ≤ k) : sqrt (k * k) = k :=
  sqrt_only _ _ h0 (Int.le_refl _) (by rw [Int.add_mul, Int.mul_add]; omega)
theorem sq_bound (k b : Int) (h0 : 0 ≤ k) (h1 : k ≤ b) : 0 ≤ k * k ∧ k * k ≤ b * b := ⟨Int.mul_nonneg h0 h0, Int.mul_le_mul h1 h1 h0 (by omega)⟩
theorem sqrt_le (n b : Int) (hb : 0 ≤ b) (h : n < (b + 1) * (b + 1)) : sqrt n ≤ b := by
  by_cases hn : 0 ≤ n
  · obtain ⟨h1, h2, h3⟩ := sqrt_spec n hn
    apply Int.not_lt.1
    intro hl
    have := Int.mul_le_mul (show b + 1 ≤ sqrt n by omega) (show b + 1 ≤ sqrt n by omega) (by omega) h1
    omega
  · unfold sqrt; rw [show n.toNat = 0 by omega]; exact hb

/-! Halving, again and again -/
def lastBit (x : Int) : Nat → Int
  | 0 => 0
  | i + 1 => x / 2 ^ i % 2
theorem halves_next (x : Int) (i : Nat) (hx : Fits x) :
    Fits (x / 2 ^ i) ∧ ∃ l z, bits .and .i64 (x / 2 ^ i) 1 = l ∧ (x / 2 ^ i - l).tdiv 2 = z ∧ 0 ≤ l ∧ l ≤ 1 ∧ Fits (x / 2 ^ i - l) ∧ Fits z ∧ z = x / 2 ^ (i + 1) ∧ l = lastBit x (i + 1) := by
  have hf := quo_pow_fits x i hx
  refine ⟨hf, _, _, and_one _, rfl, by omega, by omega, ?_, ?_, ?_, rfl⟩
  · unfold Fits at *; omega
  · rw [Int.tdiv_eq_ediv_of_dvd (by omega)]; unfold Fits at *; omega
  · have hp : (0 : Int) < 2 ^ i := Int.pow_pos (by omega)
    rw [Int.tdiv_eq_ediv_of_dvd (by omega), Int.pow_succ, ← Int.ediv_ediv_of_nonneg (by omega)]
    omega
theorem halves_end (x n : Int) (hx : Fits x) (h1 : 0 ≤ n) (h2 : n < 63) : Fits (x / 2 ^ n.toNat + lastBit x n.toNat) ∧ x / 2 ^ n.toNat + lastBit x n.toNat = shift x n := by
  by_cases h : n = 0
  · subst h
    have : x / 2 ^ (0 : Int).toNat + lastBit x (0 : Int).toNat = x := by show x / 1 + 0 = x; omega
    rw [this]
    exact ⟨hx, rfl⟩
  · have e := shift_way x n hx (by omega) h2
    obtain ⟨m, rfl⟩ : ∃ m : Nat, n = (m : Int) + 1 := ⟨(n - 1).toNat, by omega⟩
    have e1 : ((m : Int) + 1).toNat = m + 1 := by omega
    have hp : (0 : Int) < 2 ^ m := Int.pow_pos (by omega)
    rw [e1] at e ⊢
    simp only [Nat.add_sub_cancel] at e
    rw [and_one] at e
    have hf := quo_pow_fits x m hx
    have e2 : x / 2 ^ (m + 1) = x / 2 ^ m / 2 := by rw [Int.pow_succ, Int.ediv_ediv_of_nonneg (by omega)]
    show Fits (x / 2 ^ (m + 1) + x / 2 ^ m % 2) ∧ x / 2 ^ (m + 1) + x / 2 ^ m % 2 = _
    have hr : Fits (x / 2 ^ (m + 1) + x / 2 ^ m % 2) := by rw [e2]; unfold Fits at *; omega
    refine ⟨hr, ?_⟩
    unfold Fits at hr
    rwa [IntWalk.wrap64_in _ ⟨by omega, by omega⟩] at e

/-- The bit that stands 'k' from the right, 0 for none: 2^(k-1). -/
def bitAt : Nat → Nat
  | 0 => 0
  | k + 1 => 2 ^ k
/-- 's' is the root's beginning, down to the last 'k' bits. -/
def RootTill (m s k : Nat) : Prop := s * s ≤ m ∧ m < (s + 2 ^ k) * (s + 2 ^ k) ∧ s + 2 ^ k ≤ 2 ^ 32
theorem root_start (m : Nat) (h : m < 9223372036854775808) : RootTill m 0 32 := ⟨by omega, by omega, by omega⟩
theorem root_yes {m s j : Nat} (h : RootTill m s (j + 1)) (ht : (s + 2 ^ j) * (s + 2 ^ j) ≤ m) : RootTill m (s + 2 ^ j) j := by
  obtain ⟨_, h2, h3⟩ := h
  have e : s + 2 ^ j + 2 ^ j = s + 2 ^ (j + 1) := by rw [Nat.pow_succ]; omega
  exact ⟨ht, by rw [e]; exact h2, by rw [e]; exact h3⟩
theorem root_no {m s j : Nat} (h : RootTill m s (j + 1)) (ht : m < (s + 2 ^ j) * (s + 2 ^ j)) : RootTill m s j := by
  obtain ⟨h1, _, h3⟩ := h
  have : 2 ^ j ≤ 2 ^ (j + 1) := Nat.pow_le_pow_right (by omega) (by omega)
  exact ⟨h1, ht, by omega⟩
theorem root_till_lt {m s j : Nat} (h : RootTill m s (j + 1)) : s + 2 ^ j < 4294967296 ∧ 0 < 2 ^ j := by
  obtain ⟨_, _, h3⟩ := h
  have := Nat.pow_succ 2 j
  have : 0 < 2 ^ j := Nat.pow_pos (by omega)
  omega
theorem root_sq_lt {t : Nat} (h : t < 4294967296) : (t : Int) * (t : Int) ≤ 18446744073709551615 := by
  have := Nat.mul_le_mul (show t ≤ 4294967295 by omega) (show t ≤ 4294967295 by omega)
  omega
theorem root_end {m s : Nat} (h : RootTill m s 0) : sqrt (m : Int) = (s : Int) := by
  obtain ⟨h1, h2, _⟩ := h
  unfold sqrt
  rw [Int.toNat_natCast, root_only m s h1 h2]
theorem root_test {n s b : Int} (hn : n ≤ 9223372036854775807) (h : 3037000499 < s + b) : n < (s + b) * (s + b) := by
  have := Int.mul_le_mul (show 3037000500 ≤ s + b by omega) (show 3037000500 ≤ s + b by omega) (by omega) (by omega)
  omega
theorem half_bit (j : Nat) : 2 ^ j / 2 = bitAt j := by
  cases j with
  | zero => rfl
  | succ j => show 2 ^ (j + 1) / 2 = 2 ^ j; rw [Nat.pow_succ]; omega
end Go.Proofs.Ytlapinecmiacoaa.Nm
namespace Go.Proofs.Ytlapinecmiacoaa
open Go.ChangeShapes Go.WideShapes Go.ChangeAt Go.RowKit Nm

theorem ret_i {a b : Int} (h : a = b) : Ending.returned (.int .i64 a) = .returned (.int .i64 b) := by rw [h]

end Go.Proofs.Ytlapinecmiacoaa
namespace Go.Proofs.Ytlapinecmiacoaa
open Go.ChangeShapes Go.WideShapes Go.ChangeAt Go.RowKit Nm

end Go.Proofs.Ytlapinecmiacoaa
namespace Go.Proofs.Ytlapinecmiacoaa
open Go.ChangeShapes Go.WideShapes Go.ChangeAt Go.RowKit Nm

end Go.Proofs.Ytlapinecmiacoaa
namespace Go.Proofs.Ytlapinecmiacoaa
open Go.RowKit Nm

/-- The cells from 'off' on hold these numbers. -/
def Holds (w : World) (b off : Nat) (zs : List Int) : Prop := ∀ i, i < zs.length → w.cell? ⟨b, off + i, none⟩ = some (.int .i64 (zs.getD i 0))

theorem Holds.at {w : World} {b off : Nat} {zs : List Int} (h : Holds w b off zs) {i : Nat} (hi : i < zs.length) : w.cell? ⟨b, off + i, none⟩ = some (.int .i64 zs[i]) := by
  have := h i hi
  rwa [List.getD_eq_getElem?_getD, List.getElem?_eq_getElem hi] at this

theorem take_next (zs : List Int) (k : Nat) (h : k < zs.length) : zs.take (k + 1) = zs.take k ++ [zs.getD k 0] := by
  rw [List.take_succ_eq_append_getElem h]; simp [List.getD_eq_getElem?_getD, h]
theorem most_next (first : Int) (zs : List Int) (k : Nat) (h : k < zs.length) :
    most first (zs.take (k + 1)) = if most first (zs.take k) < zs[k] then zs[k] else most first (zs.take k) := by
  rw [List.take_succ_eq_append_getElem h]
  unfold most
  rw [List.foldl_append]
  simp only [List.foldl_cons, List.foldl_nil, Int.max_def]
  split <;> split <;> omega
theorem least_next (first : Int) (zs : List Int) (k : Nat) (h : k < zs.length) :
    least first (zs.take (k + 1)) = if zs[k] < least first (zs.take k) then zs[k] else least first (zs.take k) := by
  rw [List.take_succ_eq_append_getElem h]
  unfold least
  rw [List.foldl_append]
  simp only [List.foldl_cons, List.foldl_nil, Int.min_def]
  split <;> split <;> omega
theorem sum_next (zs : List Int) (k : Nat) (h : k < zs.length) : sum (zs.take (k + 1)) = plus (sum (zs.take k)) zs[k] := by
  rw [List.take_succ_eq_append_getElem h]
  unfold sum
  rw [List.foldl_append]
  rfl
theorem sum_in (zs : List Int) : -4611686018427387904 ≤ sum zs ∧ sum zs ≤ 4611686018427387904 := by
  have key : ∀ (l : List Int) (t : Int), -4611686018427387904 ≤ t ∧ t ≤ 4611686018427387904 → -4611686018427387904 ≤ l.foldl plus t ∧ l.foldl plus t ≤ 4611686018427387904 := by
    intro l
    induction l with
    | nil => exact fun t h => h
    | cons a l ih => exact fun t _ => ih _ ⟨clamp_lo _ _ _ (by omega), clamp_hi _ _ _ (by omega)⟩
  exact key zs 0 ⟨by omega, by omega⟩
theorem prods_take (a b : List Int) (k : Nat) : prods (a.take k) (b.take k) = (prods a b).take k := by
  induction k generalizing a b with
  | zero => cases a <;> cases b <;> simp [prods]
  | succ k ih => cases a <;> cases b <;> simp [prods, ih]
theorem prods_length (a b : List Int) : (prods a b).length = min a.length b.length := by
  induction a generalizing b with
  | nil => simp [prods]
  | cons x a ih => cases b <;> simp [prods, ih]
theorem prods_at (a b : List Int) (k : Nat) (ha : k < a.length) (hb : k < b.length) (h : k < (prods a b).length) : (prods a b)[k] = prod a[k] b[k] := by
  induction a generalizing b k with
  | nil => simp at ha
  | cons x a ih =>
    cases b with
    | nil => simp at hb
    | cons y b =>
      cases k with
      | zero => rfl
      | succ k => simpa [prods] using ih b k (by simpa using ha) (by simpa using hb) (by simpa [prods] using h)
theorem dot_next (a b : List Int) (k : Nat) (ha : k < a.length) (hb : k < b.length) : dot (a.take (k + 1)) (b.take (k + 1)) = plus (dot (a.take k) (b.take k)) (prod a[k] b[k]) := by
  have h : k < (prods a b).length := by rw [prods_length]; omega
  unfold dot
  rw [prods_take, prods_take, sum_next _ _ h, prods_at a b k ha hb]
theorem dot_in (a b : List Int) : -4611686018427387904 ≤ dot a b ∧ dot a b ≤ 4611686018427387904 := sum_in _
theorem dot_all (a b : List Int) (k : Nat) (h : k = min a.length b.length) : dot (a.take k) (b.take k) = dot a b := by
  unfold dot
  rw [prods_take, List.take_of_length_le (by rw [prods_length]; omega)]
end Go.Proofs.Ytlapinecmiacoaa
namespace Go.Proofs.Ytlapinecmiacoaa
open Go.ChangeShapes Go.WideShapes Go.ChangeAt Go.RowKit Nm

end Go.Proofs.Ytlapinecmiacoaa
namespace Go.Proofs.Ytlapinecmiacoaa
open Go.ChangeShapes Go.WideShapes Go.ChangeAt Go.RowKit Nm

end Go.Proofs.Ytlapinecmiacoaa
