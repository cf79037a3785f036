/-
  Plain numbers of layer 12: what counts, weights, mixes, and who is chosen. No program here. No conditions but those of each lemma.
-/
import Derived.Test.YtgoeaepjffimgaaNumMath
namespace Go.Proofs.Ytgoeaepjffimgaa.Sf
open Go.RowKit Nm

/-! What counts -/
def tabN (k : Nat) : Nat := match k with | 0 => 65536 | 1 => 60097 | 2 => 55109 | 3 => 50535 | 4 => 46341 | 5 => 42495 | 6 => 38968 | _ => 35734
def expN (d : Nat) : Nat := tabN (d % 8) / 2 ^ (d / 8)
def expZ (d : Int) : Int := (expN d.toNat : Int)
theorem tabN_le (k : Nat) : tabN k ≤ 65536 := by unfold tabN; split <;> omega
theorem tabN_pos (k : Nat) : 35734 ≤ tabN k := by unfold tabN; split <;> omega
theorem expN_zero : expN 0 = 65536 := by decide +kernel
theorem expN_le (d : Nat) : expN d ≤ 65536 := Nat.le_trans (Nat.div_le_self _ _) (tabN_le _)
theorem expN_big {d : Nat} (h : 17 ≤ d / 8) : expN d = 0 := by
  unfold expN
  refine Nat.div_eq_of_lt ?_
  have h1 := tabN_le (d % 8)
  have h2 : 2 ^ 17 ≤ 2 ^ (d / 8) := Nat.pow_le_pow_right (by omega) h
  have : 2 ^ 17 = 131072 := by decide
  omega
theorem tabN_down {k : Nat} (h : k < 7) : tabN (k + 1) ≤ tabN k := by
  rcases (show k = 0 ∨ k = 1 ∨ k = 2 ∨ k = 3 ∨ k = 4 ∨ k = 5 ∨ k = 6 by omega) with rfl | rfl | rfl | rfl | rfl | rfl | rfl <;> decide +kernel
theorem expN_step (d : Nat) : expN (d + 1) ≤ expN d := by
  unfold expN
  by_cases h : d % 8 < 7
  · rw [show (d + 1) % 8 = d % 8 + 1 by omega, show (d + 1) / 8 = d / 8 by omega]
    exact Nat.div_le_div_right (tabN_down h)
  · rw [show (d + 1) % 8 = 0 by omega, show (d + 1) / 8 = d / 8 + 1 by omega, show d % 8 = 7 by omega, Nat.pow_succ, Nat.mul_comm, ← Nat.div_div_eq_div_mul]
    exact Nat.div_le_div_right (by decide +kernel)
theorem expN_down {d e : Nat} (h : d ≤ e) : expN e ≤ expN d := by
  induction e with
  | zero => rw [show d = 0 by omega]; exact Nat.le_refl _
  | succ e ih =>
    rcases Nat.lt_or_ge e d with hl | hl
    · rw [show d = e + 1 by omega]; exact Nat.le_refl _
    · exact Nat.le_trans (expN_step e) (ih hl)
theorem expZ_zero : expZ 0 = 65536 := by unfold expZ; rw [show (0 : Int).toNat = 0 from rfl, expN_zero]; rfl
theorem expZ_in (d : Int) : 0 ≤ expZ d ∧ expZ d ≤ 65536 := by have := expN_le d.toNat; unfold expZ; omega
theorem expZ_down {d e : Int} (h : d ≤ e) : expZ e ≤ expZ d := by have := expN_down (show d.toNat ≤ e.toNat by omega); unfold expZ; omega
/-- Halves, again and again. -/
theorem half_pow (t k : Nat) : t / 2 ^ k / 2 = t / 2 ^ (k + 1) := by rw [Nat.pow_succ, Nat.div_div_eq_div_mul]

/-! The greatest of a row -/
def c30 (x : Int) : Int := clamp x (-1073741824) 1073741824
theorem c30_in (x : Int) : -1073741824 ≤ c30 x ∧ c30 x ≤ 1073741824 := ⟨clamp_lo _ _ _ (by omega), clamp_hi _ _ _ (by omega)⟩
theorem c30_mono {x y : Int} (h : x ≤ y) : c30 x ≤ c30 y := by unfold c30 clamp; split <;> split <;> (try split) <;> (try split) <;> omega
theorem c30_act {x : Int} (h : -32767 ≤ x ∧ x ≤ 32767) : c30 x = x := by unfold c30 clamp; rw [if_neg (by omega), if_neg (by omega)]
/-- The greatest of the clamped; of none the least that there may be. -/
def highL (l : List Int) : Int := l.foldl (fun m x => max m (c30 x)) (-1073741824)
theorem high_from (l : List Int) : ∀ m : Int, (∀ x ∈ l, c30 x ≤ l.foldl (fun m x => max m (c30 x)) m) ∧ m ≤ l.foldl (fun m x => max m (c30 x)) m ∧ (l.foldl (fun m x => max m (c30 x)) m = m ∨ ∃ x ∈ l, l.foldl (fun m x => max m (c30 x)) m = c30 x) := by
  induction l with
  | nil => intro m; simp
  | cons a l ih =>
    intro m
    obtain ⟨h1, h2, h3⟩ := ih (max m (c30 a))
    rw [List.foldl_cons]
    refine ⟨fun x hx => ?_, by omega, ?_⟩
    · rcases List.mem_cons.1 hx with rfl | hx
      · omega
      · exact h1 x hx
    · rcases h3 with h3 | ⟨x, hx, h3⟩
      · by_cases h : m ≤ c30 a
        · exact .inr ⟨a, by simp, by rw [h3]; omega⟩
        · exact .inl (by rw [h3]; omega)
      · exact .inr ⟨x, by simp [hx], h3⟩
theorem high_ge {l : List Int} {x : Int} (h : x ∈ l) : c30 x ≤ highL l := (high_from l _).1 x h
theorem high_is {l : List Int} (h : l ≠ []) : ∃ x ∈ l, highL l = c30 x := by
  rcases (high_from l (-1073741824)).2.2 with h3 | h3
  · cases l with
    | nil => exact absurd rfl h
    | cons a l =>
      refine ⟨a, by simp, ?_⟩
      have h1 := (high_from (a :: l) (-1073741824)).1 a (by simp)
      have := (c30_in a).1
      unfold highL
      omega
  · exact h3
theorem high_in (l : List Int) : -1073741824 ≤ highL l ∧ highL l ≤ 1073741824 := by
  have h := high_from l (-1073741824)
  refine ⟨h.2.1, ?_⟩
  rcases h.2.2 with h3 | ⟨x, _, h3⟩
  · unfold highL; omega
  · have := (c30_in x).2
    unfold highL
    omega
theorem high_next (l : List Int) (k : Nat) (h : k < l.length) : highL (l.take (k + 1)) = max (highL (l.take k)) (c30 (l.getD k 0)) := by
  unfold highL
  rw [List.take_succ_eq_append_getElem h, List.foldl_append, List.getD_eq_getElem?_getD, List.getElem?_eq_getElem h]
  rfl
theorem high_add {l : List Int} {x : Int} (h : c30 x ≤ highL l) : highL (l ++ [x]) = highL l := by
  unfold highL at *
  rw [List.foldl_append]
  show max (l.foldl _ _) (c30 x) = _
  omega
/-- The greatest, reckoned from another start that lies in the row. -/
theorem high_start {l : List Int} {a : Int} (h : a ∈ l) : l.foldl (fun m x => max m (c30 x)) (c30 a) = highL l := by
  have h1 := high_from l (c30 a)
  have h2 := high_from l (-1073741824)
  have h3 := h2.1 a h
  have hm := (c30_in a).1
  unfold highL
  rcases h1.2.2 with e | ⟨x, hx, e⟩
  · rcases h2.2.2 with f | ⟨y, hy, f⟩
    · omega
    · have := h1.1 y hy
      omega
  · have h4 := h2.1 x hx
    rcases h2.2.2 with f | ⟨y, hy, f⟩
    · have := h1.2.1
      omega
    · have := h1.1 y hy
      omega
def weightsL (l : List Int) : List Int := l.map fun x => expZ (highL l - c30 x)
theorem weightsL_length (l : List Int) : (weightsL l).length = l.length := by simp [weightsL]
theorem weightsL_at (l : List Int) (i : Nat) (h : i < l.length) : (weightsL l).getD i 0 = expZ (highL l - c30 (l.getD i 0)) := by
  unfold weightsL
  rw [List.getD_eq_getElem?_getD, List.getElem?_map, List.getD_eq_getElem?_getD (l := l), List.getElem?_eq_getElem h]
  rfl
theorem weightsL_up {l : List Int} {i k : Nat} (hi : i < l.length) (hk : k < l.length) (h : l.getD k 0 ≤ l.getD i 0) : (weightsL l).getD k 0 ≤ (weightsL l).getD i 0 := by
  rw [weightsL_at _ _ hi, weightsL_at _ _ hk]
  have := c30_mono h
  exact expZ_down (by omega)
theorem weightsL_add {l : List Int} {x : Int} (h : c30 x ≤ highL l) : (weightsL (l ++ [x])).take l.length = weightsL l := by
  unfold weightsL
  rw [high_add h, List.map_append, List.take_left' (by simp)]

/-! The best -/
/-- The first of the greatest of the first k; -1 of none. -/
def bestK (l : List Int) : Nat → Int
  | 0 => -1
  | k + 1 => if bestK l k < 0 ∨ l.getD (bestK l k).toNat 0 < l.getD k 0 then (k : Int) else bestK l k
def bestL (l : List Int) : Int := bestK l l.length
theorem bestK_in (l : List Int) : ∀ k : Nat, 0 < k → 0 ≤ bestK l k ∧ bestK l k < k
  | 0, h => absurd h (by omega)
  | k + 1, _ => by
    unfold bestK
    by_cases h0 : k = 0
    · subst h0
      rw [if_pos (.inl (by show (-1 : Int) < 0; omega))]
      omega
    · have := bestK_in l k (by omega)
      split <;> omega
theorem bestK_most (l : List Int) : ∀ k : Nat, ∀ i : Nat, i < k → l.getD i 0 ≤ l.getD (bestK l k).toNat 0
  | 0, i, h => absurd h (by omega)
  | k + 1, i, hi => by
    unfold bestK
    by_cases h0 : k = 0
    · subst h0
      rw [if_pos (.inl (by show (-1 : Int) < 0; omega)), show i = 0 by omega]
      exact Int.le_refl _
    · have h1 := bestK_in l k (by omega)
      by_cases hc : bestK l k < 0 ∨ l.getD (bestK l k).toNat 0 < l.getD k 0
      · rw [if_pos hc, Int.toNat_natCast]
        have hc2 := hc.resolve_left (by omega)
        by_cases hik : i = k
        · rw [hik]; exact Int.le_refl _
        · have := bestK_most l k i (by omega)
          omega
      · rw [if_neg hc]
        by_cases hik : i = k
        · rw [hik]
          exact Int.not_lt.1 fun h => hc (.inr h)
        · exact bestK_most l k i (by omega)
theorem best_counts {l : List Int} (h : l ≠ []) : 0 ≤ bestL l ∧ bestL l < l.length ∧ (weightsL l).getD (bestL l).toNat 0 = 65536 := by
  have hl : 0 < l.length := List.length_pos_iff.2 h
  have h1 := bestK_in l l.length hl
  refine ⟨h1.1, h1.2, ?_⟩
  have hb : (bestL l).toNat < l.length := by unfold bestL; omega
  rw [weightsL_at _ _ hb]
  obtain ⟨x, hx, hh⟩ := high_is h
  obtain ⟨i, hi, rfl⟩ := List.mem_iff_getElem.1 hx
  have h2 := bestK_most l l.length i hi
  rw [List.getD_eq_getElem?_getD, List.getElem?_eq_getElem hi] at h2
  have h3 := c30_mono (show l[i] ≤ l.getD (bestL l).toNat 0 from h2)
  have h4 : c30 (l.getD (bestL l).toNat 0) ≤ highL l := by
    rw [List.getD_eq_getElem?_getD, List.getElem?_eq_getElem hb]
    exact high_ge (List.getElem_mem hb)
  rw [show highL l - c30 (l.getD (bestL l).toNat 0) = 0 by omega, expZ_zero]
/-- A score more that isn't the greatest. -/
theorem best_more {l : List Int} (h : l ≠ []) {x : Int} (hx : x ≤ l.getD (bestL l).toNat 0) : c30 x ≤ highL l := by
  have hl : 0 < l.length := List.length_pos_iff.2 h
  have h1 := bestK_in l l.length hl
  have hb : (bestL l).toNat < l.length := by unfold bestL; omega
  have h3 := c30_mono hx
  have h4 : c30 (l.getD (bestL l).toNat 0) ≤ highL l := by
    rw [List.getD_eq_getElem?_getD, List.getElem?_eq_getElem hb]
    exact high_ge (List.getElem_mem hb)
  omega
end Go.Proofs.Ytgoeaepjffimgaa.Sf
