/-
  Plain numbers of layer 12: what counts, weights, mixes, and who is chosen. No program here. No conditions but those of each lemma.
  Plain numbers of layer 12: a mix of rows by weights: what it is, its bounds, and that it lies between what is mixed. No program here. No conditions but those of each lemma.
-/
import Derived.Test.YtlapinecmiacoaaMe6
set_option maxRecDepth 100000
namespace Go.Proofs.Ytlapinecmiacoaa.Sf
open Go.RowKit Nm

/-! What counts -/
def tabN (k : Nat) : Nat := match k with | 0 => 65536 | 1 => 60097 | 2 => 55109 | 3 => 50535 | 4 => 46341 | 5 => 42495 | 6 => 38968 | _ => 35734
def expN (d : Nat) : Nat := tabN (d % 8) / 2 ^ (d / 8)
def expZ (d : Int) : Int := (expN d.toNat : Int)
theorem tabN_le (k : Nat) : tabN k ≤ 65536 := by unfold tabN; split <;> omega
theorem tabN_pos (k : Nat) : 35734 ≤ tabN k := by unfold tabN; split <;> omega
theorem expN_zero : expN 0 = 65536 := by decide +kernel
theorem expN_le (d : Nat) : expN d ≤ 65536 := Nat.le_trans (Nat.div_le_self _ _) (tabN_le _)
theorem expN_big {d : Nat} (h : 17 ≤ d / 8) : expN d = 0 := by
  unfold expN
  refine Nat.div_eq_of_lt ?_
  have h1 := tabN_le (d % 8)
  have h2 : 2 ^ 17 ≤ 2 ^ (d / 8) := Nat.pow_le_pow_right (by omega) h
  have : 2 ^ 17 = 131072 := by decide
  omega
theorem tabN_down {k : Nat} (h : k < 7) : tabN (k + 1) ≤ tabN k := by
  rcases (show k = 0 ∨ k = 1 ∨ k = 2 ∨ k = 3 ∨ k = 4 ∨ k = 5 ∨ k = 6 by omega) with rfl | rfl | rfl | rfl | rfl | rfl | rfl <;> decide +kernel
theorem expN_step (d : Nat) : expN (d + 1) ≤ expN d := by
  unfold expN
  by_cases h : d % 8 < 7
  · rw [show (d + 1) % 8 = d % 8 + 1 by omega, show (d + 1) / 8 = d / 8 by omega]
    exact Nat.div_le_div_right (tabN_down h)
  · rw [show (d + 1) % 8 = 0 by omega, show (d + 1) / 8 = d / 8 + 1 by omega, show d % 8 = 7 by omega, Nat.pow_succ, Nat.mul_comm, ← Nat.div_div_eq_div_mul]
    exact Nat.div_le_div_right (by decide +kernel)
theorem expN_down {d e : Nat} (h : d ≤ e) : expN e ≤ expN d := by
  induction e with
  | zero => rw [show d = 0 by omega]; exact Nat.le_refl _
  | succ e ih =>
    rcases Nat.lt_or_ge e d with hl | hl
    · rw [show d = e + 1 by omega]; exact Nat.le_refl _
    · exact Nat.le_trans (expN_step e) (ih hl)
theorem expZ_zero : expZ 0 = 65536 := by unfold expZ; rw [show (0 : Int).toNat = 0 from rfl, expN_zero]; rfl
theorem expZ_in (d : Int) : 0 ≤ expZ d ∧ expZ d ≤ 65536 := by have := expN_le d.toNat; unfold expZ; omega
theorem expZ_down {d e : Int} (h : d ≤ e) : expZ e ≤ expZ d := by have := expN_down (show d.toNat ≤ e.toNat by omega); unfold expZ; omega
/-- Halves, again and again. -/
theorem half_pow (t k : Nat) : t / 2 ^ k / 2 = t / 2 ^ (k + 1) := by rw [Nat.pow_succ, Nat.div_div_eq_div_mul]

/-! The greatest of a row -/
def c30 (x : Int) : Int := clamp x (-1073741824) 1073741824
theorem c30_in (x : Int) : -1073741824 ≤ c30 x ∧ c30 x ≤ 1073741824 := ⟨clamp_lo _ _ _ (by omega), clamp_hi _ _ _ (by omega)⟩
theorem c30_mono {x y : Int} (h : x ≤ y) : c30 x ≤ c30 y := by unfold c30 clamp; split <;> split <;> (try split) <;> (try split) <;> omega
theorem c30_act {x : Int} (h : -32767 ≤ x ∧ x ≤ 32767) : c30 x = x := by unfold c30 clamp; rw [if_neg (by omega), if_neg (by omega)]
/-- The greatest of the clamped; of none the least that there may be. -/
def highL (l : List Int) : Int := l.foldl (fun m x => max m (c30 x)) (-1073741824)
theorem high_from (l : List Int) : ∀ m : Int, (∀ x ∈ l, c30 x ≤ l.foldl (fun m x => max m (c30 x)) m) ∧ m ≤ l.foldl (fun m x => max m (c30 x)) m ∧ (l.foldl (fun m x => max m (c30 x)) m = m ∨ ∃ x ∈ l, l.foldl (fun m x => max m (c30 x)) m = c30 x) := by
  induction l with
  | nil => intro m; simp
  | cons a l ih =>
    intro m
    obtain ⟨h1, h2, h3⟩ := ih (max m (c30 a))
    rw [List.foldl_cons]
    refine ⟨fun x hx => ?_, by omega, ?_⟩
    · rcases List.mem_cons.1 hx with rfl | hx
      · omega
      · exact h1 x hx
    · rcases h3 with h3 | ⟨x, hx, h3⟩
      · by_cases h : m ≤ c30 a
        · exact .inr ⟨a, by simp, by rw [h3]; omega⟩
        · exact .inl (by rw [h3]; omega)
      · exact .inr ⟨x, by simp [hx], h3⟩
theorem high_ge {l : List Int} {x : Int} (h : x ∈ l) : c30 x ≤ highL l := (high_from l _).1 x h
theorem high_is {l : List Int} (h : l ≠ []) : ∃ x ∈ l, highL l = c30 x := by
  rcases (high_from l (-1073741824)).2.2 with h3 | h3
  · cases l with
    | nil => exact absurd rfl h
    | cons a l =>
      refine ⟨a, by simp, ?_⟩
      have h1 := (high_from (a :: l) (-1073741824)).1 a (by simp)
      have := (c30_in a).1
      unfold highL
      omega
  · exact h3
theorem high_in (l : List Int) : -1073741824 ≤ highL l ∧ highL l ≤ 1073741824 := by
  have h := high_from l (-1073741824)
  refine ⟨h.2.1, ?_⟩
  rcases h.2.2 with h3 | ⟨x, _, h3⟩
  · unfold highL; omega
  · have := (c30_in x).2
    unfold highL
    omega
theorem high_next (l : List Int) (k : Nat) (h : k < l.length) : highL (l.take (k + 1)) = max (highL (l.take k)) (c30 (l.getD k 0)) := by
  unfold highL
  rw [List.take_succ_eq_append_getElem h, List.foldl_append, List.getD_eq_getElem?_getD, List.getElem?_eq_getElem h]
  rfl
theorem high_add {l : List Int} {x : Int} (h : c30 x ≤ highL l) : highL (l ++ [x]) = highL l := by
  unfold highL at *
  rw [List.foldl_append]
  show max (l.foldl _ _) (c30 x) = _
  omega
/-- The greatest, reckoned from another start that lies in the row. -/
theorem high_start {l : List Int} {a : Int} (h : a ∈ l) : l.foldl (fun m x => max m (c30 x)) (c30 a) = highL l := by
  have h1 := high_from l (c30 a)
  have h2 := high_from l (-1073741824)
  have h3 := h2.1 a h
  have hm := (c30_in a).1
  unfold highL
  rcases h1.2.2 with e | ⟨x, hx, e⟩
  · rcases h2.2.2 with f | ⟨y, hy, f⟩
    · omega
    · have := h1.1 y hy
      omega
  · have h4 := h2.1 x hx
    rcases h2.2.2 with f | ⟨y, hy, f⟩
    · have := h1.2.1
      omega
    · have := h1.1 y hy
      omega
def weightsL (l : List Int) : List Int := l.map fun x => expZ (highL l - c30 x)
theorem weightsL_length (l : List Int) : (weightsL l).length = l.length := by simp [weightsL]
theorem weightsL_at (l : List Int) (i : Nat) (h : i < l.length) : (weightsL l).getD i 0 = expZ (highL l - c30 (l.getD i 0)) := by
  unfold weightsL
  rw [List.getD_eq_getElem?_getD, List.getElem?_map, List.getD_eq_getElem?_getD (l := l), List.getElem?_eq_getElem h]
  rfl
theorem weightsL_up {l : List Int} {i k : Nat} (hi : i < l.length) (hk : k < l.length) (h : l.getD k 0 ≤ l.getD i 0) : (weightsL l).getD k 0 ≤ (weightsL l).getD i 0 := by
  rw [weightsL_at _ _ hi, weightsL_at _ _ hk]
  have := c30_mono h
  exact expZ_down (by omega)
theorem weightsL_add {l : List Int} {x : Int} (h : c30 x ≤ highL l) : (weightsL (l ++ [x])).take l.length = weightsL l := by
  unfold weightsL
  rw [high_add h, List.map_append, List.take_left' (by simp)]

/-! The best -/
/-- The first of the greatest of the first k; -1 of none. -/
def bestK (l : List Int) : Nat → Int
  | 0 => -1
  | k + 1 => if bestK l k < 0 ∨ l.getD (bestK l k).toNat 0 < l.getD k 0 then (k : Int) else bestK l k
def bestL (l : List Int) : Int := bestK l l.length
theorem bestK_in (l : List Int) : ∀ k : Nat, 0 < k → 0 ≤ bestK l k ∧ bestK l k < k
  | 0, h => absurd h (by omega)
  | k + 1, _ => by
    unfold bestK
    by_cases h0 : k = 0
    · subst h0
      rw [if_pos (.inl (by show (-1 : Int) < 0; omega))]
      omega
    · have := bestK_in l k (by omega)
      split <;> omega
theorem bestK_most (l : List Int) : ∀ k : Nat, ∀ i : Nat, i < k → l.getD i 0 ≤ l.getD (bestK l k).toNat 0
  | 0, i, h => absurd h (by omega)
  | k + 1, i, hi => by
    unfold bestK
    by_cases h0 : k = 0
    · subst h0
      rw [if_pos (.inl (by show (-1 : Int) < 0; omega)), show i = 0 by omega]
      exact Int.le_refl _
    · have h1 := bestK_in l k (by omega)
      by_cases hc : bestK l k < 0 ∨ l.getD (bestK l k).toNat 0 < l.getD k 0
      · rw [if_pos hc, Int.toNat_natCast]
        have hc2 := hc.resolve_left (by omega)
        by_cases hik : i = k
        · rw [hik]; exact Int.le_refl _
        · have := bestK_most l k i (by omega)
          omega
      · rw [if_neg hc]
        by_cases hik : i = k
        · rw [hik]
          exact Int.not_lt.1 fun h => hc (.inr h)
        · exact bestK_most l k i (by omega)
theorem best_counts {l : List Int} (h : l ≠ []) : 0 ≤ bestL l ∧ bestL l < l.length ∧ (weightsL l).getD (bestL l).toNat 0 = 65536 := by
  have hl : 0 < l.length := List.length_pos_iff.2 h
  have h1 := bestK_in l l.length hl
  refine ⟨h1.1, h1.2, ?_⟩
  have hb : (bestL l).toNat < l.length := by unfold bestL; omega
  rw [weightsL_at _ _ hb]
  obtain ⟨x, hx, hh⟩ := high_is h
  obtain ⟨i, hi, rfl⟩ := List.mem_iff_getElem.1 hx
  have h2 := bestK_most l l.length i hi
  rw [List.getD_eq_getElem?_getD, List.getElem?_eq_getElem hi] at h2
  have h3 := c30_mono (show l[i] ≤ l.getD (bestL l).toNat 0 from h2)
  have h4 : c30 (l.getD (bestL l).toNat 0) ≤ highL l := by
    rw [List.getD_eq_getElem?_getD, List.getElem?_eq_getElem hb]
    exact high_ge (List.getElem_mem hb)
  rw [show highL l - c30 (l.getD (bestL l).toNat 0) = 0 by omega, expZ_zero]
/-- A score more that isn't the greatest. -/
theorem best_more {l : List Int} (h : l ≠ []) {x : Int} (hx : x ≤ l.getD (bestL l).toNat 0) : c30 x ≤ highL l := by
  have hl : 0 < l.length := List.length_pos_iff.2 h
  have h1 := bestK_in l l.length hl
  have hb : (bestL l).toNat < l.length := by unfold bestL; omega
  have h3 := c30_mono hx
  have h4 : c30 (l.getD (bestL l).toNat 0) ≤ highL l := by
    rw [List.getD_eq_getElem?_getD, List.getElem?_eq_getElem hb]
    exact high_ge (List.getElem_mem hb)
  omega
end Go.Proofs.Ytlapinecmiacoaa.Sf
namespace Go.Proofs.Ytlapinecmiacoaa.Sf
open Go.RowKit Nm

/-- The sum of weights times numbers, in one place. -/
def numer : List Int → List (List Int) → Nat → Int
  | w :: ws, r :: rs, k => w * c30 (r.getD k 0) + numer ws rs k
  | _, _, _ => 0
def total (ws : List Int) : Int := ws.foldl (· + ·) 0
def mixL (ws : List Int) (rs : List (List Int)) (n : Nat) : List Int := (List.range n).map fun k => sat ((numer ws rs k).tdiv (total ws))
/-- Whether weights are from 0 to m. -/
def InW (m : Int) (ws : List Int) : Prop := ∀ i, i < ws.length → 0 ≤ ws.getD i 0 ∧ ws.getD i 0 ≤ m
theorem numer_cons (w : Int) (ws : List Int) (r : List Int) (rs : List (List Int)) (k : Nat) : numer (w :: ws) (r :: rs) k = w * c30 (r.getD k 0) + numer ws rs k := rfl
theorem numer_nil (ws : List Int) (k : Nat) : numer ws [] k = 0 := by cases ws <;> rfl
theorem foldl_add (ws : List Int) : ∀ t : Int, ws.foldl (· + ·) t = t + total ws := by
  unfold total
  induction ws with
  | nil => intro t; simp
  | cons w ws ih =>
    intro t
    rw [List.foldl_cons, List.foldl_cons, ih (t + w), ih (0 + w)]
    omega
theorem total_cons (w : Int) (ws : List Int) : total (w :: ws) = w + total ws := by
  show (w :: ws).foldl (· + ·) 0 = _
  rw [List.foldl_cons, foldl_add, Int.zero_add]
theorem total_next (ws : List Int) (i : Nat) (h : i < ws.length) : total (ws.take (i + 1)) = total (ws.take i) + ws.getD i 0 := by
  unfold total
  rw [List.take_succ_eq_append_getElem h, List.foldl_append, List.getD_eq_getElem?_getD, List.getElem?_eq_getElem h]
  rfl
theorem total_all (ws : List Int) {i : Nat} (h : ws.length ≤ i) : total (ws.take i) = total ws := by rw [List.take_of_length_le h]
theorem numer_next : ∀ (ws : List Int) (rs : List (List Int)) (k i : Nat), i < ws.length → i < rs.length → numer (ws.take (i + 1)) (rs.take (i + 1)) k = numer (ws.take i) (rs.take i) k + ws.getD i 0 * c30 ((rs.getD i []).getD k 0)
  | [], _, _, _, h, _ => absurd h (by simp)
  | _ :: _, [], _, _, _, h => absurd h (by simp)
  | w :: ws, r :: rs, k, 0, _, _ => by
    show w * c30 (r.getD k 0) + 0 = 0 + w * c30 (r.getD k 0)
    omega
  | w :: ws, r :: rs, k, i + 1, h1, h2 => by
    have := numer_next ws rs k i (by simpa using h1) (by simpa using h2)
    show w * c30 (r.getD k 0) + numer (ws.take (i + 1)) (rs.take (i + 1)) k = w * c30 (r.getD k 0) + numer (ws.take i) (rs.take i) k + ws.getD i 0 * c30 ((rs.getD i []).getD k 0)
    rw [this]
    omega
theorem numer_all (ws : List Int) (rs : List (List Int)) (k : Nat) {i : Nat} (h1 : ws.length ≤ i) (h2 : rs.length ≤ i) : numer (ws.take i) (rs.take i) k = numer ws rs k := by rw [List.take_of_length_le h1, List.take_of_length_le h2]
theorem inW_cons {m w : Int} {ws : List Int} (h : InW m (w :: ws)) : (0 ≤ w ∧ w ≤ m) ∧ InW m ws :=
  ⟨h 0 (by simp), fun i hi => h (i + 1) (by simpa using hi)⟩
theorem inW_take {m : Int} {ws : List Int} (h : InW m ws) (i : Nat) : InW m (ws.take i) := fun j hj => by
  rw [List.length_take] at hj
  have := h j (by omega)
  rwa [List.getD_eq_getElem?_getD, List.getElem?_take_of_lt (by omega), ← List.getD_eq_getElem?_getD]
theorem total_in {m : Int} (hm : 0 ≤ m) : ∀ ws : List Int, InW m ws → 0 ≤ total ws ∧ total ws ≤ m * ws.length
  | [], _ => by simp [total]
  | w :: ws, h => by
    obtain ⟨h1, h2⟩ := inW_cons h
    have := total_in hm ws h2
    rw [total_cons, List.length_cons, Int.natCast_add, Int.mul_add]
    omega
theorem total_zero {m : Int} : ∀ ws : List Int, InW m ws → total ws = 0 → ∀ i, i < ws.length → ws.getD i 0 = 0
  | [], _, _, i, hi => absurd hi (by simp)
  | w :: ws, h, h0, i, hi => by
    obtain ⟨h1, h2⟩ := inW_cons h
    have h3 : 0 ≤ total ws := by
      have hm : 0 ≤ m := by omega
      exact (total_in hm ws h2).1
    rw [total_cons] at h0
    cases i with
    | zero => show w = 0; omega
    | succ i => exact total_zero ws h2 (by omega) i (by simpa using hi)
theorem term_in {m w x : Int} (hw : 0 ≤ w ∧ w ≤ m) (hx : -1073741824 ≤ x ∧ x ≤ 1073741824) : -(1073741824 * m) ≤ w * x ∧ w * x ≤ 1073741824 * m := by
  have e := Int.natAbs_mul w x
  have := Nat.mul_le_mul (show w.natAbs ≤ m.natAbs by omega) (show x.natAbs ≤ 1073741824 by omega)
  rw [← e] at this
  omega
theorem numer_in {m : Int} (hm : 0 ≤ m) : ∀ (ws : List Int) (rs : List (List Int)) (k : Nat), InW m ws → -(1073741824 * m * ws.length) ≤ numer ws rs k ∧ numer ws rs k ≤ 1073741824 * m * ws.length
  | [], _, _, _ => by simp [numer]
  | w :: ws, [], k, _ => by
    rw [numer_nil]
    have h1 : 0 ≤ 1073741824 * m * ((w :: ws).length : Int) := Int.mul_nonneg (by omega) (by omega)
    omega
  | w :: ws, r :: rs, k, h => by
    obtain ⟨h1, h2⟩ := inW_cons h
    have h3 := numer_in hm ws rs k h2
    have h4 := term_in h1 (c30_in (r.getD k 0))
    rw [numer_cons, List.length_cons, Int.natCast_add, Int.mul_add]
    omega
/-- A quotient towards nought lies between what bounds it. -/
theorem tdiv_between {n s lo hi : Int} (hs : 0 < s) (h1 : lo * s ≤ n) (h2 : n ≤ hi * s) : lo ≤ n.tdiv s ∧ n.tdiv s ≤ hi := by
  have e := Int.mul_tdiv_add_tmod n s
  have hm : s * n.tdiv s = n.tdiv s * s := Int.mul_comm _ _
  by_cases hn : 0 ≤ n
  · have hr := Int.tmod_nonneg s hn
    have hr2 := Int.tmod_lt_of_pos n hs
    constructor
    · apply Int.not_lt.1
      intro h
      have := Int.mul_le_mul_of_nonneg_right (show n.tdiv s + 1 ≤ lo by omega) (show 0 ≤ s by omega)
      rw [Int.add_mul] at this
      omega
    · apply Int.not_lt.1
      intro h
      have := Int.mul_le_mul_of_nonneg_right (show hi + 1 ≤ n.tdiv s by omega) (show 0 ≤ s by omega)
      rw [Int.add_mul] at this
      omega
  · have hr : n.tmod s ≤ 0 := by
      have := Int.tmod_nonneg s (show 0 ≤ -n by omega)
      rw [Int.neg_tmod] at this
      omega
    have hr2 : -s < n.tmod s := by
      have := Int.tmod_lt_of_pos (-n) hs
      rw [Int.neg_tmod] at this
      omega
    constructor
    · apply Int.not_lt.1
      intro h
      have := Int.mul_le_mul_of_nonneg_right (show n.tdiv s + 1 ≤ lo by omega) (show 0 ≤ s by omega)
      rw [Int.add_mul] at this
      omega
    · apply Int.not_lt.1
      intro h
      have := Int.mul_le_mul_of_nonneg_right (show hi + 1 ≤ n.tdiv s by omega) (show 0 ≤ s by omega)
      rw [Int.add_mul] at this
      omega
theorem tdiv_fits' {n s : Int} (hn : Fits n) (hs : 0 < s) : Fits (n.tdiv s) := by
  unfold Fits at *
  have h1 := tdiv_between (n := n) (s := s) (lo := -9223372036854775808) (hi := 9223372036854775807) hs
    (by omega) (by omega)
  exact h1
/-- Rows whose numbers in a place lie between two. -/
def Between (rs : List (List Int)) (k : Nat) (lo hi : Int) : Prop := ∀ r ∈ rs, lo ≤ c30 (r.getD k 0) ∧ c30 (r.getD k 0) ≤ hi
theorem numer_between {m lo hi : Int} : ∀ (ws : List Int) (rs : List (List Int)) (k : Nat), ws.length = rs.length → InW m ws → Between rs k lo hi → lo * total ws ≤ numer ws rs k ∧ numer ws rs k ≤ hi * total ws
  | [], [], _, _, _, _ => by simp [numer, total]
  | [], _ :: _, _, h, _, _ => by simp at h
  | _ :: _, [], _, h, _, _ => by simp at h
  | w :: ws, r :: rs, k, h, hw, hb => by
    obtain ⟨h1, h2⟩ := inW_cons hw
    have h3 := numer_between ws rs k (by simpa using h) h2 (fun q hq => hb q (by simp [hq]))
    have h4 := hb r (by simp)
    have h5 := Int.mul_le_mul_of_nonneg_left h4.1 h1.1
    have h6 := Int.mul_le_mul_of_nonneg_left h4.2 h1.1
    rw [numer_cons, total_cons, Int.mul_add, Int.mul_add, Int.mul_comm lo w, Int.mul_comm hi w]
    omega
theorem mixL_length (ws : List Int) (rs : List (List Int)) (n : Nat) : (mixL ws rs n).length = n := by simp [mixL]
theorem mixL_at (ws : List Int) (rs : List (List Int)) (n k : Nat) (h : k < n) : (mixL ws rs n).getD k 0 = sat ((numer ws rs k).tdiv (total ws)) := by
  unfold mixL
  rw [List.getD_eq_getElem?_getD, List.getElem?_map, List.getElem?_range h]
  rfl
theorem mix_between {m lo hi : Int} {ws : List Int} {rs : List (List Int)} {n k : Nat} (hk : k < n) (hl : ws.length = rs.length) (hw : InW m ws) (hs : 0 < total ws) (hb : Between rs k lo hi) (hlo : -32767 ≤ lo) (hhi : hi ≤ 32767) :
    lo ≤ (mixL ws rs n).getD k 0 ∧ (mixL ws rs n).getD k 0 ≤ hi := by
  have h1 := numer_between ws rs k hl hw hb
  have h2 := tdiv_between hs h1.1 h1.2
  rw [mixL_at _ _ _ _ hk]
  have : sat ((numer ws rs k).tdiv (total ws)) = (numer ws rs k).tdiv (total ws) := by
    unfold sat clamp
    rw [if_neg (by omega), if_neg (by omega)]
  rw [this]
  exact h2
/-- Weights twice as great. -/
def dbl (ws : List Int) : List Int := ws.map fun w => 2 * w
theorem dbl_length (ws : List Int) : (dbl ws).length = ws.length := by simp [dbl]
theorem total_dbl : ∀ ws : List Int, total (dbl ws) = 2 * total ws
  | [] => rfl
  | w :: ws => by
    show total (2 * w :: dbl ws) = _
    rw [total_cons, total_cons, total_dbl ws]
    omega
theorem numer_dbl : ∀ (ws : List Int) (rs : List (List Int)) (k : Nat), numer (dbl ws) rs k = 2 * numer ws rs k
  | [], _, _ => by simp [dbl, numer]
  | w :: ws, [], k => by rw [numer_nil, numer_nil]; rfl
  | w :: ws, r :: rs, k => by
    show numer (2 * w :: dbl ws) (r :: rs) k = _
    rw [numer_cons, numer_cons, numer_dbl ws rs k, Int.mul_assoc]
    omega
theorem mix_dbl (ws : List Int) (rs : List (List Int)) (n : Nat) : mixL (dbl ws) rs n = mixL ws rs n := by
  unfold mixL
  refine List.map_congr_left fun k _ => ?_
  rw [numer_dbl, total_dbl, Int.mul_tdiv_mul_of_pos _ _ (by omega)]
/-- One row alone. -/
theorem mix_one {r : List Int} (h : ∀ i, i < r.length → -32767 ≤ r.getD i 0 ∧ r.getD i 0 ≤ 32767) : mixL [5] [r] r.length = r := by
  apply List.ext_getElem (by rw [mixL_length])
  intro i h1 h2
  have e := mixL_at [5] [r] r.length i h2
  rw [List.getD_eq_getElem?_getD, List.getElem?_eq_getElem h1] at e
  show (mixL [5] [r] r.length)[i] = r[i]
  rw [show (mixL [5] [r] r.length)[i] = _ from e]
  have hb := h i h2
  have e2 : numer [5] [r] i = 5 * r.getD i 0 := by
    show 5 * c30 (r.getD i 0) + 0 = _
    rw [c30_act hb]
    omega
  rw [e2, show total [5] = 5 from rfl, Int.mul_tdiv_cancel_left _ (by omega)]
  unfold sat clamp
  rw [if_neg (by omega), if_neg (by omega), List.getD_eq_getElem?_getD, List.getElem?_eq_getElem h2]
  rfl
/-- The least and the greatest of the first i rows' numbers in a place. -/
def lowK (rs : List (List Int)) (k : Nat) : Nat → Int
  | 0 => (rs.getD 0 []).getD k 0
  | i + 1 => min (lowK rs k i) ((rs.getD i []).getD k 0)
def topK (rs : List (List Int)) (k : Nat) : Nat → Int
  | 0 => (rs.getD 0 []).getD k 0
  | i + 1 => max (topK rs k i) ((rs.getD i []).getD k 0)
theorem lowK_le (rs : List (List Int)) (k : Nat) : ∀ i j : Nat, j < i → lowK rs k i ≤ (rs.getD j []).getD k 0
  | 0, j, h => absurd h (by omega)
  | i + 1, j, h => by
    show min (lowK rs k i) ((rs.getD i []).getD k 0) ≤ _
    by_cases e : j = i
    · rw [e]; omega
    · have := lowK_le rs k i j (by omega)
      omega
theorem topK_ge (rs : List (List Int)) (k : Nat) : ∀ i j : Nat, j < i → (rs.getD j []).getD k 0 ≤ topK rs k i
  | 0, j, h => absurd h (by omega)
  | i + 1, j, h => by
    show _ ≤ max (topK rs k i) ((rs.getD i []).getD k 0)
    by_cases e : j = i
    · rw [e]; omega
    · have := topK_ge rs k i j (by omega)
      omega
theorem lowK_in (rs : List (List Int)) (k : Nat) (h : ∀ j, j < rs.length → -32767 ≤ (rs.getD j []).getD k 0) (h0 : 0 < rs.length) : ∀ i : Nat, i ≤ rs.length → -32767 ≤ lowK rs k i
  | 0, _ => h 0 h0
  | i + 1, hi => by
    have h1 := lowK_in rs k h h0 i (by omega)
    have h2 := h i (by omega)
    show -32767 ≤ min (lowK rs k i) ((rs.getD i []).getD k 0)
    omega
theorem topK_in (rs : List (List Int)) (k : Nat) (h : ∀ j, j < rs.length → (rs.getD j []).getD k 0 ≤ 32767) (h0 : 0 < rs.length) : ∀ i : Nat, i ≤ rs.length → topK rs k i ≤ 32767
  | 0, _ => h 0 h0
  | i + 1, hi => by
    have h1 := topK_in rs k h h0 i (by omega)
    have h2 := h i (by omega)
    show max (topK rs k i) ((rs.getD i []).getD k 0) ≤ 32767
    omega
/-- The law's own: a mix lies from the least to the greatest. -/
theorem mix_within {m : Int} {ws : List Int} {rs : List (List Int)} {n k : Nat} (hk : k < n) (hl : ws.length = rs.length) (hw : InW m ws) (hs : 0 < total ws) (h0 : 0 < rs.length)
    (ha : ∀ j, j < rs.length → -32767 ≤ (rs.getD j []).getD k 0 ∧ (rs.getD j []).getD k 0 ≤ 32767) : lowK rs k rs.length ≤ (mixL ws rs n).getD k 0 ∧ (mixL ws rs n).getD k 0 ≤ topK rs k rs.length := by
  refine mix_between hk hl hw hs (fun r hr => ?_) (lowK_in rs k (fun j hj => (ha j hj).1) h0 _ (Nat.le_refl _)) (topK_in rs k (fun j hj => (ha j hj).2) h0 _ (Nat.le_refl _))
  obtain ⟨j, hj, rfl⟩ := List.mem_iff_getElem.1 hr
  have e : rs.getD j [] = rs[j] := by rw [List.getD_eq_getElem?_getD, List.getElem?_eq_getElem hj]; rfl
  have h1 := lowK_le rs k rs.length j hj
  have h2 := topK_ge rs k rs.length j hj
  have h3 := ha j hj
  rw [e] at h1 h2 h3
  rw [c30_act h3]
  exact ⟨h1, h2⟩
end Go.Proofs.Ytlapinecmiacoaa.Sf
