/-
  Plain numbers of layer 12: a mix of rows by weights: what it is, its bounds, and that it lies between what is mixed. No program here. No conditions but those of each lemma.
-/
import Derived.Test.YtgoeaepjffimgaaSfMath
namespace Go.Proofs.Ytgoeaepjffimgaa.Sf
open Go.RowKit Nm

/-- The sum of weights times numbers, in one place. -/
def numer : List Int → List (List Int) → Nat → Int
  | w :: ws, r :: rs, k => w * c30 (r.getD k 0) + numer ws rs k
  | _, _, _ => 0
def total (ws : List Int) : Int := ws.foldl (· + ·) 0
def mixL (ws : List Int) (rs : List (List Int)) (n : Nat) : List Int := (List.range n).map fun k => sat ((numer ws rs k).tdiv (total ws))
/-- Whether weights are from 0 to m. -/
def InW (m : Int) (ws : List Int) : Prop := ∀ i, i < ws.length → 0 ≤ ws.getD i 0 ∧ ws.getD i 0 ≤ m
theorem numer_cons (w : Int) (ws : List Int) (r : List Int) (rs : List (List Int)) (k : Nat) : numer (w :: ws) (r :: rs) k = w * c30 (r.getD k 0) + numer ws rs k := rfl
theorem numer_nil (ws : List Int) (k : Nat) : numer ws [] k = 0 := by cases ws <;> rfl
theorem foldl_add (ws : List Int) : ∀ t : Int, ws.foldl (· + ·) t = t + total ws := by
  unfold total
  induction ws with
  | nil => intro t; simp
  | cons w ws ih =>
    intro t
    rw [List.foldl_cons, List.foldl_cons, ih (t + w), ih (0 + w)]
    omega
theorem total_cons (w : Int) (ws : List Int) : total (w :: ws) = w + total ws := by
  show (w :: ws).foldl (· + ·) 0 = _
  rw [List.foldl_cons, foldl_add, Int.zero_add]
theorem total_next (ws : List Int) (i : Nat) (h : i < ws.length) : total (ws.take (i + 1)) = total (ws.take i) + ws.getD i 0 := by
  unfold total
  rw [List.take_succ_eq_append_getElem h, List.foldl_append, List.getD_eq_getElem?_getD, List.getElem?_eq_getElem h]
  rfl
theorem total_all (ws : List Int) {i : Nat} (h : ws.length ≤ i) : total (ws.take i) = total ws := by rw [List.take_of_length_le h]
theorem numer_next : ∀ (ws : List Int) (rs : List (List Int)) (k i : Nat), i < ws.length → i < rs.length → numer (ws.take (i + 1)) (rs.take (i + 1)) k = numer (ws.take i) (rs.take i) k + ws.getD i 0 * c30 ((rs.getD i []).getD k 0)
  | [], _, _, _, h, _ => absurd h (by simp)
  | _ :: _, [], _, _, _, h => absurd h (by simp)
  | w :: ws, r :: rs, k, 0, _, _ => by
    show w * c30 (r.getD k 0) + 0 = 0 + w * c30 (r.getD k 0)
    omega
  | w :: ws, r :: rs, k, i + 1, h1, h2 => by
    have := numer_next ws rs k i (by simpa using h1) (by simpa using h2)
    show w * c30 (r.getD k 0) + numer (ws.take (i + 1)) (rs.take (i + 1)) k = w * c30 (r.getD k 0) + numer (ws.take i) (rs.take i) k + ws.getD i 0 * c30 ((rs.getD i []).getD k 0)
    rw [this]
    omega
theorem numer_all (ws : List Int) (rs : List (List Int)) (k : Nat) {i : Nat} (h1 : ws.length ≤ i) (h2 : rs.length ≤ i) : numer (ws.take i) (rs.take i) k = numer ws rs k := by rw [List.take_of_length_le h1, List.take_of_length_le h2]
theorem inW_cons {m w : Int} {ws : List Int} (h : InW m (w :: ws)) : (0 ≤ w ∧ w ≤ m) ∧ InW m ws :=
  ⟨h 0 (by simp), fun i hi => h (i + 1) (by simpa using hi)⟩
theorem inW_take {m : Int} {ws : List Int} (h : InW m ws) (i : Nat) : InW m (ws.take i) := fun j hj => by
  rw [List.length_take] at hj
  have := h j (by omega)
  rwa [List.getD_eq_getElem?_getD, List.getElem?_take_of_lt (by omega), ← List.getD_eq_getElem?_getD]
theorem total_in {m : Int} (hm : 0 ≤ m) : ∀ ws : List Int, InW m ws → 0 ≤ total ws ∧ total ws ≤ m * ws.length
  | [], _ => by simp [total]
  | w :: ws, h => by
    obtain ⟨h1, h2⟩ := inW_cons h
    have := total_in hm ws h2
    rw [total_cons, List.length_cons, Int.natCast_add, Int.mul_add]
    omega
theorem total_zero {m : Int} : ∀ ws : List Int, InW m ws → total ws = 0 → ∀ i, i < ws.length → ws.getD i 0 = 0
  | [], _, _, i, hi => absurd hi (by simp)
  | w :: ws, h, h0, i, hi => by
    obtain ⟨h1, h2⟩ := inW_cons h
    have h3 : 0 ≤ total ws := by
      have hm : 0 ≤ m := by omega
      exact (total_in hm ws h2).1
    rw [total_cons] at h0
    cases i with
    | zero => show w = 0; omega
    | succ i => exact total_zero ws h2 (by omega) i (by simpa using hi)
theorem term_in {m w x : Int} (hw : 0 ≤ w ∧ w ≤ m) (hx : -1073741824 ≤ x ∧ x ≤ 1073741824) : -(1073741824 * m) ≤ w * x ∧ w * x ≤ 1073741824 * m := by
  have e := Int.natAbs_mul w x
  have := Nat.mul_le_mul (show w.natAbs ≤ m.natAbs by omega) (show x.natAbs ≤ 1073741824 by omega)
  rw [← e] at this
  omega
theorem numer_in {m : Int} (hm : 0 ≤ m) : ∀ (ws : List Int) (rs : List (List Int)) (k : Nat), InW m ws → -(1073741824 * m * ws.length) ≤ numer ws rs k ∧ numer ws rs k ≤ 1073741824 * m * ws.length
  | [], _, _, _ => by simp [numer]
  | w :: ws, [], k, _ => by
    rw [numer_nil]
    have h1 : 0 ≤ 1073741824 * m * ((w :: ws).length : Int) := Int.mul_nonneg (by omega) (by omega)
    omega
  | w :: ws, r :: rs, k, h => by
    obtain ⟨h1, h2⟩ := inW_cons h
    have h3 := numer_in hm ws rs k h2
    have h4 := term_in h1 (c30_in (r.getD k 0))
    rw [numer_cons, List.length_cons, Int.natCast_add, Int.mul_add]
    omega
/-- A quotient towards nought lies between what bounds it. -/
theorem tdiv_between {n s lo hi : Int} (hs : 0 < s) (h1 : lo * s ≤ n) (h2 : n ≤ hi * s) : lo ≤ n.tdiv s ∧ n.tdiv s ≤ hi := by
  have e := Int.mul_tdiv_add_tmod n s
  have hm : s * n.tdiv s = n.tdiv s * s := Int.mul_comm _ _
  by_cases hn : 0 ≤ n
  · have hr := Int.tmod_nonneg s hn
    have hr2 := Int.tmod_lt_of_pos n hs
    constructor
    · apply Int.not_lt.1
      intro h
      have := Int.mul_le_mul_of_nonneg_right (show n.tdiv s + 1 ≤ lo by omega) (show 0 ≤ s by omega)
      rw [Int.add_mul] at this
      omega
    · apply Int.not_lt.1
      intro h
      have := Int.mul_le_mul_of_nonneg_right (show hi + 1 ≤ n.tdiv s by omega) (show 0 ≤ s by omega)
      rw [Int.add_mul] at this
      omega
  · have hr : n.tmod s ≤ 0 := by
      have := Int.tmod_nonneg s (show 0 ≤ -n by omega)
      rw [Int.neg_tmod] at this
      omega
    have hr2 : -s < n.tmod s := by
      have := Int.tmod_lt_of_pos (-n) hs
      rw [Int.neg_tmod] at this
      omega
    constructor
    · apply Int.not_lt.1
      intro h
      have := Int.mul_le_mul_of_nonneg_right (show n.tdiv s + 1 ≤ lo by omega) (show 0 ≤ s by omega)
      rw [Int.add_mul] at this
      omega
    · apply Int.not_lt.1
      intro h
      have := Int.mul_le_mul_of_nonneg_right (show hi + 1 ≤ n.tdiv s by omega) (show 0 ≤ s by omega)
      rw [Int.add_mul] at this
      omega
theorem tdiv_fits' {n s : Int} (hn : Fits n) (hs : 0 < s) : Fits (n.tdiv s) := by
  unfold Fits at *
  have h1 := tdiv_between (n := n) (s := s) (lo := -9223372036854775808) (hi := 9223372036854775807) hs
    (by omega) (by omega)
  exact h1
/-- Rows whose numbers in a place lie between two. -/
def Between (rs : List (List Int)) (k : Nat) (lo hi : Int) : Prop := ∀ r ∈ rs, lo ≤ c30 (r.getD k 0) ∧ c30 (r.getD k 0) ≤ hi
theorem numer_between {m lo hi : Int} : ∀ (ws : List Int) (rs : List (List Int)) (k : Nat), ws.length = rs.length → InW m ws → Between rs k lo hi → lo * total ws ≤ numer ws rs k ∧ numer ws rs k ≤ hi * total ws
  | [], [], _, _, _, _ => by simp [numer, total]
  | [], _ :: _, _, h, _, _ => by simp at h
  | _ :: _, [], _, h, _, _ => by simp at h
  | w :: ws, r :: rs, k, h, hw, hb => by
    obtain ⟨h1, h2⟩ := inW_cons hw
    have h3 := numer_between ws rs k (by simpa using h) h2 (fun q hq => hb q (by simp [hq]))
    have h4 := hb r (by simp)
    have h5 := Int.mul_le_mul_of_nonneg_left h4.1 h1.1
    have h6 := Int.mul_le_mul_of_nonneg_left h4.2 h1.1
    rw [numer_cons, total_cons, Int.mul_add, Int.mul_add, Int.mul_comm lo w, Int.mul_comm hi w]
    omega
theorem mixL_length (ws : List Int) (rs : List (List Int)) (n : Nat) : (mixL ws rs n).length = n := by simp [mixL]
theorem mixL_at (ws : List Int) (rs : List (List Int)) (n k : Nat) (h : k < n) : (mixL ws rs n).getD k 0 = sat ((numer ws rs k).tdiv (total ws)) := by
  unfold mixL
  rw [List.getD_eq_getElem?_getD, List.getElem?_map, List.getElem?_range h]
  rfl
theorem mix_between {m lo hi : Int} {ws : List Int} {rs : List (List Int)} {n k : Nat} (hk : k < n) (hl : ws.length = rs.length) (hw : InW m ws) (hs : 0 < total ws) (hb : Between rs k lo hi) (hlo : -32767 ≤ lo) (hhi : hi ≤ 32767) :
    lo ≤ (mixL ws rs n).getD k 0 ∧ (mixL ws rs n).getD k 0 ≤ hi := by
  have h1 := numer_between ws rs k hl hw hb
  have h2 := tdiv_between hs h1.1 h1.2
  rw [mixL_at _ _ _ _ hk]
  have : sat ((numer ws rs k).tdiv (total ws)) = (numer ws rs k).tdiv (total ws) := by
    unfold sat clamp
    rw [if_neg (by omega), if_neg (by omega)]
  rw [this]
  exact h2
/-- Weights twice as great. -/
def dbl (ws : List Int) : List Int := ws.map fun w => 2 * w
theorem dbl_length (ws : List Int) : (dbl ws).length = ws.length := by simp [dbl]
theorem total_dbl : ∀ ws : List Int, total (dbl ws) = 2 * total ws
  | [] => rfl
  | w :: ws => by
    show total (2 * w :: dbl ws) = _
    rw [total_cons, total_cons, total_dbl ws]
    omega
theorem numer_dbl : ∀ (ws : List Int) (rs : List (List Int)) (k : Nat), numer (dbl ws) rs k = 2 * numer ws rs k
  | [], _, _ => by simp [dbl, numer]
  | w :: ws, [], k => by rw [numer_nil, numer_nil]; rfl
  | w :: ws, r :: rs, k => by
    show numer (2 * w :: dbl ws) (r :: rs) k = _
    rw [numer_cons, numer_cons, numer_dbl ws rs k, Int.mul_assoc]
    omega
theorem mix_dbl (ws : List Int) (rs : List (List Int)) (n : Nat) : mixL (dbl ws) rs n = mixL ws rs n := by
  unfold mixL
  refine List.map_congr_left fun k _ => ?_
  rw [numer_dbl, total_dbl, Int.mul_tdiv_mul_of_pos _ _ (by omega)]
/-- One row alone. -/
theorem mix_one {r : List Int} (h : ∀ i, i < r.length → -32767 ≤ r.getD i 0 ∧ r.getD i 0 ≤ 32767) : mixL [5] [r] r.length = r := by
  apply List.ext_getElem (by rw [mixL_length])
  intro i h1 h2
  have e := mixL_at [5] [r] r.length i h2
  rw [List.getD_eq_getElem?_getD, List.getElem?_eq_getElem h1] at e
  show (mixL [5] [r] r.length)[i] = r[i]
  rw [show (mixL [5] [r] r.length)[i] = _ from e]
  have hb := h i h2
  have e2 : numer [5] [r] i = 5 * r.getD i 0 := by
    show 5 * c30 (r.getD i 0) + 0 = _
    rw [c30_act hb]
    omega
  rw [e2, show total [5] = 5 from rfl, Int.mul_tdiv_cancel_left _ (by omega)]
  unfold sat clamp
  rw [if_neg (by omega), if_neg (by omega), List.getD_eq_getElem?_getD, List.getElem?_eq_getElem h2]
  rfl
/-- The least and the greatest of the first i rows' numbers in a place. -/
def lowK (rs : List (List Int)) (k : Nat) : Nat → Int
  | 0 => (rs.getD 0 []).getD k 0
  | i + 1 => min (lowK rs k i) ((rs.getD i []).getD k 0)
def topK (rs : List (List Int)) (k : Nat) : Nat → Int
  | 0 => (rs.getD 0 []).getD k 0
  | i + 1 => max (topK rs k i) ((rs.getD i []).getD k 0)
theorem lowK_le (rs : List (List Int)) (k : Nat) : ∀ i j : Nat, j < i → lowK rs k i ≤ (rs.getD j []).getD k 0
  | 0, j, h => absurd h (by omega)
  | i + 1, j, h => by
    show min (lowK rs k i) ((rs.getD i []).getD k 0) ≤ _
    by_cases e : j = i
    · rw [e]; omega
    · have := lowK_le rs k i j (by omega)
      omega
theorem topK_ge (rs : List (List Int)) (k : Nat) : ∀ i j : Nat, j < i → (rs.getD j []).getD k 0 ≤ topK rs k i
  | 0, j, h => absurd h (by omega)
  | i + 1, j, h => by
    show _ ≤ max (topK rs k i) ((rs.getD i []).getD k 0)
    by_cases e : j = i
    · rw [e]; omega
    · have := topK_ge rs k i j (by omega)
      omega
theorem lowK_in (rs : List (List Int)) (k : Nat) (h : ∀ j, j < rs.length → -32767 ≤ (rs.getD j []).getD k 0) (h0 : 0 < rs.length) : ∀ i : Nat, i ≤ rs.length → -32767 ≤ lowK rs k i
  | 0, _ => h 0 h0
  | i + 1, hi => by
    have h1 := lowK_in rs k h h0 i (by omega)
    have h2 := h i (by omega)
    show -32767 ≤ min (lowK rs k i) ((rs.getD i []).getD k 0)
    omega
theorem topK_in (rs : List (List Int)) (k : Nat) (h : ∀ j, j < rs.length → (rs.getD j []).getD k 0 ≤ 32767) (h0 : 0 < rs.length) : ∀ i : Nat, i ≤ rs.length → topK rs k i ≤ 32767
  | 0, _ => h 0 h0
  | i + 1, hi => by
    have h1 := topK_in rs k h h0 i (by omega)
    have h2 := h i (by omega)
    show max (topK rs k i) ((rs.getD i []).getD k 0) ≤ 32767
    omega
/-- The law's own: a mix lies from the least to the greatest. -/
theorem mix_within {m : Int} {ws : List Int} {rs : List (List Int)} {n k : Nat} (hk : k < n) (hl : ws.length = rs.length) (hw : InW m ws) (hs : 0 < total ws) (h0 : 0 < rs.length)
    (ha : ∀ j, j < rs.length → -32767 ≤ (rs.getD j []).getD k 0 ∧ (rs.getD j []).getD k 0 ≤ 32767) : lowK rs k rs.length ≤ (mixL ws rs n).getD k 0 ∧ (mixL ws rs n).getD k 0 ≤ topK rs k rs.length := by
  refine mix_between hk hl hw hs (fun r hr => ?_) (lowK_in rs k (fun j hj => (ha j hj).1) h0 _ (Nat.le_refl _)) (topK_in rs k (fun j hj => (ha j hj).2) h0 _ (Nat.le_refl _))
  obtain ⟨j, hj, rfl⟩ := List.mem_iff_getElem.1 hr
  have e : rs.getD j [] = rs[j] := by rw [List.getD_eq_getElem?_getD, List.getElem?_eq_getElem hj]; rfl
  have h1 := lowK_le rs k rs.length j hj
  have h2 := topK_ge rs k rs.length j hj
  have h3 := ha j hj
  rw [e] at h1 h2 h3
  rw [c30_act h3]
  exact ⟨h1, h2⟩
end Go.Proofs.Ytgoeaepjffimgaa.Sf
