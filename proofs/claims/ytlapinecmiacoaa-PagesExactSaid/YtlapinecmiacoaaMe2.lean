/-
  Pages in plain words: versions, users, entries; who takes, shares, drops, puts; what is free, and whose pages are. No program here. No conditions.
-/
import Derived.Test.YtlapinecmiacoaaMe1
set_option maxRecDepth 100000
namespace Go.Proofs.Ytlapinecmiacoaa

namespace Pg
structure Page (α : Type) where
  v : Int
  u : Nat
  l : List α
/-- A free one. -/
def fr {α : Type} : Page α := ⟨0, 0, []⟩
section
variable {α : Type} {n : Nat} {P Q : Nat → Page α}
def isP (n : Nat) (P : Nat → Page α) (x : Int) : Bool := decide (0 ≤ x) && (decide (x < (n : Int)) && decide (0 < (P x.toNat).u))
theorem is_iff {x : Int} : isP n P x = true ↔ 0 ≤ x ∧ x < (n : Int) ∧ 0 < (P x.toNat).u := by unfold isP; simp only [Bool.and_eq_true, decide_eq_true_iff]
theorem is_nat {i : Nat} (h : i < n) : isP n P (i : Int) = decide (0 < (P i).u) := by
  unfold isP
  rw [decide_eq_true (by omega), decide_eq_true (by omega), Int.toNat_natCast]
  rfl
def updP (P : Nat → Page α) (k : Nat) (g : Page α) (i : Nat) : Page α := if i = k then g else P i
theorem upd_at (k : Nat) (g : Page α) : updP P k g k = g := if_pos rfl
theorem upd_off {k i : Nat} (g : Page α) (h : i ≠ k) : updP P k g i = P i := if_neg h
/-- What always holds: a free page has nothing; the others are a version's, and have four entries at most. -/
structure Inv (n : Nat) (P : Nat → Page α) : Prop where
  free : ∀ i, i < n → (P i).u = 0 → P i = fr
  ver : ∀ i, i < n → 0 < (P i).u → 1 ≤ (P i).v ∧ (P i).v ≤ 2147483647
  few : ∀ i, i < n → (P i).l.length ≤ 4
/-- No page has more users than so many. -/
def Bnd (P : Nat → Page α) (k : Nat) : Prop := ∀ i, (P i).u ≤ k
theorem inv_new : Inv n (fun _ => (fr : Page α)) := ⟨fun _ _ _ => rfl, fun _ _ h => absurd h (Nat.lt_irrefl 0), fun _ _ => Nat.zero_le _⟩

/-! Take -/
def verP (v : Int) : Bool := decide (1 ≤ v) && decide (v ≤ 2147483647)
theorem ver_iff {v : Int} : verP v = true ↔ 1 ≤ v ∧ v ≤ 2147483647 := by unfold verP; simp only [Bool.and_eq_true, decide_eq_true_iff]
/-- The lowest free one; n: there is none. -/
def lowP (P : Nat → Page α) : Nat → Nat
  | 0 => 0
  | n + 1 => if lowP P n = n then (if (P n).u = 0 then n else n + 1) else lowP P n
theorem low_le (P : Nat → Page α) : ∀ n, lowP P n ≤ n
  | 0 => Nat.le_refl _
  | n + 1 => by
    rw [lowP]
    have := low_le P n
    split
    · split <;> omega
    · omega
theorem low_used (P : Nat → Page α) : ∀ n i, i < lowP P n → (P i).u ≠ 0
  | 0, i, h => absurd h (Nat.not_lt_zero _)
  | n + 1, i, h => by
    rw [lowP] at h
    split at h
    · rename_i he
      split at h
      · exact low_used P n i (by omega)
      · rename_i hu
        by_cases hi : i = n
        · rw [hi]; exact hu
        · exact low_used P n i (by omega)
    · exact low_used P n i h
theorem low_free (P : Nat → Page α) : ∀ n, lowP P n < n → (P (lowP P n)).u = 0
  | 0, h => absurd h (Nat.not_lt_zero _)
  | n + 1, h => by
    have hd : lowP P (n + 1) = if lowP P n = n then (if (P n).u = 0 then n else n + 1) else lowP P n := rfl
    by_cases he : lowP P n = n
    · rw [if_pos he] at hd
      by_cases hu : (P n).u = 0
      · rw [if_pos hu] at hd
        rw [hd]
        exact hu
      · rw [if_neg hu] at hd
        omega
    · rw [if_neg he] at hd
      rw [hd]
      exact low_free P n (by have := low_le P n; omega)
theorem low_at {i : Nat} (hi : i < n) (hu : (P i).u = 0) (hb : ∀ j, j < i → (P j).u ≠ 0) : lowP P n = i := by
  rcases Nat.lt_trichotomy (lowP P n) i with h | h | h
  · exact absurd (low_free P n (by omega)) (hb _ h)
  · exact h
  · exact absurd hu (low_used P n i h)
theorem low_none (hb : ∀ j, j < n → (P j).u ≠ 0) : lowP P n = n := by
  have := low_le P n
  by_cases h : lowP P n < n
  · exact absurd (low_free P n h) (hb _ h)
  · omega
def takeI (n : Nat) (P : Nat → Page α) (v : Int) : Int := if verP v = true ∧ lowP P n < n then (lowP P n : Int) else 0
def takeE (n : Nat) (P : Nat → Page α) (v : Int) : Int := if verP v = true then (if lowP P n < n then 0 else 11) else 1
def takeS (n : Nat) (P : Nat → Page α) (v : Int) : Nat → Page α := if verP v = true ∧ lowP P n < n then updP P (lowP P n) ⟨v, 1, []⟩ else P
theorem inv_take (h : Inv n P) (v : Int) : Inv n (takeS n P v) := by
  unfold takeS
  split
  · rename_i hv
    have hv' := ver_iff.1 hv.1
    refine ⟨fun i hi hu => ?_, fun i hi hu => ?_, fun i hi => ?_⟩
    all_goals by_cases he : i = lowP P n
    · rw [he, upd_at] at hu; cases hu
    · rw [upd_off _ he] at hu ⊢; exact h.free i hi hu
    · rw [he, upd_at]; exact hv'
    · rw [upd_off _ he] at hu ⊢; exact h.ver i hi hu
    · rw [he, upd_at]; exact Nat.zero_le _
    · rw [upd_off _ he]; exact h.few i hi
  · exact h
theorem bnd_take {k : Nat} (h : Bnd P k) (hk : 1 ≤ k) (v : Int) : Bnd (takeS n P v) k := fun i => by
  unfold takeS
  split
  · by_cases he : i = lowP P n
    · rw [he, upd_at]; exact hk
    · rw [upd_off _ he]; exact h i
  · exact h i

/-! Share, Drop -/
/-- How often a page stands in a row. -/
def cntI (xs : List Int) (i : Nat) : Nat := xs.count (i : Int)
theorem cnt_le (xs : List Int) (i : Nat) : cntI xs i ≤ xs.length := List.count_le_length
theorem cnt_take {xs : List Int} {j : Nat} (hj : j < xs.length) (i : Nat) : cntI (xs.take (j + 1)) i = cntI (xs.take j) i + if xs[j] = (i : Int) then 1 else 0 := by
  unfold cntI
  rw [List.take_succ_eq_append_getElem hj, List.count_append, List.count_singleton]
  congr 1
  by_cases h : xs[j] = (i : Int)
  · rw [if_pos h, if_pos (by simp [h])]
  · rw [if_neg h, if_neg (by simp [h])]
theorem cnt_mono (xs : List Int) (j i : Nat) : cntI (xs.take j) i ≤ cntI xs i := by
  unfold cntI
  exact (List.take_sublist j xs).count_le _
theorem cnt_none {xs : List Int} {i : Nat} (h : (i : Int) ∉ xs) : cntI xs i = 0 := List.count_eq_zero_of_not_mem h
theorem cnt_mem {xs : List Int} {i : Nat} (h : 0 < cntI xs i) : (i : Int) ∈ xs := List.count_pos_iff.1 h
def shareB (n : Nat) (P : Nat → Page α) (xs : List Int) : Bool := xs.all (isP n P)
def dropB (n : Nat) (P : Nat → Page α) (xs : List Int) : Bool := xs.all fun x => isP n P x && decide (cntI xs x.toNat ≤ (P x.toNat).u)
theorem share_iff {xs : List Int} : shareB n P xs = true ↔ ∀ x ∈ xs, isP n P x = true := List.all_eq_true
theorem drop_iff {xs : List Int} : dropB n P xs = true ↔ ∀ x ∈ xs, isP n P x = true ∧ cntI xs x.toNat ≤ (P x.toNat).u := by
  unfold dropB
  simp only [List.all_eq_true, Bool.and_eq_true, decide_eq_true_iff]
/-- So many users more, or less, one after the other. -/
def moreS (P : Nat → Page α) (xs : List Int) (i : Nat) : Page α := { P i with u := (P i).u + cntI xs i }
def fewS (P : Nat → Page α) (xs : List Int) (i : Nat) : Page α := { P i with u := (P i).u - cntI xs i }
/-- A page without users is free. -/
def clrS (P : Nat → Page α) (i : Nat) : Page α := if (P i).u = 0 then fr else P i
theorem clr_inv (h : Inv n P) {i : Nat} (hi : i < n) : clrS P i = P i := by
  unfold clrS
  split
  · rename_i hu
    exact (h.free i hi hu).symm
  · rfl
def shareE (n : Nat) (P : Nat → Page α) (xs : List Int) : Int := if shareB n P xs = true then 0 else 8
def shareS (n : Nat) (P : Nat → Page α) (xs : List Int) : Nat → Page α := if shareB n P xs = true then moreS P xs else P
def dropE (n : Nat) (P : Nat → Page α) (xs : List Int) : Int := if dropB n P xs = true then 0 else 8
def dropS (n : Nat) (P : Nat → Page α) (xs : List Int) : Nat → Page α := if dropB n P xs = true then clrS (fewS P xs) else P
/-- One more of the row is there to be shared; one isn't. -/
theorem share_next {xs : List Int} {j : Nat} (hj : j < xs.length) (h : shareB n P (xs.take j) = true) (hx : isP n P xs[j] = true) : shareB n P (xs.take (j + 1)) = true := share_iff.2 fun x hm => by
  rw [List.take_succ_eq_append_getElem hj, List.mem_append, List.mem_singleton] at hm
  rcases hm with hm | rfl
  · exact share_iff.1 h x hm
  · exact hx
theorem share_not {xs : List Int} {j : Nat} (hj : j < xs.length) (hx : isP n P xs[j] = false) : shareB n P xs = false := Bool.eq_false_iff.2 fun h => by
  rw [share_iff.1 h _ (List.getElem_mem hj)] at hx
  cases hx
/-- The same of what is dropped. -/
theorem drop_next {xs : List Int} {j : Nat} (hj : j < xs.length) (h : dropB n P (xs.take j) = true) (hx : isP n P xs[j] = true) (hu : cntI (xs.take j) xs[j].toNat < (P xs[j].toNat).u) : dropB n P (xs.take (j + 1)) = true := drop_iff.2 fun x hm => by
  have hx0 := (is_iff.1 hx).1
  have key : ∀ y : Int, 0 ≤ y → isP n P y = true → (y ∈ xs.take j ∨ y = xs[j]) → cntI (xs.take (j + 1)) y.toNat ≤ (P y.toNat).u := fun y hy0 hy hm => by
    rw [cnt_take hj]
    by_cases he : xs[j] = ((y.toNat : Nat) : Int)
    · rw [if_pos he]
      have : y = xs[j] := by omega
      rw [this]
      omega
    · rw [if_neg he]
      rcases hm with hm | hm
      · exact ((drop_iff.1 h) y hm).2
      · omega
  rw [List.take_succ_eq_append_getElem hj, List.mem_append, List.mem_singleton] at hm
  rcases hm with hm | rfl
  · have hp := ((drop_iff.1 h) x hm).1
    exact ⟨hp, key x (is_iff.1 hp).1 hp (.inl hm)⟩
  · exact ⟨hx, key _ hx0 hx (.inr rfl)⟩
theorem drop_not {xs : List Int} {j : Nat} (hj : j < xs.length) (hx : isP n P xs[j] = false ∨ (0 ≤ xs[j] ∧ (P xs[j].toNat).u ≤ cntI (xs.take j) xs[j].toNat)) : dropB n P xs = false := Bool.eq_false_iff.2 fun h => by
  obtain ⟨h1, h2⟩ := drop_iff.1 h _ (List.getElem_mem hj)
  rcases hx with hx | ⟨h0, hx⟩
  · rw [h1] at hx; cases hx
  · have h3 := cnt_mono xs (j + 1) xs[j].toNat
    rw [cnt_take hj, if_pos (by omega)] at h3
    omega
theorem inv_share (h : Inv n P) (xs : List Int) : Inv n (shareS n P xs) := by
  unfold shareS
  split
  · rename_i hb
    have key : ∀ i, i < n → (P i).u = 0 → cntI xs i = 0 := fun i hi hu => cnt_none fun hm => by
      have := (is_iff.1 (share_iff.1 hb _ hm)).2.2
      rw [Int.toNat_natCast] at this
      omega
    refine ⟨fun i hi hu => ?_, fun i hi hu => ?_, h.few⟩
    · have h0 : (P i).u = 0 := by
        have : (P i).u + cntI xs i = 0 := hu
        omega
      have hc := key i hi h0
      have hf := h.free i hi h0
      unfold moreS
      rw [hc, hf]
      rfl
    · by_cases h0 : (P i).u = 0
      · have hc := key i hi h0
        have : 0 < (P i).u + cntI xs i := hu
        omega
      · exact h.ver i hi (by omega)
  · exact h
theorem inv_drop (h : Inv n P) (xs : List Int) : Inv n (dropS n P xs) := by
  unfold dropS
  split
  · refine ⟨fun i hi hu => ?_, fun i hi hu => ?_, fun i hi => ?_⟩
    all_goals unfold clrS at *
    · split
      · rfl
      · rename_i h0
        rw [if_neg h0] at hu
        exact absurd hu h0
    · by_cases h0 : (fewS P xs i).u = 0
      · rw [if_pos h0] at hu
        cases hu
      · rw [if_neg h0]
        have h1 : (P i).u - cntI xs i ≠ 0 := h0
        exact h.ver i hi (by omega)
    · split
      · exact Nat.zero_le _
      · exact h.few i hi
  · exact h
theorem bnd_share {k : Nat} (h : Bnd P k) (xs : List Int) : Bnd (shareS n P xs) (k + xs.length) := fun i => by
  unfold shareS
  split
  · have h1 := h i
    have h2 := cnt_le xs i
    show (P i).u + cntI xs i ≤ _
    omega
  · have := h i
    omega
theorem bnd_drop {k : Nat} (h : Bnd P k) (xs : List Int) : Bnd (dropS n P xs) k := fun i => by
  unfold dropS
  split
  · unfold clrS
    split
    · exact Nat.zero_le _
    · have := h i
      show (P i).u - cntI xs i ≤ k
      omega
  · exact h i

/-! Put, Get -/
def putE (n : Nat) (P : Nat → Page α) (x : Int) : Int := if isP n P x = true then (if 1 < (P x.toNat).u then 7 else if 4 ≤ (P x.toNat).l.length then 10 else 0) else 8
def putS (n : Nat) (P : Nat → Page α) (x : Int) (e : α) : Nat → Page α := if putE n P x = 0 then updP P x.toNat { P x.toNat with l := (P x.toNat).l ++ [e] } else P
theorem put_zero {x : Int} (h : putE n P x = 0) : isP n P x = true ∧ (P x.toNat).u = 1 ∧ (P x.toNat).l.length < 4 := by
  unfold putE at h
  split at h
  · rename_i hp
    have := (is_iff.1 hp).2.2
    split at h
    · cases h
    · split at h
      · cases h
      · exact ⟨hp, by omega, by omega⟩
  · cases h
theorem inv_put (h : Inv n P) (x : Int) (e : α) : Inv n (putS n P x e) := by
  unfold putS
  split
  · rename_i h0
    obtain ⟨h1, h2, h3⟩ := put_zero h0
    have hi1 := is_iff.1 h1
    refine ⟨fun i hi hu => ?_, fun i hi hu => ?_, fun i hi => ?_⟩
    all_goals by_cases he : i = x.toNat
    · rw [he, upd_at] at hu
      have : (P x.toNat).u = 0 := hu
      omega
    · rw [upd_off _ he] at hu ⊢; exact h.free i hi hu
    · rw [he, upd_at]; exact h.ver _ (by omega) (by omega)
    · rw [upd_off _ he] at hu ⊢; exact h.ver i hi hu
    · rw [he, upd_at]
      show ((P x.toNat).l ++ [e]).length ≤ 4
      rw [List.length_append, List.length_singleton]
      omega
    · rw [upd_off _ he]; exact h.few i hi
  · exact h
theorem bnd_put {k : Nat} (h : Bnd P k) (x : Int) (e : α) : Bnd (putS n P x e) k := fun i => by
  unfold putS
  split
  · by_cases he : i = x.toNat
    · rw [he, upd_at]; exact h x.toNat
    · rw [upd_off _ he]; exact h i
  · exact h i
def getL (n : Nat) (P : Nat → Page α) (xs : List Int) : List α := xs.flatMap fun x => if isP n P x = true then (P x.toNat).l else []
theorem get_next {xs : List Int} {j : Nat} (hj : j < xs.length) : getL n P (xs.take (j + 1)) = getL n P (xs.take j) ++ if isP n P xs[j] = true then (P xs[j].toNat).l else [] := by
  unfold getL
  rw [List.take_succ_eq_append_getElem hj, List.flatMap_append, List.flatMap_cons, List.flatMap_nil, List.append_nil]
theorem get_few (h : Inv n P) (xs : List Int) : (getL n P xs).length ≤ 4 * xs.length := by
  unfold getL
  induction xs with
  | nil => exact Nat.le_refl _
  | cons x xs ih =>
    rw [List.flatMap_cons, List.length_append, List.length_cons]
    have : (if isP n P x = true then (P x.toNat).l else []).length ≤ 4 := by
      split
      · rename_i hp
        have := is_iff.1 hp
        exact h.few _ (by omega)
      · exact Nat.zero_le _
    omega

/-! Version, Users, Free, Of -/
def verI (n : Nat) (P : Nat → Page α) (x : Int) : Int := if isP n P x = true then (P x.toNat).v else 0
def usrI (n : Nat) (P : Nat → Page α) (x : Int) : Nat := if isP n P x = true then (P x.toNat).u else 0
def freeN (P : Nat → Page α) : Nat → Nat
  | 0 => 0
  | n + 1 => freeN P n + if (P n).u = 0 then 1 else 0
def ofB (P : Nat → Page α) (v : Int) (i : Nat) : Bool := decide (0 < (P i).u) && decide ((P i).v = v)
def ofL (P : Nat → Page α) (v : Int) (n : Nat) : List Nat := (List.range n).filter (ofB P v)
theorem of_next (P : Nat → Page α) (v : Int) (n : Nat) : ofL P v (n + 1) = if ofB P v n = true then ofL P v n ++ [n] else ofL P v n := by
  unfold ofL
  rw [List.range_succ, List.filter_append]
  cases h : ofB P v n with
  | true => rw [if_pos rfl]; simp [h]
  | false => rw [if_neg (by decide)]; simp [h]
theorem free_le (P : Nat → Page α) : ∀ n, freeN P n ≤ n
  | 0 => Nat.le_refl _
  | n + 1 => by
    have := free_le P n
    rw [freeN]
    split <;> omega
theorem of_le (P : Nat → Page α) (v : Int) (n : Nat) : (ofL P v n).length ≤ n := by
  unfold ofL
  exact Nat.le_trans (List.length_filter_le _ _) (by simp)
/-- What is free, and what four versions have, are all, where no other version has any. -/
theorem all_pages (P : Nat → Page α) : ∀ n, (∀ i, i < n → 0 < (P i).u → 1 ≤ (P i).v ∧ (P i).v ≤ 4) → (ofL P 1 n).length + (ofL P 2 n).length + (ofL P 3 n).length + (ofL P 4 n).length + freeN P n = n
  | 0, _ => rfl
  | n + 1, h => by
    have ih := all_pages P n fun i hi => h i (by omega)
    have hn := h n (by omega)
    rw [of_next, of_next, of_next, of_next, freeN]
    have hl : ∀ v : Int, (if ofB P v n = true then ofL P v n ++ [n] else ofL P v n).length = (ofL P v n).length + if ofB P v n = true then 1 else 0 := fun v => by
      split <;> simp
    rw [hl, hl, hl, hl]
    by_cases hu : (P n).u = 0
    · have hf : ∀ v : Int, ofB P v n = false := fun v => by unfold ofB; rw [decide_eq_false (by omega)]; rfl
      rw [hf, hf, hf, hf, if_pos hu]
      simp only [Bool.false_eq_true, if_false]
      omega
    · obtain ⟨h1, h2⟩ := hn (by omega)
      have ho : ∀ v : Int, ofB P v n = decide ((P n).v = v) := fun v => by unfold ofB; rw [decide_eq_true (by omega)]; rfl
      rw [ho, ho, ho, ho, if_neg hu]
      simp only [decide_eq_true_iff]
      rcases (show (P n).v = 1 ∨ (P n).v = 2 ∨ (P n).v = 3 ∨ (P n).v = 4 by omega) with e | e | e | e <;> rw [e] <;> simp <;> omega
/-- Free ones can be counted when all are. -/
theorem free_all (P : Nat → Page α) : ∀ n, (∀ i, i < n → (P i).u = 0) → freeN P n = n
  | 0, _ => rfl
  | n + 1, h => by rw [freeN, free_all P n fun i hi => h i (by omega), if_pos (h n (by omega))]
theorem of_none {v : Int} (h : ∀ i, i < n → (P i).u = 0) : ofL P v n = [] := by
  unfold ofL
  rw [List.filter_eq_nil_iff]
  intro i hi
  have := h i (List.mem_range.1 hi)
  unfold ofB
  rw [decide_eq_false (by omega), Bool.false_and]
  exact Bool.false_ne_true
end
end Pg
end Go.Proofs.Ytlapinecmiacoaa
