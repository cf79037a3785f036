/-
  What is found behind a loss of power: each sector is what was synced there, or what was written there since. No program here. No conditions.
-/
import Derived.Test.YthmpmpofhpkmjaaDkRead
namespace Go.Proofs.Ythmpmpofhpkmjaa
open Go Go.RowKit
namespace Dk

/-- What the first m bytes leave in eight places. -/
def sArr (X : Nat → UInt8) : Nat → Nat → UInt8
  | 0, _ => 0
  | m + 1, j => if j = (X m).toNat % 8 then X m else sArr X m j
theorem getD_app_lt {L : List Wr} {y : Wr} {k : Nat} (h : k < L.length) : (L ++ [y]).getD k noWr = L.getD k noWr := by
  rw [List.getD_eq_getElem?_getD, List.getD_eq_getElem?_getD, List.getElem?_append_left h]
theorem getD_app_at (L : List Wr) (y : Wr) : (L ++ [y]).getD L.length noWr = y := by
  rw [List.getD_eq_getElem?_getD, List.getElem?_append_right (Nat.le_refl _), Nat.sub_self]
  rfl
theorem fs_app (safe : Nat → UInt8) (L : List Wr) (y : Wr) (kp : Nat → Bool) : ∀ k, k ≤ L.length → fs safe (L ++ [y]) kp k = fs safe L kp k
  | 0, _ => rfl
  | k + 1, h => by
    unfold fs
    rw [fs_app safe L y kp k (by omega), getD_app_lt (by omega)]
theorem fs_push (safe : Nat → UInt8) (L : List Wr) (y : Wr) : fs safe (L ++ [y]) (fun _ => true) (L.length + 1) = putS (fs safe L (fun _ => true) L.length) y.1 y.2 := by
  show (if true = true then _ else _) = _
  rw [if_pos rfl, getD_app_at, fs_app _ _ _ _ _ (Nat.le_refl _)]
/-- All loose writes laid on what is safe are what was written last. -/
def St.Full (x : St) : Prop := fs x.safe x.loose (fun _ => true) x.loose.length = x.now
theorem full_put {x : St} (h : x.Full) (p : Nat) (g : Nat → UInt8) : (x.put p g).Full := by
  show fs x.safe (x.loose ++ [(p, g)]) (fun _ => true) (x.loose ++ [(p, g)]).length = putS x.now p g
  rw [List.length_append]
  show fs x.safe (x.loose ++ [(p, g)]) (fun _ => true) (x.loose.length + 1) = putS x.now p g
  rw [fs_push, show fs x.safe x.loose (fun _ => true) x.loose.length = x.now from h]
theorem full_synced {x : St} (h : x.Full) : x.synced.Full ∧ x.synced.safe = x.now := ⟨h, h⟩
theorem fs_sect (safe : Nat → UInt8) (L : List Wr) (kp : Nat → Bool) (p : Nat) : ∀ k, (∀ j, j < 32 → sect (fs safe L kp k) p j = sect safe p j) ∨ ∃ q, q < k ∧ (L.getD q noWr).1 = p ∧ ∀ j, j < 32 → sect (fs safe L kp k) p j = (L.getD q noWr).2 j
  | 0 => .inl fun _ _ => rfl
  | k + 1 => by
    unfold fs
    cases kp k with
    | false =>
      rw [if_neg Bool.false_ne_true]
      rcases fs_sect safe L kp p k with h | ⟨q, h1, h2⟩
      · exact .inl h
      · exact .inr ⟨q, by omega, h2⟩
    | true =>
      rw [if_pos rfl]
      by_cases he : (L.getD k noWr).1 = p
      · refine .inr ⟨k, by omega, he, fun j hj => ?_⟩
        rw [← he]
        exact sect_put_same _ _ _ _ hj
      · rcases fs_sect safe L kp p k with h | ⟨q, h1, h2, h3⟩
        · exact .inl fun j hj => (sect_put_other _ _ _ _ _ hj he).trans (h j hj)
        · exact .inr ⟨q, by omega, h2, fun j hj => (sect_put_other _ _ _ _ _ hj he).trans (h3 j hj)⟩
theorem fs_none (safe : Nat → UInt8) (L : List Wr) (kp : Nat → Bool) (p k : Nat) (h : ∀ q, q < k → (L.getD q noWr).1 ≠ p) : ∀ j, j < 32 → sect (fs safe L kp k) p j = sect safe p j := by
  rcases fs_sect safe L kp p k with h1 | ⟨q, h1, h2, _⟩
  · exact h1
  · exact absurd h2 (h q h1)
theorem fn_sect (S now : Nat → UInt8) (L : List Wr) (p : Nat) : ∀ k, (∀ j, j < 32 → sect (fn S now L k) p j = sect S p j) ∨ ((∀ q, q < k → (L.getD q noWr).1 ≠ p) ∧ ∀ j, j < 32 → sect (fn S now L k) p j = sect now p j)
  | 0 => .inr ⟨fun q h => (by omega), fun _ _ => rfl⟩
  | k + 1 => by
    unfold fn
    by_cases he : (L.getD k noWr).1 = p
    · rw [he]
      exact .inl fun j hj => sect_put_same _ _ _ _ hj
    · rcases fn_sect S now L p k with h | ⟨h1, h2⟩
      · exact .inl fun j hj => (sect_put_other _ _ _ _ _ hj he).trans (h j hj)
      · refine .inr ⟨fun q hq => ?_, fun j hj => (sect_put_other _ _ _ _ _ hj he).trans (h2 j hj)⟩
        by_cases hqk : q = k
        · rw [hqk]; exact he
        · exact h1 q (by omega)
/-- Behind a loss of power a sector is as it was safe, or one of the loose writes. -/
theorem fall_sect {x : St} (hf : x.Full) (kl : List Bool) (p : Nat) :
    (∀ j, j < 32 → sect (x.fall kl).now p j = sect x.safe p j) ∨ ∃ q, q < x.loose.length ∧ (x.loose.getD q noWr).1 = p ∧ ∀ j, j < 32 → sect (x.fall kl).now p j = (x.loose.getD q noWr).2 j := by
  have hS := fs_sect x.safe x.loose (kp kl) p x.loose.length
  show (∀ j, j < 32 → sect (fn (fs x.safe x.loose (kp kl) x.loose.length) x.now x.loose x.loose.length) p j = sect x.safe p j) ∨ ∃ q, q < x.loose.length ∧ (x.loose.getD q noWr).1 = p ∧ ∀ j, j < 32 → sect (fn (fs x.safe x.loose (kp kl) x.loose.length) x.now x.loose x.loose.length) p j = (x.loose.getD q noWr).2 j
  rcases fn_sect (fs x.safe x.loose (kp kl) x.loose.length) x.now x.loose p x.loose.length with h | ⟨h1, h2⟩
  · rcases hS with h3 | ⟨q, h3, h4, h5⟩
    · exact .inl fun j hj => (h j hj).trans (h3 j hj)
    · exact .inr ⟨q, h3, h4, fun j hj => (h j hj).trans (h5 j hj)⟩
  · refine .inl fun j hj => (h2 j hj).trans ?_
    rw [← hf]
    exact fs_none x.safe x.loose _ p _ h1 j hj

/-- The disk of the law behind i writes, of which the first n are synced once i is beyond n. -/
structure Syn (X : Nat → UInt8) (n i : Nat) (synced : Bool) (x : St) : Prop where
  n8 : x.n = 8
  on : x.away = false
  fu : x.fuse = none
  len : x.loose.length ≤ i
  done : x.done ≤ i + if synced then 1 else 0
  full : x.Full
  now : ∀ p j, p < 8 → j < 32 → sect x.now p j = sArr X i p
  safe : synced = true → ∀ p j, p < 8 → j < 32 → sect x.safe p j = sArr X n p
  part : synced = true → n ≤ i ∧ x.loose.length = i - n ∧ ∀ q, q < i - n → (x.loose.getD q noWr).1 = (X (n + q)).toNat % 8 ∧ ∀ j, j < 32 → (x.loose.getD q noWr).2 j = X (n + q)
theorem syn_new (X : Nat → UInt8) (n : Nat) (x : St) (hx : x = { n := 8, safe := fun _ => 0, now := fun _ => 0, loose := [], fuse := none, away := false, done := 0 }) : Syn X n 0 false x := by
  subst hx
  exact ⟨rfl, rfl, rfl, Nat.le_refl _, Nat.zero_le _, rfl, fun _ _ _ _ => rfl, fun h => (by cases h), fun h => (by cases h)⟩
theorem syn_sync {X : Nat → UInt8} {n : Nat} {x : St} (h : Syn X n n false x) : Syn X n n true x.burnt.synced := by
  have h1 : fs x.safe x.loose (fun _ => true) x.loose.length = x.now := h.full
  refine ⟨h.n8, h.on, ?_, Nat.zero_le _, ?_, h1, h.now, fun _ p j hp hj => ?_, fun _ => ⟨Nat.le_refl _, by rw [Nat.sub_self]; rfl, fun q hq => by omega⟩⟩
  · show x.fuse.map _ = none
    rw [h.fu]
    rfl
  · have := h.done
    rw [if_neg Bool.false_ne_true] at this
    show x.done + 1 ≤ n + if true = true then 1 else 0
    rw [if_pos rfl]
    omega
  · show sect (fs x.safe x.loose (fun _ => true) x.loose.length) p j = _
    rw [h1]
    exact h.now p j hp hj
theorem syn_write {X : Nat → UInt8} {n i : Nat} {b : Bool} {x : St} (h : Syn X n i b x) (g : Nat → UInt8) (hg : ∀ j, j < 32 → g j = X i) : Syn X n (i + 1) b (x.burnt.put ((X i).toNat % 8) g) := by
  have h1 : fs x.safe x.loose (fun _ => true) x.loose.length = x.now := h.full
  refine ⟨h.n8, h.on, ?_, ?_, ?_, full_put (x := x.burnt) h1 _ _, fun p j hp hj => ?_, h.safe, fun hb => ?_⟩
  · show x.fuse.map _ = none
    rw [h.fu]
    rfl
  · show (x.loose ++ [((X i).toNat % 8, g)]).length ≤ i + 1
    rw [List.length_append]
    have := h.len
    simpa using this
  · have := h.done
    show x.done + 1 ≤ i + 1 + if b = true then 1 else 0
    omega
  · show sect (putS x.now ((X i).toNat % 8) g) p j = if p = (X i).toNat % 8 then X i else sArr X i p
    by_cases he : p = (X i).toNat % 8
    · rw [if_pos he, he, sect_put_same _ _ _ _ hj, hg j hj]
    · rw [if_neg he, sect_put_other _ _ _ _ _ hj (Ne.symm he)]
      exact h.now p j hp hj
  · obtain ⟨h2, h3, h4⟩ := h.part hb
    show n ≤ i + 1 ∧ (x.loose ++ [((X i).toNat % 8, g)]).length = i + 1 - n ∧ ∀ q, q < i + 1 - n → ((x.loose ++ [((X i).toNat % 8, g)]).getD q noWr).1 = (X (n + q)).toNat % 8 ∧ ∀ j, j < 32 → ((x.loose ++ [((X i).toNat % 8, g)]).getD q noWr).2 j = X (n + q)
    refine ⟨by omega, by rw [List.length_append]; show x.loose.length + 1 = _; omega, fun q hq => ?_⟩
    by_cases hql : q < i - n
    · rw [getD_app_lt (by omega)]
      exact h4 q hql
    · have he : q = x.loose.length := by omega
      rw [he, getD_app_at, h3, show n + (i - n) = i by omega]
      exact ⟨rfl, hg⟩
/-- What is read behind the loss. -/
theorem syn_read {X : Nat → UInt8} {n l : Nat} {x : St} (h : Syn X n l true x) (kl : List Bool) (p : Nat) (hp : p < 8) :
    ∃ c : UInt8, (∀ j, j < 32 → sect (x.fall kl).come.now p j = c) ∧ (c = sArr X n p ∨ ∃ i, n ≤ i ∧ i < l ∧ (X i).toNat % 8 = p ∧ c = X i) := by
  obtain ⟨h2, h3, h4⟩ := h.part rfl
  rcases fall_sect h.full kl p with h5 | ⟨q, h5, h6, h7⟩
  · exact ⟨sArr X n p, fun j hj => (h5 j hj).trans (h.safe rfl p j hp hj), .inl rfl⟩
  · obtain ⟨h8, h9⟩ := h4 q (by omega)
    refine ⟨X (n + q), fun j hj => (h7 j hj).trans (h9 j hj), .inr ⟨n + q, by omega, by omega, by rw [← h8]; exact h6, rfl⟩⟩
end Dk
end Go.Proofs.Ythmpmpofhpkmjaa
