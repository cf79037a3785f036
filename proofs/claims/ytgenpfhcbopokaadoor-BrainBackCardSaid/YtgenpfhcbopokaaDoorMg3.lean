/-
  The rows of all parts of all blocks, as the document's own answer gathers them. No program here. No conditions.
-/
import Derived.Test.YtgenpfhcbopokaaDoorMg2
set_option maxRecDepth 100000
namespace Go.Proofs.YtgenpfhcbopokaaDoor
open Go Go.RowKit
namespace Cf

structure Rw where
  p : Int
  k : Int
  a : Int
  m : Int
def rwL (r : Rw) : List Value := [.int .i64 r.p, .int .i64 r.k, .int .i64 r.a, .int .i64 r.m]
def rwsL (L : List Rw) : List Value := L.flatMap rwL
theorem rwsL_length (L : List Rw) : (rwsL L).length = L.length * 4 := by
  unfold rwsL
  induction L with
  | nil => rfl
  | cons r L ih => rw [List.flatMap_cons, List.length_append, ih, List.length_cons]; show 4 + _ = _; omega
theorem rwsL_next (L : List Rw) (r : Rw) : rwsL (L ++ [r]) = rwsL L ++ rwL r := by
  unfold rwsL
  rw [List.flatMap_append, List.flatMap_cons, List.flatMap_nil, List.append_nil]
theorem rwsL_at : ∀ (L : List Rw) (i : Nat) (r : Rw), L[i]? = some r → ∀ j, j < 4 → (rwsL L)[i * 4 + j]? = (rwL r)[j]?
  | [], i, r, h, _, _ => by simp at h
  | q :: L, 0, r, h, j, hj => by
    rw [List.getElem?_cons_zero] at h
    injection h with h
    subst h
    unfold rwsL
    rw [List.flatMap_cons, List.getElem?_append_left (by show 0 * 4 + j < 4; omega), Nat.zero_mul, Nat.zero_add]
  | q :: L, i + 1, r, h, j, hj => by
    rw [List.getElem?_cons_succ] at h
    unfold rwsL
    rw [List.flatMap_cons, List.getElem?_append_right (by show 4 ≤ _; omega)]
    have := rwsL_at L i r h j hj
    unfold rwsL at this
    rw [← this]
    congr 1
    show (i + 1) * 4 + j - 4 = i * 4 + j
    omega
/-- Whether a part is left out beside block b; what block is told. -/
def skipB (x : Cfg) (b : Int) (p : Nat) : Bool := (decide (b < 0) && decide (1 < p)) || (decide (b = x.b) && decide (p < 11)) || (decide (0 ≤ b) && decide (b < x.b) && (decide (p < 2) || decide (10 < p)))
def blkZ (b : Int) (p : Nat) : Int := if p < 2 ∨ p = 11 then 0 else b
def inner (x : Cfg) (b : Int) (s : List Rw × Int) : Nat → List Rw × Int
  | 0 => s
  | p + 1 => if skipB x b p = true then inner x b s p else ((inner x b s p).1 ++ [⟨(p : Int), blkZ b p, (inner x b s p).2, areaZ x (p : Int)⟩], (inner x b s p).2 + areaZ x (p : Int))
def outer (x : Cfg) : Nat → List Rw × Int
  | 0 => ([], 0)
  | n + 1 => inner x ((n : Int) - 1) (outer x n) 12
structure OkS (s : List Rw × Int) (c : Nat) : Prop where
  len : s.1.length ≤ c
  low : 0 ≤ s.2
  high : s.2 ≤ 1024 * (c : Int)
theorem inner_ok {x : Cfg} (h : In x) (b : Int) {s : List Rw × Int} {c : Nat} (hs : OkS s c) : ∀ p, p ≤ 12 → OkS (inner x b s p) (c + p)
  | 0, _ => hs
  | p + 1, hp => by
    obtain ⟨h1, h2, h3⟩ := inner_ok h b hs p (by omega)
    have h4 := area_in h (p := (p : Int)) (by omega) (by omega)
    unfold inner
    split
    · exact ⟨by omega, h2, by omega⟩
    · exact ⟨by show ((inner x b s p).1 ++ [_]).length ≤ _; rw [List.length_append]; show _ + 1 ≤ _; omega, by show 0 ≤ _ + _; omega, by show _ + _ ≤ _; omega⟩
theorem outer_ok {x : Cfg} (h : In x) : ∀ n, OkS (outer x n) (12 * n)
  | 0 => ⟨Nat.le_refl _, Int.le_refl _, Int.le_refl _⟩
  | n + 1 => inner_ok h _ (outer_ok h n) 12 (Nat.le_refl _)
end Cf
end Go.Proofs.YtgenpfhcbopokaaDoor
