/-
  The program's whole numbers (package num): rows of numbers: what it comes to. Conditions: numbers are such as an int holds.
-/
import Derived.Test.YtiehpaffbaafcaaNumMath
namespace Go.Proofs.Ytiehpaffbaafcaa
open Go.RowKit Nm

/-- The cells from 'off' on hold these numbers. -/
def Holds (w : World) (b off : Nat) (zs : List Int) : Prop := ∀ i, i < zs.length → w.cell? ⟨b, off + i, none⟩ = some (.int .i64 (zs.getD i 0))

theorem Holds.at {w : World} {b off : Nat} {zs : List Int} (h : Holds w b off zs) {i : Nat} (hi : i < zs.length) : w.cell? ⟨b, off + i, none⟩ = some (.int .i64 zs[i]) := by
  have := h i hi
  rwa [List.getD_eq_getElem?_getD, List.getElem?_eq_getElem hi] at this

theorem take_next (zs : List Int) (k : Nat) (h : k < zs.length) : zs.take (k + 1) = zs.take k ++ [zs.getD k 0] := by
  rw [List.take_succ_eq_append_getElem h]; simp [List.getD_eq_getElem?_getD, h]
theorem most_next (first : Int) (zs : List Int) (k : Nat) (h : k < zs.length) :
    most first (zs.take (k + 1)) = if most first (zs.take k) < zs[k] then zs[k] else most first (zs.take k) := by
  rw [List.take_succ_eq_append_getElem h]
  unfold most
  rw [List.foldl_append]
  simp only [List.foldl_cons, List.foldl_nil, Int.max_def]
  split <;> split <;> omega
theorem least_next (first : Int) (zs : List Int) (k : Nat) (h : k < zs.length) :
    least first (zs.take (k + 1)) = if zs[k] < least first (zs.take k) then zs[k] else least first (zs.take k) := by
  rw [List.take_succ_eq_append_getElem h]
  unfold least
  rw [List.foldl_append]
  simp only [List.foldl_cons, List.foldl_nil, Int.min_def]
  split <;> split <;> omega
theorem sum_next (zs : List Int) (k : Nat) (h : k < zs.length) : sum (zs.take (k + 1)) = plus (sum (zs.take k)) zs[k] := by
  rw [List.take_succ_eq_append_getElem h]
  unfold sum
  rw [List.foldl_append]
  rfl
theorem sum_in (zs : List Int) : -4611686018427387904 ≤ sum zs ∧ sum zs ≤ 4611686018427387904 := by
  have key : ∀ (l : List Int) (t : Int), -4611686018427387904 ≤ t ∧ t ≤ 4611686018427387904 → -4611686018427387904 ≤ l.foldl plus t ∧ l.foldl plus t ≤ 4611686018427387904 := by
    intro l
    induction l with
    | nil => exact fun t h => h
    | cons a l ih => exact fun t _ => ih _ ⟨clamp_lo _ _ _ (by omega), clamp_hi _ _ _ (by omega)⟩
  exact key zs 0 ⟨by omega, by omega⟩
theorem prods_take (a b : List Int) (k : Nat) : prods (a.take k) (b.take k) = (prods a b).take k := by
  induction k generalizing a b with
  | zero => cases a <;> cases b <;> simp [prods]
  | succ k ih => cases a <;> cases b <;> simp [prods, ih]
theorem prods_length (a b : List Int) : (prods a b).length = min a.length b.length := by
  induction a generalizing b with
  | nil => simp [prods]
  | cons x a ih => cases b <;> simp [prods, ih]
theorem prods_at (a b : List Int) (k : Nat) (ha : k < a.length) (hb : k < b.length) (h : k < (prods a b).length) : (prods a b)[k] = prod a[k] b[k] := by
  induction a generalizing b k with
  | nil => simp at ha
  | cons x a ih =>
    cases b with
    | nil => simp at hb
    | cons y b =>
      cases k with
      | zero => rfl
      | succ k => simpa [prods] using ih b k (by simpa using ha) (by simpa using hb) (by simpa [prods] using h)
theorem dot_next (a b : List Int) (k : Nat) (ha : k < a.length) (hb : k < b.length) : dot (a.take (k + 1)) (b.take (k + 1)) = plus (dot (a.take k) (b.take k)) (prod a[k] b[k]) := by
  have h : k < (prods a b).length := by rw [prods_length]; omega
  unfold dot
  rw [prods_take, prods_take, sum_next _ _ h, prods_at a b k ha hb]
theorem dot_in (a b : List Int) : -4611686018427387904 ≤ dot a b ∧ dot a b ≤ 4611686018427387904 := sum_in _
theorem dot_all (a b : List Int) (k : Nat) (h : k = min a.length b.length) : dot (a.take k) (b.take k) = dot a b := by
  unfold dot
  rw [prods_take, List.take_of_length_le (by rw [prods_length]; omega)]
end Go.Proofs.Ytiehpaffbaafcaa
