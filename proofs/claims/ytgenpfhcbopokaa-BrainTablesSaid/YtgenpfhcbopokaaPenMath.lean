/-
  What was written is read as it was: numbers and texts, in plain words. No program here. No conditions.
-/
import Derived.Test.YtgenpfhcbopokaaPenText
namespace Go.Proofs.Ytgenpfhcbopokaa
open Go Go.RowKit Pn
namespace Pn

theorem byAt_list (l : List UInt8) (k : Nat) : byAt ⟨l.toArray⟩ k = l.getD k 0 := rfl
theorem numL_four (x : Int) : numL x = [numF x 0, numF x 1, numF x 2, numF x 3] := rfl
theorem le4_num (x : Int) (h : numOk x = true) (T : List UInt8) : (le4 ⟨(numL x ++ T).toArray⟩ : Int) = x := by
  have hx := numV_ok h
  have hb : 0 ≤ x ∧ x ≤ 4294967295 := by unfold numOk at h; simpa using h
  have v0 := numF_val x 0
  have v1 := numF_val x 1
  have v2 := numF_val x 2
  have v3 := numF_val x 3
  simp only [Nat.pow_zero, Nat.pow_one, Int.ediv_one, Nat.reducePow, Int.cast_ofNat_Int] at v0 v1 v2 v3
  unfold le4
  rw [byAt_list, byAt_list, byAt_list, byAt_list, numL_four]
  show (((numF x 0).toNat + 256 * (numF x 1).toNat + 65536 * (numF x 2).toNat + 16777216 * (numF x 3).toNat : Nat) : Int) = x
  omega
theorem size_list (l : List UInt8) : (⟨l.toArray⟩ : ByteArray).size = l.length := by show l.toArray.size = _; rw [List.size_toArray]
theorem extract_list (l m : List UInt8) (n : Nat) (h : n = l.length) : (⟨(l ++ m).toArray⟩ : ByteArray).extract n (⟨(l ++ m).toArray⟩ : ByteArray).size = ⟨m.toArray⟩ := by
  subst h
  apply ByteArray.ext
  rw [ByteArray.data_extract, size_list]
  apply Array.ext'
  rw [Array.toList_extract, List.extract_eq_take_drop, List.length_append]
  simp
theorem extract_head (l m : List UInt8) (n : Nat) (h : n = l.length) : (⟨(l ++ m).toArray⟩ : ByteArray).extract 0 n = ⟨l.toArray⟩ := by
  subst h
  apply ByteArray.ext
  rw [ByteArray.data_extract]
  apply Array.ext'
  rw [Array.toList_extract, List.extract_eq_take_drop]
  simp
theorem nm_num (x : Int) (h : numOk x = true) (T : List UInt8) (most : Int) (hm : x ≤ most) : nmOk ⟨(numL x ++ T).toArray⟩ most = true :=
  nm_ok (by rw [size_list, List.length_append, numL_length]; omega) (by rw [le4_num x h]; exact hm)
theorem nm_num_out (x : Int) (h : numOk x = true) (T : List UInt8) (most : Int) (hm : x ≤ most) : (nmOut ⟨(numL x ++ T).toArray⟩ most : Int) = x := by
  rw [nm_out_yes (nm_num x h T most hm), le4_num x h]
theorem nm_num_rest (x : Int) (h : numOk x = true) (T : List UInt8) (most : Int) (hm : x ≤ most) : nmRest ⟨(numL x ++ T).toArray⟩ most = ⟨T.toArray⟩ := by
  rw [nm_rest_yes (nm_num x h T most hm)]
  exact extract_list (numL x) T 4 (numL_length x).symm
theorem nm_num_bad (x : Int) (h : numOk x = true) (T : List UInt8) (most : Int) (hm : x ≤ most) : nmBad ⟨(numL x ++ T).toArray⟩ false most = false := nm_bad_yes _ (nm_num x h T most hm)
theorem tx_text (s : ByteArray) (hs : s.size ≤ 1000000) (T : List UInt8) :
    txOut ⟨(textL s ++ T).toArray⟩ (s.size : Int) = s ∧ txRest ⟨(textL s ++ T).toArray⟩ (s.size : Int) = ⟨T.toArray⟩ ∧ txBad ⟨(textL s ++ T).toArray⟩ false (s.size : Int) = false := by
  have hok : numOk (s.size : Int) = true := num_ok (by omega) (by omega)
  have e : textL s ++ T = numL (s.size : Int) ++ (s.data.toList ++ T) := by unfold textL; rw [List.append_assoc]
  have h1 := nm_num_out (s.size : Int) hok (s.data.toList ++ T) (s.size : Int) (Int.le_refl _)
  have h2 := nm_num_rest (s.size : Int) hok (s.data.toList ++ T) (s.size : Int) (Int.le_refl _)
  have h3 := nm_num_bad (s.size : Int) hok (s.data.toList ++ T) (s.size : Int) (Int.le_refl _)
  have h1' : nmOut ⟨(numL (s.size : Int) ++ (s.data.toList ++ T)).toArray⟩ (s.size : Int) = s.size := by omega
  have hl : s.data.toList.length = s.size := rfl
  have hle : s.size ≤ (⟨(s.data.toList ++ T).toArray⟩ : ByteArray).size := by
    have h5 := size_list (s.data.toList ++ T)
    rw [List.length_append] at h5
    omega
  rw [e]
  unfold txOut txRest txBad
  rw [h1', h2, h3, tk_out_yes hle, tk_rest_yes hle, tk_bad_yes _ hle]
  refine ⟨?_, ?_, rfl⟩
  · rw [extract_head _ _ _ hl.symm]
  · exact extract_list _ _ _ hl.symm
/-- Numbers, and texts, from one place on. -/
def numsFrom (xs : Nat → Int) (k n : Nat) : List UInt8 := (List.range (n - k)).flatMap fun i => numL (xs (k + i))
def textsFrom (ss : Nat → ByteArray) (k n : Nat) : List UInt8 := (List.range (n - k)).flatMap fun i => textL (ss (k + i))
theorem numsFrom_zero (xs : Nat → Int) (n : Nat) : numsFrom xs 0 n = numsL xs n := by unfold numsFrom numsL; simp
theorem textsFrom_zero (ss : Nat → ByteArray) (n : Nat) : textsFrom ss 0 n = textsL ss n := by unfold textsFrom textsL; simp
theorem numsFrom_end (xs : Nat → Int) (n : Nat) : numsFrom xs n n = [] := by unfold numsFrom; simp
theorem textsFrom_end (ss : Nat → ByteArray) (n : Nat) : textsFrom ss n n = [] := by unfold textsFrom; simp
theorem numsFrom_step (xs : Nat → Int) (k n : Nat) (h : k < n) : numsFrom xs k n = numL (xs k) ++ numsFrom xs (k + 1) n := by
  unfold numsFrom
  rw [show n - k = n - (k + 1) + 1 by omega, List.range_succ_eq_map, List.flatMap_cons, List.flatMap_map]
  congr 1
  congr 1
  funext i
  rw [show k + (i + 1) = k + 1 + i by omega]
theorem textsFrom_step (ss : Nat → ByteArray) (k n : Nat) (h : k < n) : textsFrom ss k n = textL (ss k) ++ textsFrom ss (k + 1) n := by
  unfold textsFrom
  rw [show n - k = n - (k + 1) + 1 by omega, List.range_succ_eq_map, List.flatMap_cons, List.flatMap_map]
  congr 1
  congr 1
  funext i
  rw [show k + (i + 1) = k + 1 + i by omega]
theorem numL_inj (x y : Int) (hx : numOk x = true) (hy : numOk y = true) (h : numL x = numL y) : x = y := by
  have h1 := le4_num x hx []
  have h2 := le4_num y hy []
  rw [h] at h1
  exact h1.symm.trans h2
theorem numsL_inj (xs ys : Nat → Int) : ∀ n, (∀ i, i < n → numOk (xs i) = true) → (∀ i, i < n → numOk (ys i) = true) → numsL xs n = numsL ys n → ∀ i, i < n → xs i = ys i := by
  intro n
  induction n with
  | zero => intro _ _ _ i hi; omega
  | succ n ih =>
    intro hx hy h i hi
    rw [numsL_next, numsL_next] at h
    have hl : (numsL xs n).length = (numsL ys n).length := by rw [numsL_length, numsL_length]
    obtain ⟨h1, h2⟩ := List.append_inj h hl
    by_cases e : i = n
    · subst e; exact numL_inj _ _ (hx i (by omega)) (hy i (by omega)) h2
    · exact ih (fun j hj => hx j (by omega)) (fun j hj => hy j (by omega)) h1 i (by omega)
theorem numsL_congr (xs ys : Nat → Int) (n : Nat) (h : ∀ i, i < n → xs i = ys i) : numsL xs n = numsL ys n := by
  induction n with
  | zero => rfl
  | succ n ih => rw [numsL_next, numsL_next, ih fun i hi => h i (by omega), h n (by omega)]
/-- Whether both rows are the same up to place j. -/
def sameK (xs ys : Nat → Int) (n m : Nat) : Nat → Bool
  | 0 => ((n : Int) == (m : Int))
  | j + 1 => sameK xs ys n m j && (xs j == ys j)
theorem sameK_len (xs ys : Nat → Int) (n m : Nat) (j : Nat) (h : sameK xs ys n m j = true) : n = m := by
  induction j with
  | zero => have := beq_iff_eq.1 h; omega
  | succ j ih => simp only [sameK, Bool.and_eq_true] at h; exact ih h.1
theorem sameK_iff (xs ys : Nat → Int) (n m : Nat) (j : Nat) : sameK xs ys n m j = true ↔ n = m ∧ ∀ i, i < j → xs i = ys i := by
  induction j with
  | zero => exact ⟨fun h => ⟨by have := beq_iff_eq.1 h; omega, fun i hi => by omega⟩, fun h => beq_iff_eq.2 (by rw [h.1])⟩
  | succ j ih =>
    simp only [sameK, Bool.and_eq_true, ih, beq_iff_eq]
    constructor
    · rintro ⟨⟨h1, h2⟩, h3⟩
      refine ⟨h1, fun i hi => ?_⟩
      by_cases e : i = j
      · rw [e]; exact h3
      · exact h2 i (by omega)
    · rintro ⟨h1, h2⟩
      exact ⟨⟨h1, fun i hi => h2 i (by omega)⟩, h2 j (by omega)⟩
theorem same_bytes (xs ys : Nat → Int) (n m : Nat) (hx : ∀ i, numOk (xs i) = true) (hy : ∀ i, numOk (ys i) = true) : ((⟨(numsL xs n).toArray⟩ : ByteArray) = ⟨(numsL ys m).toArray⟩) ↔ sameK xs ys n m m = true := by
  rw [sameK_iff]
  constructor
  · intro h
    have hl : numsL xs n = numsL ys m := by
      have := congrArg (fun q : ByteArray => q.data.toList) h
      exact this
    have hn : n = m := by
      have := congrArg List.length hl
      rw [numsL_length, numsL_length] at this
      omega
    subst hn
    exact ⟨rfl, numsL_inj xs ys n (fun i _ => hx i) (fun i _ => hy i) hl⟩
  · rintro ⟨rfl, h⟩
    rw [numsL_congr xs ys n h]
/-- A number of 32 bits. -/
def cut32 (x : Int) : Int := x % 4294967296
theorem cut32_ok (x : Int) : numOk (cut32 x) = true := num_ok (by unfold cut32; omega) (by unfold cut32; omega)
end Pn
end Go.Proofs.Ytgenpfhcbopokaa
