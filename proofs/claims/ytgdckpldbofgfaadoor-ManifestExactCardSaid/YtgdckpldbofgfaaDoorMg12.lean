/-
  Models' shapes in plain words: six numbers, whether they can be, how many rows and columns a part has, where it stands. No program here. No conditions.
  A shape's bytes, and what six numbers of a text tell, with limits and without. No program here. No conditions.
  Parts of a string as the walk takes them: s[i:j], s[:j], s[i:]. No program's function here. Conditions: both ends lie within the string.
-/
import Derived.Test.YtgdckpldbofgfaaDoorMg1
import Derived.Test.YtgdckpldbofgfaaDoorMg3
set_option maxRecDepth 100000
namespace Go.Proofs.YtgdckpldbofgfaaDoor
open Go Go.RowKit
namespace Cf

structure Cfg where
  v : Int
  d : Int
  h : Int
  b : Int
  n : Int
  c : Int
def cfA (x : Cfg) : Array Value := #[.int .i64 x.v, .int .i64 x.d, .int .i64 x.h, .int .i64 x.b, .int .i64 x.n, .int .i64 x.c]
def cfV (x : Cfg) : Value := .agg (cfA x)
def withinZ (n l m : Int) : Bool := decide (l ≤ n) && decide (n ≤ m)
def inZ (x : Cfg) : Bool := withinZ x.v 2 32 && (withinZ x.d 1 16 && (withinZ x.h 1 4 && (withinZ x.b 1 3 && (withinZ x.n 1 32 && withinZ x.c 1 32))))
structure In (x : Cfg) : Prop where
  v2 : 2 ≤ x.v
  v32 : x.v ≤ 32
  d1 : 1 ≤ x.d
  d16 : x.d ≤ 16
  h1 : 1 ≤ x.h
  h4 : x.h ≤ 4
  b1 : 1 ≤ x.b
  b3 : x.b ≤ 3
  n1 : 1 ≤ x.n
  n32 : x.n ≤ 32
  c1 : 1 ≤ x.c
  c32 : x.c ≤ 32
theorem within_iff {n l m : Int} : withinZ n l m = true ↔ l ≤ n ∧ n ≤ m := by
  unfold withinZ
  simp only [Bool.and_eq_true, decide_eq_true_iff]
theorem in_iff {x : Cfg} : inZ x = true ↔ In x := by
  unfold inZ
  simp only [Bool.and_eq_true, within_iff]
  constructor
  · rintro ⟨⟨a, b⟩, ⟨c, d⟩, ⟨e, f⟩, ⟨g, h⟩, ⟨i, j⟩, k, l⟩
    exact ⟨a, b, c, d, e, f, g, h, i, j, k, l⟩
  · rintro ⟨a, b, c, d, e, f, g, h, i, j, k, l⟩
    exact ⟨⟨a, b⟩, ⟨c, d⟩, ⟨e, f⟩, ⟨g, h⟩, ⟨i, j⟩, k, l⟩
/-- How many rows and columns a part has; 0, if it is none. -/
def rowsZ (x : Cfg) (p : Int) : Int := if p = 0 then x.v else if p = 1 then x.c else if p = 2 ∨ p = 7 ∨ p = 11 then 1 else if p = 3 ∨ p = 4 ∨ p = 5 ∨ p = 6 then x.d else if p = 8 ∨ p = 9 then x.n else if p = 10 then x.d else 0
def colsZ (x : Cfg) (p : Int) : Int := if p = 10 then x.n else if 0 ≤ p ∧ p ≤ 11 then x.d else 0
def areaZ (x : Cfg) (p : Int) : Int := rowsZ x p * colsZ x p
/-- How many bytes k parts from f on have. -/
def spanZ (x : Cfg) (f : Nat) : Nat → Int
  | 0 => 0
  | k + 1 => spanZ x f k + areaZ x ((f + k : Nat) : Int)
theorem part_cases {p : Int} (h0 : 0 ≤ p) (h1 : p ≤ 11) : p = 0 ∨ p = 1 ∨ p = 2 ∨ p = 3 ∨ p = 4 ∨ p = 5 ∨ p = 6 ∨ p = 7 ∨ p = 8 ∨ p = 9 ∨ p = 10 ∨ p = 11 := by omega
theorem rows_in {x : Cfg} (h : In x) {p : Int} (h0 : 0 ≤ p) (h1 : p ≤ 11) : 1 ≤ rowsZ x p ∧ rowsZ x p ≤ 32 := by
  obtain ⟨a, b, c, d, e, f, g, h, i, j, k, l⟩ := h
  unfold rowsZ
  repeat' split
  all_goals omega
theorem cols_in {x : Cfg} (h : In x) {p : Int} (h0 : 0 ≤ p) (h1 : p ≤ 11) : 1 ≤ colsZ x p ∧ colsZ x p ≤ 32 := by
  obtain ⟨a, b, c, d, e, f, g, h, i, j, k, l⟩ := h
  unfold colsZ
  repeat' split
  all_goals omega
theorem rows_out (x : Cfg) {p : Int} (h : p < 0 ∨ 11 < p) : rowsZ x p = 0 := by
  unfold rowsZ
  repeat' rw [if_neg (by omega)]
theorem cols_out (x : Cfg) {p : Int} (h : p < 0 ∨ 11 < p) : colsZ x p = 0 := by
  unfold colsZ
  repeat' rw [if_neg (by omega)]
theorem prod_in {a b : Int} (h1 : 1 ≤ a) (h2 : a ≤ 32) (h3 : 1 ≤ b) (h4 : b ≤ 32) : 1 ≤ a * b ∧ a * b ≤ 1024 :=
  ⟨by have := Int.mul_le_mul h1 h3 (by omega) (by omega); omega, by have := Int.mul_le_mul h2 h4 (by omega) (by omega : (0 : Int) ≤ 32); omega⟩
theorem area_in {x : Cfg} (h : In x) {p : Int} (h0 : 0 ≤ p) (h1 : p ≤ 11) : 1 ≤ areaZ x p ∧ areaZ x p ≤ 1024 := by
  obtain ⟨a, b⟩ := rows_in h h0 h1
  obtain ⟨c, d⟩ := cols_in h h0 h1
  exact prod_in a b c d
theorem span_in {x : Cfg} (h : In x) (f : Nat) : ∀ k, f + k ≤ 12 → (k : Int) ≤ spanZ x f k ∧ spanZ x f k ≤ 1024 * (k : Int)
  | 0, _ => by simp [spanZ]
  | k + 1, hk => by
    have h1 := span_in h f k (by omega)
    have h2 := area_in h (p := ((f + k : Nat) : Int)) (by omega) (by omega)
    unfold spanZ
    omega
def totZ (x : Cfg) : Int := spanZ x 0 2 + x.b * spanZ x 2 9 + spanZ x 11 1
def goodZ (x : Cfg) : Bool := inZ x && (decide (x.d.tmod x.h = 0) && decide (totZ x ≤ 8192))
structure Good (x : Cfg) : Prop where
  is : In x
  rest : x.d.tmod x.h = 0
  fits : totZ x ≤ 8192
theorem good_iff {x : Cfg} : goodZ x = true ↔ Good x := by
  unfold goodZ
  simp only [Bool.and_eq_true, decide_eq_true_iff, in_iff]
  exact ⟨fun ⟨a, b, c⟩ => ⟨a, b, c⟩, fun ⟨a, b, c⟩ => ⟨a, b, c⟩⟩
theorem mid_in {x : Cfg} (h : In x) : 0 ≤ x.b * spanZ x 2 9 ∧ x.b * spanZ x 2 9 ≤ 27648 := by
  have h1 := span_in h 2 9 (by omega)
  have h2 := h.b1
  have h3 := h.b3
  exact ⟨Int.mul_nonneg (by omega) (by omega), by have := Int.mul_le_mul h3 (show spanZ x 2 9 ≤ 9216 by omega) (by omega) (by omega : (0 : Int) ≤ 3); omega⟩
theorem tot_in {x : Cfg} (h : In x) : 0 ≤ totZ x ∧ totZ x ≤ 40000 := by
  have h1 := span_in h 0 2 (by omega)
  have h2 := span_in h 11 1 (by omega)
  have h3 := mid_in h
  unfold totZ
  omega
/-- Of how many blocks there is a part. -/
def timesZ (x : Cfg) (p : Int) : Int := if 2 ≤ p ∧ p < 11 then x.b else 1
/-- Whether there is such a part of such a block; from where on it stands. -/
def isZ (x : Cfg) (p k : Int) : Bool := goodZ x && (decide (0 ≤ p) && (decide (p ≤ 11) && (decide (0 ≤ k) && decide (k < timesZ x p))))
def fromZ (x : Cfg) (p k : Int) : Int := (if p = 11 then x.b - 1 else k) * spanZ x 2 9 + spanZ x 0 p.toNat
end Cf
end Go.Proofs.YtgdckpldbofgfaaDoor
namespace Go.Proofs.YtgdckpldbofgfaaDoor
open Go Go.RowKit Pn
namespace Cf

def nthZ (x : Cfg) (i : Nat) : Int := match i with | 0 => x.v | 1 => x.d | 2 => x.h | 3 => x.b | 4 => x.n | _ => x.c
def cfgB (x : Cfg) : ByteArray := ⟨(numsL (nthZ x) 6).toArray⟩
theorem cfgB_pen (x : Cfg) : penL [⟨(numsL (nthZ x) 6).toArray⟩] = numsL (nthZ x) 6 := by simp [penL]
theorem cfgB_size (x : Cfg) : (cfgB x).size = 24 := by
  show (numsL (nthZ x) 6).toArray.size = 24
  rw [List.size_toArray, numsL_length]
/-- What is left of a text behind i numbers, whether one was wrong, and the next number. -/
def rsT (m : Nat → Int) (t : ByteArray) : Nat → ByteArray
  | 0 => t
  | i + 1 => nmRest (rsT m t i) (m i)
def bsT (m : Nat → Int) (t : ByteArray) : Nat → Bool
  | 0 => false
  | i + 1 => nmBad (rsT m t i) (bsT m t i) (m i)
def vsT (m : Nat → Int) (t : ByteArray) (i : Nat) : Nat := nmOut (rsT m t i) (m i)
def cfgT (m : Nat → Int) (t : ByteArray) : Cfg := ⟨vsT m t 0, vsT m t 1, vsT m t 2, vsT m t 3, vsT m t 4, vsT m t 5⟩
def lim (i : Nat) : Int := match i with | 0 => 32 | 1 => 16 | 2 => 4 | 3 => 3 | 4 => 32 | _ => 32
def free (_ : Nat) : Int := 4294967295
theorem sane_T (m : Nat → Int) (t : ByteArray) : ∀ i, Sane (rsT m t i) (bsT m t i)
  | 0 => fun h => by cases h
  | i + 1 => nm_sane (sane_T m t i) (m i)
def okT (m : Nat → Int) (t : ByteArray) : Bool := goodZ (cfgT m t) && (!bsT m t 6 && decide ((rsT m t 6).size = 0))
theorem okT_iff {m : Nat → Int} {t : ByteArray} : okT m t = true ↔ Good (cfgT m t) ∧ bsT m t 6 = false ∧ (rsT m t 6).size = 0 := by
  unfold okT
  simp only [Bool.and_eq_true, Bool.not_eq_true', decide_eq_true_iff, good_iff]
theorem low_ok {r : ByteArray} {m : Int} (h : 1 ≤ nmOut r m) : nmOk r m = true := by
  cases ho : nmOk r m with
  | true => rfl
  | false => rw [nm_out_no ho] at h; omega
theorem free_ok {r : ByteArray} {m : Int} (h : nmOk r m = true) (i : Nat) : nmOk r (free i) = true := by
  unfold nmOk at h
  simp only [Bool.and_eq_true, decide_eq_true_iff] at h
  exact nm_ok h.1 (by have := le4_lt r; unfold free; omega)
/-- A step that both readers take alike. -/
theorem step_alike {m : Nat → Int} {t : ByteArray} {i : Nat} (hr : rsT m t i = rsT free t i) (hb : bsT m t i = bsT free t i) (h1 : nmOk (rsT free t i) (m i) = true) :
    vsT m t i = vsT free t i ∧ rsT m t (i + 1) = rsT free t (i + 1) ∧ bsT m t (i + 1) = bsT free t (i + 1) := by
  have h2 := free_ok h1 i
  have h3 : nmOk (rsT m t i) (m i) = true := by rw [hr]; exact h1
  refine ⟨?_, ?_, ?_⟩
  · unfold vsT
    rw [nm_out_yes h3, nm_out_yes h2, hr]
  · show nmRest (rsT m t i) (m i) = nmRest (rsT free t i) (free i)
    rw [nm_rest_yes h3, nm_rest_yes h2, hr]
  · show nmBad (rsT m t i) (bsT m t i) (m i) = nmBad (rsT free t i) (bsT free t i) (free i)
    rw [nm_bad_yes _ h3, nm_bad_yes _ h2, hb]
theorem six_alike {m : Nat → Int} {t : ByteArray} (h : ∀ i, i < 6 → rsT m t i = rsT free t i → nmOk (rsT free t i) (m i) = true) :
    ∀ i, i ≤ 6 → rsT m t i = rsT free t i ∧ bsT m t i = bsT free t i ∧ (∀ j, j < i → vsT m t j = vsT free t j)
  | 0, _ => ⟨rfl, rfl, fun j hj => by omega⟩
  | i + 1, hi => by
    obtain ⟨a, b, c⟩ := six_alike h i (by omega)
    obtain ⟨d, e, f⟩ := step_alike a b (h i (by omega) a)
    exact ⟨e, f, fun j hj => by
      by_cases hji : j = i
      · rw [hji]; exact d
      · exact c j (by omega)⟩
theorem cfg_alike {m : Nat → Int} {t : ByteArray} (h : ∀ i, i < 6 → vsT m t i = vsT free t i) : cfgT m t = cfgT free t := by
  unfold cfgT
  rw [h 0 (by omega), h 1 (by omega), h 2 (by omega), h 3 (by omega), h 4 (by omega), h 5 (by omega)]
theorem each_low {m : Nat → Int} {t : ByteArray} (h : In (cfgT m t)) (i : Nat) (hi : i < 6) : 1 ≤ vsT m t i := by
  obtain ⟨a, _, b, _, c, _, d, _, e, _, f, _⟩ := h
  unfold cfgT at a b c d e f
  rcases (show i = 0 ∨ i = 1 ∨ i = 2 ∨ i = 3 ∨ i = 4 ∨ i = 5 by omega) with rfl | rfl | rfl | rfl | rfl | rfl <;> (dsimp only at a b c d e f; omega)
theorem each_lim {m : Nat → Int} {t : ByteArray} (h : In (cfgT m t)) (i : Nat) (hi : i < 6) : (vsT m t i : Int) ≤ lim i := by
  obtain ⟨_, a, _, b, _, c, _, d, _, e, _, f⟩ := h
  rcases (show i = 0 ∨ i = 1 ∨ i = 2 ∨ i = 3 ∨ i = 4 ∨ i = 5 by omega) with rfl | rfl | rfl | rfl | rfl | rfl
  · exact a
  · exact b
  · exact c
  · exact d
  · exact e
  · exact f
theorem bad_stays {m : Nat → Int} {t : ByteArray} (i : Nat) : ∀ k, bsT m t (i + k) = false → bsT m t i = false
  | 0, h => h
  | k + 1, h => by
    have h' : nmBad (rsT m t (i + k)) (bsT m t (i + k)) (m (i + k)) = false := h
    unfold nmBad at h'
    exact bad_stays i k (Bool.or_eq_false_iff.1 h').1
/-- With limits or without, what is read is the same. -/
theorem read_alike (t : ByteArray) : okT lim t = okT free t ∧ (okT free t = true → cfgT lim t = cfgT free t) := by
  have key : (okT lim t = true ∨ okT free t = true) → ∀ i, i < 6 → rsT lim t i = rsT free t i → nmOk (rsT free t i) (lim i) = true := fun h i hi he => by
    rcases h with h | h
    · have := low_ok (each_low (okT_iff.1 h).1.is i hi)
      rwa [he] at this
    · obtain ⟨h1, h2, h3⟩ := okT_iff.1 h
      have hb : bsT free t (i + 1) = false := bad_stays (i + 1) (6 - (i + 1)) (by rw [show i + 1 + (6 - (i + 1)) = 6 by omega]; exact h2)
      have hb' : nmBad (rsT free t i) (bsT free t i) (free i) = false := hb
      have ho : nmOk (rsT free t i) (free i) = true := by
        unfold nmBad at hb'
        have := (Bool.or_eq_false_iff.1 hb').2
        simpa using this
      have hl := each_lim h1.is i hi
      unfold vsT at hl
      rw [nm_out_yes ho] at hl
      unfold nmOk at ho
      simp only [Bool.and_eq_true, decide_eq_true_iff] at ho
      exact nm_ok ho.1 hl
  have all : (okT lim t = true ∨ okT free t = true) → okT lim t = okT free t ∧ cfgT lim t = cfgT free t := fun h => by
    obtain ⟨a, b, c⟩ := six_alike (key h) 6 (Nat.le_refl _)
    have hc := cfg_alike c
    refine ⟨?_, hc⟩
    unfold okT
    rw [hc, a, b]
  cases h1 : okT lim t with
  | true => exact ⟨by rw [← (all (.inl h1)).1, h1], fun _ => (all (.inl h1)).2⟩
  | false =>
    cases h2 : okT free t with
    | true => rw [← (all (.inr h2)).1, h1] at h2; cases h2
    | false => exact ⟨rfl, fun h => by cases h⟩
/-- What was written is read as it was. -/
theorem back_step (m : Nat → Int) (t : ByteArray) (i : Nat) (z : Int) (T : List UInt8) (h : rsT m t i = ⟨(numL z ++ T).toArray⟩) (hb : bsT m t i = false) (hz : numOk z = true) (hm : z ≤ m i) :
    (vsT m t i : Int) = z ∧ rsT m t (i + 1) = ⟨T.toArray⟩ ∧ bsT m t (i + 1) = false := by
  refine ⟨?_, ?_, ?_⟩
  · unfold vsT
    rw [h, nm_num_out z hz T _ hm]
  · show nmRest (rsT m t i) (m i) = _
    rw [h, nm_num_rest z hz T _ hm]
  · show nmBad (rsT m t i) (bsT m t i) (m i) = _
    rw [h, hb, nm_num_bad z hz T _ hm]
theorem nums_six (x : Cfg) : numsL (nthZ x) 6 = numL x.v ++ (numL x.d ++ (numL x.h ++ (numL x.b ++ (numL x.n ++ (numL x.c ++ []))))) := by
  show (List.range 6).flatMap (fun i => numL (nthZ x i)) = _
  simp [List.range_succ, nthZ]
theorem back_cfg (x : Cfg) (h : Good x) : okT lim (cfgB x) = true ∧ cfgT lim (cfgB x) = x := by
  obtain ⟨a, a2, b, b2, c, c2, d, d2, e, e2, f, f2⟩ := h.is
  obtain ⟨v0, r1, b1⟩ := back_step lim (cfgB x) 0 x.v _ (by show cfgB x = _; unfold cfgB; rw [nums_six]) rfl (num_ok (by omega) (by omega)) a2
  obtain ⟨v1, r2, b2'⟩ := back_step lim (cfgB x) 1 x.d _ r1 b1 (num_ok (by omega) (by omega)) b2
  obtain ⟨v2, r3, b3⟩ := back_step lim (cfgB x) 2 x.h _ r2 b2' (num_ok (by omega) (by omega)) c2
  obtain ⟨v3, r4, b4⟩ := back_step lim (cfgB x) 3 x.b _ r3 b3 (num_ok (by omega) (by omega)) d2
  obtain ⟨v4, r5, b5⟩ := back_step lim (cfgB x) 4 x.n _ r4 b4 (num_ok (by omega) (by omega)) e2
  obtain ⟨v5, r6, b6⟩ := back_step lim (cfgB x) 5 x.c _ r5 b5 (num_ok (by omega) (by omega)) f2
  have hc : cfgT lim (cfgB x) = x := by
    unfold cfgT
    rw [v0, v1, v2, v3, v4, v5]
  exact ⟨okT_iff.2 ⟨by rw [hc]; exact h, b6, by rw [r6]; rfl⟩, hc⟩
end Cf
end Go.Proofs.YtgdckpldbofgfaaDoor
namespace Go.Proofs.YtgdckpldbofgfaaDoor
open Go.ChangeShapes Go.WideShapes Go.ChangeAt Go.RowKit

theorem str_cut (q : ByteArray) (i j : Nat) (I J : Int) (hI : I = (i : Int)) (hJ : J = (j : Int)) (h1 : i ≤ j) (h2 : j ≤ q.size) (W : World) : (Instr.slice 9 (.string q) (some (.int .i64 I)) (some (.int .i64 J)) none).run Tryd.prog W = .ok (.string (q.extract i j)) W := by
  subst hI hJ
  have := run_slice_string (P := Tryd.prog) W 9 q .i64 .i64 (i : Int) (j : Int) Tryd.underlying9 (by omega) (by omega) (by omega)
  simpa using this
theorem str_to (q : ByteArray) (j : Nat) (J : Int) (hJ : J = (j : Int)) (h2 : j ≤ q.size) (W : World) : (Instr.slice 9 (.string q) none (some (.int .i64 J)) none).run Tryd.prog W = .ok (.string (q.extract 0 j)) W := by
  subst hJ
  have := run_slice_string_to_if (P := Tryd.prog) W 9 q .i64 (j : Int) Tryd.underlying9
  rw [if_pos ⟨by omega, by omega⟩] at this
  simpa using this
theorem str_from (q : ByteArray) (i : Nat) (I : Int) (hI : I = (i : Int)) (h : i ≤ q.size) (W : World) : (Instr.slice 9 (.string q) (some (.int .i64 I)) none none).run Tryd.prog W = .ok (.string (q.extract i q.size)) W := by
  subst hI
  have := run_slice_string_from_if (P := Tryd.prog) W 9 q .i64 (i : Int) Tryd.underlying9
  rw [if_pos ⟨by omega, by omega⟩] at this
  simpa using this
end Go.Proofs.YtgdckpldbofgfaaDoor
