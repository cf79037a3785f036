/-
  A shape's bytes, and what six numbers of a text tell, with limits and without. No program here. No conditions.
-/
import Derived.Test.YtlapinecmiacoaaMe3
import Derived.Test.YtlapinecmiacoaaMe4
set_option maxRecDepth 100000
namespace Go.Proofs.Ytlapinecmiacoaa
open Go Go.RowKit Pn
namespace Cf

def nthZ (x : Cfg) (i : Nat) : Int := match i with | 0 => x.v | 1 => x.d | 2 => x.h | 3 => x.b | 4 => x.n | _ => x.c
def cfgB (x : Cfg) : ByteArray := ⟨(numsL (nthZ x) 6).toArray⟩
theorem cfgB_pen (x : Cfg) : penL [⟨(numsL (nthZ x) 6).toArray⟩] = numsL (nthZ x) 6 := by simp [penL]
theorem cfgB_size (x : Cfg) : (cfgB x).size = 24 := by
  show (numsL (nthZ x) 6).toArray.size = 24
  rw [List.size_toArray, numsL_length]
/-- What is left of a text behind i numbers, whether one was wrong, and the next number. -/
def rsT (m : Nat → Int) (t : ByteArray) : Nat → ByteArray
  | 0 => t
  | i + 1 => nmRest (rsT m t i) (m i)
def bsT (m : Nat → Int) (t : ByteArray) : Nat → Bool
  | 0 => false
  | i + 1 => nmBad (rsT m t i) (bsT m t i) (m i)
def vsT (m : Nat → Int) (t : ByteArray) (i : Nat) : Nat := nmOut (rsT m t i) (m i)
def cfgT (m : Nat → Int) (t : ByteArray) : Cfg := ⟨vsT m t 0, vsT m t 1, vsT m t 2, vsT m t 3, vsT m t 4, vsT m t 5⟩
def lim (i : Nat) : Int := match i with | 0 => 32 | 1 => 16 | 2 => 4 | 3 => 3 | 4 => 32 | _ => 32
def free (_ : Nat) : Int := 4294967295
theorem sane_T (m : Nat → Int) (t : ByteArray) : ∀ i, Sane (rsT m t i) (bsT m t i)
  | 0 => fun h => by cases h
  | i + 1 => nm_sane (sane_T m t i) (m i)
def okT (m : Nat → Int) (t : ByteArray) : Bool := goodZ (cfgT m t) && (!bsT m t 6 && decide ((rsT m t 6).size = 0))
theorem okT_iff {m : Nat → Int} {t : ByteArray} : okT m t = true ↔ Good (cfgT m t) ∧ bsT m t 6 = false ∧ (rsT m t 6).size = 0 := by
  unfold okT
  simp only [Bool.and_eq_true, Bool.not_eq_true', decide_eq_true_iff, good_iff]
theorem low_ok {r : ByteArray} {m : Int} (h : 1 ≤ nmOut r m) : nmOk r m = true := by
  cases ho : nmOk r m with
  | true => rfl
  | false => rw [nm_out_no ho] at h; omega
theorem free_ok {r : ByteArray} {m : Int} (h : nmOk r m = true) (i : Nat) : nmOk r (free i) = true := by
  unfold nmOk at h
  simp only [Bool.and_eq_true, decide_eq_true_iff] at h
  exact nm_ok h.1 (by have := le4_lt r; unfold free; omega)
/-- A step that both readers take alike. -/
theorem step_alike {m : Nat → Int} {t : ByteArray} {i : Nat} (hr : rsT m t i = rsT free t i) (hb : bsT m t i = bsT free t i) (h1 : nmOk (rsT free t i) (m i) = true) :
    vsT m t i = vsT free t i ∧ rsT m t (i + 1) = rsT free t (i + 1) ∧ bsT m t (i + 1) = bsT free t (i + 1) := by
  have h2 := free_ok h1 i
  have h3 : nmOk (rsT m t i) (m i) = true := by rw [hr]; exact h1
  refine ⟨?_, ?_, ?_⟩
  · unfold vsT
    rw [nm_out_yes h3, nm_out_yes h2, hr]
  · show nmRest (rsT m t i) (m i) = nmRest (rsT free t i) (free i)
    rw [nm_rest_yes h3, nm_rest_yes h2, hr]
  · show nmBad (rsT m t i) (bsT m t i) (m i) = nmBad (rsT free t i) (bsT free t i) (free i)
    rw [nm_bad_yes _ h3, nm_bad_yes _ h2, hb]
theorem six_alike {m : Nat → Int} {t : ByteArray} (h : ∀ i, i < 6 → rsT m t i = rsT free t i → nmOk (rsT free t i) (m i) = true) :
    ∀ i, i ≤ 6 → rsT m t i = rsT free t i ∧ bsT m t i = bsT free t i ∧ (∀ j, j < i → vsT m t j = vsT free t j)
  | 0, _ => ⟨rfl, rfl, fun j hj => by omega⟩
  | i + 1, hi => by
    obtain ⟨a, b, c⟩ := six_alike h i (by omega)
    obtain ⟨d, e, f⟩ := step_alike a b (h i (by omega) a)
    exact ⟨e, f, fun j hj => by
      by_cases hji : j = i
      · rw [hji]; exact d
      · exact c j (by omega)⟩
theorem cfg_alike {m : Nat → Int} {t : ByteArray} (h : ∀ i, i < 6 → vsT m t i = vsT free t i) : cfgT m t = cfgT free t := by
  unfold cfgT
  rw [h 0 (by omega), h 1 (by omega), h 2 (by omega), h 3 (by omega), h 4 (by omega), h 5 (by omega)]
theorem each_low {m : Nat → Int} {t : ByteArray} (h : In (cfgT m t)) (i : Nat) (hi : i < 6) : 1 ≤ vsT m t i := by
  obtain ⟨a, _, b, _, c, _, d, _, e, _, f, _⟩ := h
  unfold cfgT at a b c d e f
  rcases (show i = 0 ∨ i = 1 ∨ i = 2 ∨ i = 3 ∨ i = 4 ∨ i = 5 by omega) with rfl | rfl | rfl | rfl | rfl | rfl <;> (dsimp only at a b c d e f; omega)
theorem each_lim {m : Nat → Int} {t : ByteArray} (h : In (cfgT m t)) (i : Nat) (hi : i < 6) : (vsT m t i : Int) ≤ lim i := by
  obtain ⟨_, a, _, b, _, c, _, d, _, e, _, f⟩ := h
  rcases (show i = 0 ∨ i = 1 ∨ i = 2 ∨ i = 3 ∨ i = 4 ∨ i = 5 by omega) with rfl | rfl | rfl | rfl | rfl | rfl
  · exact a
  · exact b
  · exact c
  · exact d
  · exact e
  · exact f
theorem bad_stays {m : Nat → Int} {t : ByteArray} (i : Nat) : ∀ k, bsT m t (i + k) = false → bsT m t i = false
  | 0, h => h
  | k + 1, h => by
    have h' : nmBad (rsT m t (i + k)) (bsT m t (i + k)) (m (i + k)) = false := h
    unfold nmBad at h'
    exact bad_stays i k (Bool.or_eq_false_iff.1 h').1
/-- With limits or without, what is read is the same. -/
theorem read_alike (t : ByteArray) : okT lim t = okT free t ∧ (okT free t = true → cfgT lim t = cfgT free t) := by
  have key : (okT lim t = true ∨ okT free t = true) → ∀ i, i < 6 → rsT lim t i = rsT free t i → nmOk (rsT free t i) (lim i) = true := fun h i hi he => by
    rcases h with h | h
    · have := low_ok (each_low (okT_iff.1 h).1.is i hi)
      rwa [he] at this
    · obtain ⟨h1, h2, h3⟩ := okT_iff.1 h
      have hb : bsT free t (i + 1) = false := bad_stays (i + 1) (6 - (i + 1)) (by rw [show i + 1 + (6 - (i + 1)) = 6 by omega]; exact h2)
      have hb' : nmBad (rsT free t i) (bsT free t i) (free i) = false := hb
      have ho : nmOk (rsT free t i) (free i) = true := by
        unfold nmBad at hb'
        have := (Bool.or_eq_false_iff.1 hb').2
        simpa using this
      have hl := each_lim h1.is i hi
      unfold vsT at hl
      rw [nm_out_yes ho] at hl
      unfold nmOk at ho
      simp only [Bool.and_eq_true, decide_eq_true_iff] at ho
      exact nm_ok ho.1 hl
  have all : (okT lim t = true ∨ okT free t = true) → okT lim t = okT free t ∧ cfgT lim t = cfgT free t := fun h => by
    obtain ⟨a, b, c⟩ := six_alike (key h) 6 (Nat.le_refl _)
    have hc := cfg_alike c
    refine ⟨?_, hc⟩
    unfold okT
    rw [hc, a, b]
  cases h1 : okT lim t with
  | true => exact ⟨by rw [← (all (.inl h1)).1, h1], fun _ => (all (.inl h1)).2⟩
  | false =>
    cases h2 : okT free t with
    | true => rw [← (all (.inr h2)).1, h1] at h2; cases h2
    | false => exact ⟨rfl, fun h => by cases h⟩
/-- What was written is read as it was. -/
theorem back_step (m : Nat → Int) (t : ByteArray) (i : Nat) (z : Int) (T : List UInt8) (h : rsT m t i = ⟨(numL z ++ T).toArray⟩) (hb : bsT m t i = false) (hz : numOk z = true) (hm : z ≤ m i) :
    (vsT m t i : Int) = z ∧ rsT m t (i + 1) = ⟨T.toArray⟩ ∧ bsT m t (i + 1) = false := by
  refine ⟨?_, ?_, ?_⟩
  · unfold vsT
    rw [h, nm_num_out z hz T _ hm]
  · show nmRest (rsT m t i) (m i) = _
    rw [h, nm_num_rest z hz T _ hm]
  · show nmBad (rsT m t i) (bsT m t i) (m i) = _
    rw [h, hb, nm_num_bad z hz T _ hm]
theorem nums_six (x : Cfg) : numsL (nthZ x) 6 = numL x.v ++ (numL x.d ++ (numL x.h ++ (numL x.b ++ (numL x.n ++ (numL x.c ++ []))))) := by
  show (List.range 6).flatMap (fun i => numL (nthZ x i)) = _
  simp [List.range_succ, nthZ]
theorem back_cfg (x : Cfg) (h : Good x) : okT lim (cfgB x) = true ∧ cfgT lim (cfgB x) = x := by
  obtain ⟨a, a2, b, b2, c, c2, d, d2, e, e2, f, f2⟩ := h.is
  obtain ⟨v0, r1, b1⟩ := back_step lim (cfgB x) 0 x.v _ (by show cfgB x = _; unfold cfgB; rw [nums_six]) rfl (num_ok (by omega) (by omega)) a2
  obtain ⟨v1, r2, b2'⟩ := back_step lim (cfgB x) 1 x.d _ r1 b1 (num_ok (by omega) (by omega)) b2
  obtain ⟨v2, r3, b3⟩ := back_step lim (cfgB x) 2 x.h _ r2 b2' (num_ok (by omega) (by omega)) c2
  obtain ⟨v3, r4, b4⟩ := back_step lim (cfgB x) 3 x.b _ r3 b3 (num_ok (by omega) (by omega)) d2
  obtain ⟨v4, r5, b5⟩ := back_step lim (cfgB x) 4 x.n _ r4 b4 (num_ok (by omega) (by omega)) e2
  obtain ⟨v5, r6, b6⟩ := back_step lim (cfgB x) 5 x.c _ r5 b5 (num_ok (by omega) (by omega)) f2
  have hc : cfgT lim (cfgB x) = x := by
    unfold cfgT
    rw [v0, v1, v2, v3, v4, v5]
  exact ⟨okT_iff.2 ⟨by rw [hc]; exact h, b6, by rw [r6]; rfl⟩, hc⟩
end Cf
end Go.Proofs.Ytlapinecmiacoaa
