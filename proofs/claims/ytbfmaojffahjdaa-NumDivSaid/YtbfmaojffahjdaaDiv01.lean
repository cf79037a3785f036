/-
  Proved: NumDiv: for every two numbers the law answers true. No conditions.
-/
import Derived.Test.YtbfmaojffahjdaaAwake01
namespace Go.Proofs.Ytbfmaojffahjdaa.numDiv
open Go.ChangeShapes Go.WideShapes Go.ChangeAt Go.RowKit Nm

theorem walk_far (a b : Int) (ha : Fits a) (w : World)
    (h : 1152921504606846976 < a ∨ (a ≤ 1152921504606846976 ∧ a < -1152921504606846976) ∨ (a ≤ 1152921504606846976 ∧ -1152921504606846976 ≤ a ∧ 1152921504606846976 < b) ∨
      (a ≤ 1152921504606846976 ∧ -1152921504606846976 ≤ a ∧ b ≤ 1152921504606846976 ∧ b < -1152921504606846976)) :
    Calls Try.prog 6 #[.int .i64 a, .int .i64 b] w fun e w' => e = .returned (.bool true) ∧ Below w.heap.size w w' := by
  rcases h with h | h | h | h
  all_goals
    go_enter Try.func6, Try.ntmps6
    go_wp2_with (first | (go_at_call 7; refine (awake_any _).mono ?_; rintro e w' ⟨rfl, hw⟩) | (go_at_call 18; refine (as_val (v' := .int .i64 0) (div_any a 0 _ ha) rfl).mono ?_; rintro e w' ⟨rfl, rfl⟩))
    go_ret
    exact ⟨rfl, hw⟩
theorem walk_nil (a : Int) (ha : Fits a) (w : World) (h1 : a ≤ 1152921504606846976) (h2 : -1152921504606846976 ≤ a) :
    Calls Try.prog 6 #[.int .i64 a, .int .i64 0] w fun e w' => e = .returned (.bool true) ∧ Below w.heap.size w w' := by
  go_enter Try.func6, Try.ntmps6
  go_wp2_with (first | (go_at_call 7; refine (awake_any _).mono ?_; rintro e w' ⟨rfl, hw⟩) | (go_at_call 18; refine (as_val (v' := .int .i64 0) (div_any a 0 _ ha) rfl).mono ?_; rintro e w' ⟨rfl, rfl⟩))
  go_ret
  exact ⟨rfl, hw⟩
theorem walk_near (a b : Int) (ha : Fits a) (w : World) (h1 : a ≤ 1152921504606846976) (h2 : -1152921504606846976 ≤ a) (h3 : b ≤ 1152921504606846976) (h4 : -1152921504606846976 ≤ b) (h5 : b < 0 ∨ 0 < b) :
    Calls Try.prog 6 #[.int .i64 a, .int .i64 b] w fun e w' => e = .returned (.bool true) ∧ Below w.heap.size w w' := by
  obtain ⟨q, hq⟩ : ∃ q, q = a.fdiv b := ⟨_, rfl⟩
  have hd : div a b = q := by unfold div; rw [if_neg (by omega), if_neg (by omega), hq]
  have hm := fdiv_mul a b
  rw [← hq] at hm
  have HD : ∀ W, Calls Try.prog 18 #[.int .i64 a, .int .i64 b] W fun e w' => e = .returned (.int .i64 q) ∧ W = w' := fun W => as_val (div_any a b W ha) (by rw [hd])
  have HE := Lib.hid HD
  clear HD hd ha
  have d1 : decide (1152921504606846976 < a) = false := decide_eq_false (by omega)
  have d2 : decide (a < -1152921504606846976) = false := decide_eq_false (by omega)
  have d3 : decide (1152921504606846976 < b) = false := decide_eq_false (by omega)
  have d4 : decide (b < -1152921504606846976) = false := decide_eq_false (by omega)
  have d5 : (b == 0) = false := beq_eq_false_iff_ne.2 (by omega)
  rcases h5 with h5 | h5
  · have hf := fmod_neg a b h5
    have g1 : -1152921504606846976 * 2 ≤ q * b := by omega
    have g2 : q * b ≤ 1152921504606846976 * 2 := by omega
    have g3 : a - q * b ≤ 0 := by omega
    have g4 : b < a - q * b := by omega
    clear hf hm hq
    have d6 : decide (0 < b) = false := decide_eq_false (by omega)
    have d7 : decide (b < 0) = true := decide_eq_true (by omega)
    have d8 : decide (a - q * b ≤ 0) = true := decide_eq_true (by omega)
    have d9 : decide (b < a - q * b) = true := decide_eq_true (by omega)
    go_enter Try.func6, Try.ntmps6
    go_wp2_with (first | (go_at_call 7; refine (awake_any _).mono ?_; rintro e w' ⟨rfl, hw⟩) | (go_at_call 18; refine (HE.out _).mono ?_; rintro e w' ⟨rfl, rfl⟩))
    go_ret
    exact ⟨rfl, hw⟩
  · have hf := fmod_pos a b h5
    have g1 : -1152921504606846976 * 2 ≤ q * b := by omega
    have g2 : q * b ≤ 1152921504606846976 * 2 := by omega
    have g3 : 0 ≤ a - q * b := by omega
    have g4 : a - q * b < b := by omega
    clear hf hm hq
    have d6 : decide (0 < b) = true := decide_eq_true (by omega)
    have d8 : decide (0 ≤ a - q * b) = true := decide_eq_true (by omega)
    have d9 : decide (a - q * b < b) = true := decide_eq_true (by omega)
    go_enter Try.func6, Try.ntmps6
    go_wp2_with (first | (go_at_call 7; refine (awake_any _).mono ?_; rintro e w' ⟨rfl, hw⟩) | (go_at_call 18; refine (HE.out _).mono ?_; rintro e w' ⟨rfl, rfl⟩))
    go_ret
    exact ⟨rfl, hw⟩

theorem walk (a b : Int) (ha : Fits a) (_ : Fits b) (w : World) :
    Calls Try.prog 6 #[.int .i64 a, .int .i64 b] w fun e w' => e = .returned (.bool true) ∧ Below w.heap.size w w' := by
  by_cases h : 1152921504606846976 < a ∨ (a ≤ 1152921504606846976 ∧ a < -1152921504606846976) ∨ (a ≤ 1152921504606846976 ∧ -1152921504606846976 ≤ a ∧ 1152921504606846976 < b) ∨
      (a ≤ 1152921504606846976 ∧ -1152921504606846976 ≤ a ∧ b ≤ 1152921504606846976 ∧ b < -1152921504606846976)
  · exact walk_far a b ha w h
  by_cases h0 : b = 0
  · subst h0
    exact walk_nil a ha w (by omega) (by omega)
  · exact walk_near a b ha w (by omega) (by omega) (by omega) (by omega) (by omega)
end Go.Proofs.Ytbfmaojffahjdaa.numDiv
