/-
  The document's answers for layer 1, call by call: what each comes to. Conditions: numbers are such as an int holds.
-/
import Derived.Test.YtgoeaepjffimgaaNum
namespace Go.Proofs.Ytgoeaepjffimgaa
open Go.ChangeShapes Go.WideShapes Go.ChangeAt Go.RowKit Nm

theorem rclamp_any (x lo hi : Int) (w : World) :
    Calls Try.prog 19 #[.int .i64 x, .int .i64 lo, .int .i64 hi] w fun e w' => e = .returned (.int .i64 (clamp x lo hi)) ∧ w = w' := by
  by_cases h1 : x < lo
  · go_enter Try.func19, Try.ntmps19
    go_wp2
    go_ret
    exact ⟨ret_i (by unfold clamp; rw [if_pos (by omega)]), rfl⟩
  by_cases h2 : hi < x
  · go_enter Try.func19, Try.ntmps19
    go_wp2
    go_ret
    exact ⟨ret_i (by unfold clamp; rw [if_neg (by omega), if_pos (by omega)]), rfl⟩
  · go_enter Try.func19, Try.ntmps19
    go_wp2
    go_ret
    exact ⟨ret_i (by unfold clamp; rw [if_neg (by omega), if_neg (by omega)]), rfl⟩

theorem rsat_any (x : Int) (w : World) :
    Calls Try.prog 16 #[.int .i64 x] w fun e w' => e = .returned (.int .i64 (sat x)) ∧ w = w' := by
  go_enter Try.func16, Try.ntmps16
  go_wp2_with (go_at_call 19; refine (rclamp_any _ _ _ _).mono ?_; rintro e w' ⟨rfl, rfl⟩)
  go_ret
  exact ⟨ret_i rfl, rfl⟩

set_option maxRecDepth 100000 in
set_option maxHeartbeats 400000 in
theorem rsqrt_any (n : Int) (w : World) (hn : Fits n) :
    Calls Try.prog 17 #[.int .i64 n] w fun e w' => e = .returned (.int .i64 (sqrt n)) ∧ w = w' := by
  have hn2 := hn.2
  obtain ⟨m, hm⟩ : ∃ m, m = n.toNat := ⟨_, rfl⟩
  have hm2 : m < 9223372036854775808 := by omega
  have HM := Lib.hid hm
  clear hn hm
  go_enter Try.func17, Try.ntmps17
  go_wp2
  go_loop [3, 4] (fun r i => ∃ s j : Nat, j ≤ 32 ∧ RootTill m s j ∧ r = .int .i64 (s : Int) ∧ i = .int .i64 ((j : Int) - 1)) (fun _ i => (intOf i + 1).toNat)
  case atStart => exact ⟨0, 32, by omega, root_start m hm2, rfl, rfl⟩
  case round =>
    obtain ⟨s, j, hj, hr, rfl, rfl⟩ := hrel
    cases j with
    | zero =>
      have HE := Lib.hid (show (s : Int) = sqrt n by rw [← root_end hr]; unfold sqrt; rw [HM.out, Int.toNat_natCast])
      clear hr
      rw [show (((0 : Nat) : Int) - 1) = -1 from rfl]
      go_wp2
      go_ret
      exact ⟨ret_i HE.out, rfl⟩
    | succ i =>
      have hl := root_till_lt hr
      obtain ⟨b, hb⟩ : ∃ b, b = 2 ^ i := ⟨_, rfl⟩
      have HY := Lib.hid (@root_yes m s i hr)
      have HN := Lib.hid (@root_no m s i hr)
      rw [← hb] at hl HY HN
      have e0 : wrap64 (2 ^ i) = (b : Int) := by
        have e : (2 : Int) ^ i = (b : Int) := by rw [hb]; simp
        rw [e]
        exact IntWalk.wrap64_in _ ⟨by omega, by omega⟩
      clear hb hr
      rw [show (((i + 1 : Nat) : Int) - 1) = (i : Int) by omega]
      have hsq := root_sq_lt hl.1
      rw [Int.natCast_add] at hsq
      have hsq0 : 1 ≤ ((s : Int) + b) * ((s : Int) + b) := by
        have := Int.mul_le_mul (show (1 : Int) ≤ s + b by omega) (show (1 : Int) ≤ s + b by omega) (by omega) (by omega)
        omega
      have hcast : ((s : Int) + b) * ((s : Int) + b) = (((s + b) * (s + b) : Nat) : Int) := by simp
      by_cases hc : (s : Int) + b ≤ 3037000499
      · have d1 : decide ((s : Int) + b ≤ 3037000499) = true := decide_eq_true hc
        have hs3 : ((s : Int) + b) * ((s : Int) + b) ≤ 9223372036854775807 := by
          have := Int.mul_le_mul hc hc (by omega) (by omega)
          omega
        by_cases ht : ((s : Int) + b) * ((s : Int) + b) ≤ n
        · have d2 : decide (((s : Int) + b) * ((s : Int) + b) ≤ n) = true := decide_eq_true ht
          have HT := Lib.hid (show (s + b) * (s + b) ≤ m by have := HM.out; omega)
          clear hcast
          go_wp2
          go_round
          case rel => exact ⟨s + b, i, by omega, HY.out HT.out, by go_num, rfl⟩
          case measure => simp [intOf]
        · have d2 : decide (((s : Int) + b) * ((s : Int) + b) ≤ n) = false := decide_eq_false ht
          have HT := Lib.hid (show m < (s + b) * (s + b) by have := HM.out; omega)
          clear hcast
          go_wp2
          go_round
          case rel => exact ⟨s, i, by omega, HN.out HT.out, rfl, rfl⟩
          case measure => simp [intOf]
      · have d1 : decide ((s : Int) + b ≤ 3037000499) = false := decide_eq_false hc
        have HT := Lib.hid (show m < (s + b) * (s + b) by have := HM.out; have := root_test (n := n) (s := s) (b := b) hn2 (by omega); omega)
        clear hcast
        go_wp2
        go_round
        case rel => exact ⟨s, i, by omega, HN.out HT.out, rfl, rfl⟩
        case measure => simp [intOf]
end Go.Proofs.Ytgoeaepjffimgaa
