/-
  The program's whole numbers (package num): Sqrt: what it comes to. Conditions: numbers are such as an int holds.
-/
import Derived.Test.YtgoeaepjffimgaaNum
namespace Go.Proofs.Ytgoeaepjffimgaa
open Go.ChangeShapes Go.WideShapes Go.ChangeAt Go.RowKit Nm

set_option maxRecDepth 100000 in
set_option maxHeartbeats 400000 in
theorem sqrt_any (n : Int) (w : World) (hn : Fits n) :
    Calls Try.prog 14 #[.int .i64 n] w fun e w' => e = .returned (.int .i64 (sqrt n)) ∧ w = w' := by
  by_cases h0 : n ≤ 0
  · have HS : Hid (sqrt n = 0) := by show sqrt n = 0; unfold sqrt; rw [show n.toNat = 0 by omega]; rfl
    go_enter Try.func14, Try.ntmps14
    go_wp2
    go_ret
    exact ⟨ret_i HS.out.symm, rfl⟩
  unfold Fits at hn
  obtain ⟨m, rfl⟩ : ∃ m : Nat, n = (m : Int) := ⟨n.toNat, by omega⟩
  have hm : m < 9223372036854775808 := by omega
  go_enter Try.func14, Try.ntmps14
  go_wp2
  go_loop [3, 4] (fun r b => ∃ s k : Nat, k ≤ 32 ∧ RootTill m s k ∧ r = .int .u64 (s : Int) ∧ b = .int .u64 (bitAt k : Int)) (fun _ b => (intOf b).toNat)
  case atStart => exact ⟨0, 32, by omega, root_start m hm, rfl, rfl⟩
  case round =>
    obtain ⟨s, k, hk, hr, rfl, rfl⟩ := hrel
    cases k with
    | zero =>
      have HE := Lib.hid (root_end hr)
      have hs : s < 4294967296 := by have := hr.2.2; omega
      clear hr
      rw [show bitAt 0 = 0 from rfl]
      go_wp2
      go_ret
      exact ⟨ret_i HE.out.symm, rfl⟩
    | succ j =>
      have hl := root_till_lt hr
      obtain ⟨b, hb⟩ : ∃ b, b = 2 ^ j := ⟨_, rfl⟩
      have HH := Lib.hid (half_bit j)
      have HY := Lib.hid (@root_yes m s j hr)
      have HN := Lib.hid (@root_no m s j hr)
      rw [show bitAt (j + 1) = 2 ^ j from rfl]
      rw [← hb] at hl HH HY HN ⊢
      clear hb hr
      have hsq := root_sq_lt hl.1
      rw [Int.natCast_add] at hsq
      have hsq0 : 0 ≤ ((s : Int) + b) * ((s : Int) + b) := by rw [← Int.natCast_add]; exact Int.mul_nonneg (by omega) (by omega)
      have hcast : ((s : Int) + b) * ((s : Int) + b) = (((s + b) * (s + b) : Nat) : Int) := by simp
      by_cases ht : (s + b) * (s + b) ≤ m
      · have ht' : ((s : Int) + b) * ((s : Int) + b) ≤ m := by rw [hcast]; omega
        have HT := Lib.hid ht
        clear hcast ht
        go_wp2
        go_round
        case rel => exact ⟨s + b, j, by omega, HY.out HT.out, by go_num, by rw [← HH.out]; go_num⟩
        case measure => simp [intOf]; omega
      · have ht' : (m : Int) < ((s : Int) + b) * ((s : Int) + b) := by rw [hcast]; omega
        have HT := Lib.hid (Nat.lt_of_not_le ht)
        clear hcast ht
        go_wp2
        go_round
        case rel => exact ⟨s, j, by omega, HN.out HT.out, rfl, by rw [← HH.out]; go_num⟩
        case measure => simp [intOf]; omega
end Go.Proofs.Ytgoeaepjffimgaa
