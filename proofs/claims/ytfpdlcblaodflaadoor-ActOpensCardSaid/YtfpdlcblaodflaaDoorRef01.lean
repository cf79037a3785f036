/-
  The document's answers for layer 1, call by call: what each comes to. Conditions: numbers are such as an int holds.
-/
import Derived.Test.YtfpdlcblaodflaaDoorNum
namespace Go.Proofs.YtfpdlcblaodflaaDoor
open Go.ChangeShapes Go.WideShapes Go.ChangeAt Go.RowKit Nm

theorem rclamp_any (x lo hi : Int) (w : World) :
    Calls Tryd.prog 16 #[.int .i64 x, .int .i64 lo, .int .i64 hi] w fun e w' => e = .returned (.int .i64 (clamp x lo hi)) ∧ w = w' := by
  by_cases h1 : x < lo
  · go_enter Tryd.func16, Tryd.ntmps16
    go_wp2
    go_ret
    exact ⟨ret_i (by unfold clamp; rw [if_pos (by omega)]), rfl⟩
  by_cases h2 : hi < x
  · go_enter Tryd.func16, Tryd.ntmps16
    go_wp2
    go_ret
    exact ⟨ret_i (by unfold clamp; rw [if_neg (by omega), if_pos (by omega)]), rfl⟩
  · go_enter Tryd.func16, Tryd.ntmps16
    go_wp2
    go_ret
    exact ⟨ret_i (by unfold clamp; rw [if_neg (by omega), if_neg (by omega)]), rfl⟩

theorem rsat_any (x : Int) (w : World) :
    Calls Tryd.prog 21 #[.int .i64 x] w fun e w' => e = .returned (.int .i64 (sat x)) ∧ w = w' := by
  go_enter Tryd.func21, Tryd.ntmps21
  go_wp2_with (go_at_call 16; refine (rclamp_any _ _ _ _).mono ?_; rintro e w' ⟨rfl, rfl⟩)
  go_ret
  exact ⟨ret_i rfl, rfl⟩

set_option maxRecDepth 100000 in
set_option maxHeartbeats 400000 in
theorem rshift_any (x n : Int) (w : World) (hx : Fits x) :
    Calls Tryd.prog 22 #[.int .i64 x, .int .i64 n] w fun e w' => e = .returned (.int .i64 (shift x n)) ∧ w = w' := by
  by_cases h2 : 63 ≤ n
  · go_enter Tryd.func22, Tryd.ntmps22
    go_wp2
    go_ret
    exact ⟨ret_i (by unfold shift; rw [if_neg (by omega), if_pos (by omega)]), rfl⟩
  have HX := Lib.hid hx
  have hx1 := hx.1
  have hx2 := hx.2
  clear hx
  go_enter Tryd.func22, Tryd.ntmps22
  go_wp2
  go_loop [0, 5, 6] (fun y l i => ∃ k : Nat, ∃ z b : Int, (k = 0 ∨ (k : Int) ≤ n) ∧ Hid (z = x / 2 ^ k ∧ b = lastBit x k) ∧ i = .int .i64 k ∧ y = .int .i64 z ∧ l = .int .i64 b) (fun _ _ i => (n - intOf i).toNat)
  case atStart => exact ⟨0, x, 0, .inl rfl, Lib.hid ⟨by simp, rfl⟩, rfl, rfl, rfl⟩
  case round =>
    obtain ⟨k, z, b, hk, hz, rfl, rfl, rfl⟩ := hrel
    by_cases hlt : (k : Int) < n
    · have hn := halves_next x k HX.out
      rw [← hz.out.1] at hn
      obtain ⟨hf, l, z', e1, e2, h3, h4, h5, h6, e3, e4⟩ := hn
      have HE := Lib.hid (show z' = x / 2 ^ (k + 1) ∧ l = lastBit x (k + 1) from ⟨e3, e4⟩)
      clear e3 e4
      unfold Fits at hf h5 h6
      go_wp2
      go_round
      case rel => exact ⟨k + 1, z', l, .inr (by omega), HE, by go_num, rfl, rfl⟩
      case measure => simp [intOf]; omega
    · have HE : Fits (z + b) ∧ z + b = shift x n := by
        by_cases hn : n ≤ 0
        · obtain rfl : k = 0 := by omega
          have e : z + b = x := by rw [hz.out.1, hz.out.2]; show x / 1 + 0 = x; omega
          rw [e]
          exact ⟨HX.out, by unfold shift; rw [if_pos hn]⟩
        · obtain rfl : k = n.toNat := by omega
          rw [hz.out.1, hz.out.2]
          exact halves_end x n HX.out (by omega) (by omega)
      have hf := HE.1
      have HS := Lib.hid HE.2
      clear HE
      unfold Fits at hf
      go_wp2
      go_ret
      exact ⟨ret_i HS.out, rfl⟩

theorem rmul_any (a b n : Int) (w : World) :
    Calls Tryd.prog 19 #[.int .i64 a, .int .i64 b, .int .i64 n] w fun e w' => e = .returned (.int .i64 (mul a b n)) ∧ w = w' := by
  have hp : Fits (prod a b) := prod_fits a b
  have hf := hp
  unfold prod Fits at hf
  go_enter Tryd.func19, Tryd.ntmps19
  go_wp2_with (first | (go_at_call 16; refine (rclamp_any _ _ _ _).mono ?_; rintro e w' ⟨rfl, rfl⟩) | (go_at_call 22; refine (rshift_any _ _ _ hp).mono ?_; rintro e w' ⟨rfl, rfl⟩) | (go_at_call 21; refine (rsat_any _ _).mono ?_; rintro e w' ⟨rfl, rfl⟩))
  go_ret
  exact ⟨ret_i rfl, rfl⟩

theorem rdiv_any (a b : Int) (w : World) (ha : Fits a) :
    Calls Tryd.prog 17 #[.int .i64 a, .int .i64 b] w fun e w' => e = .returned (.int .i64 (div a b)) ∧ w = w' := by
  by_cases h0 : b = 0
  · subst h0
    go_enter Tryd.func17, Tryd.ntmps17
    go_wp2
    go_ret
    exact ⟨ret_i rfl, rfl⟩
  by_cases h1 : b = -1
  · subst h1
    by_cases h2 : a = -9223372036854775808
    · subst h2
      go_enter Tryd.func17, Tryd.ntmps17
      go_wp2
      go_ret
      exact ⟨ret_i rfl, rfl⟩
    · have HE := Lib.hid (show -a = div a (-1) by unfold div; rw [if_neg (by omega), if_neg (by omega)]; have := fdiv_mul a (-1); have := fmod_neg a (-1) (by omega); omega)
      unfold Fits at ha
      have h3 : -9223372036854775808 < a := by omega
      clear h2
      go_enter Tryd.func17, Tryd.ntmps17
      go_wp2
      go_ret
      exact ⟨ret_i HE.out, rfl⟩
  have hd : div a b = a.fdiv b := by simp [div, h0, h1]
  rw [hd]
  have HA := Lib.hid ha
  have HN := Lib.hid (show ¬ (a = -9223372036854775808 ∧ b = -1) from fun h => h1 h.2)
  clear hd ha
  go_enter Tryd.func17, Tryd.ntmps17
  go_wp2
  all_goals go_ret
  all_goals refine ⟨ret_i ?_, rfl⟩
  all_goals first
    | exact div_w1 a b HA.out h0 HN.out ‹_›
    | exact div_w2 a b HA.out h0 HN.out ‹_›
    | exact div_w3 a b HA.out h0 HN.out ‹_›

end Go.Proofs.YtfpdlcblaodflaaDoor
