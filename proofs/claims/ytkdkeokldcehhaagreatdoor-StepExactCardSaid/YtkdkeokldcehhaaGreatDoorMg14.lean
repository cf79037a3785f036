/-
  The document's answers for layer 1, call by call: what each comes to. Conditions: numbers are such as an int holds.
  In a region that draws its order: an operation taken first, its slot told: what stands in the slots is reckoned at once. No program here. No conditions.
-/
import Derived.Test.YtkdkeokldcehhaaGreatDoorMg5
import Derived.Test.YtkdkeokldcehhaaGreatDoorMg1
import Derived.OrdersHeld
set_option maxRecDepth 100000
namespace Go.Proofs.YtkdkeokldcehhaaGreatDoor
open Go.ChangeShapes Go.WideShapes Go.ChangeAt Go.RowKit Nm

theorem rclamp_any (x lo hi : Int) (w : World) :
    Calls Tryz.prog 69 #[.int .i64 x, .int .i64 lo, .int .i64 hi] w fun e w' => e = .returned (.int .i64 (clamp x lo hi)) ∧ w = w' := by
  by_cases h1 : x < lo
  · go_enter Tryz.func69, Tryz.ntmps69
    go_wp2
    go_ret
    exact ⟨ret_i (by unfold clamp; rw [if_pos (by omega)]), rfl⟩
  by_cases h2 : hi < x
  · go_enter Tryz.func69, Tryz.ntmps69
    go_wp2
    go_ret
    exact ⟨ret_i (by unfold clamp; rw [if_neg (by omega), if_pos (by omega)]), rfl⟩
  · go_enter Tryz.func69, Tryz.ntmps69
    go_wp2
    go_ret
    exact ⟨ret_i (by unfold clamp; rw [if_neg (by omega), if_neg (by omega)]), rfl⟩

theorem rsat_any (x : Int) (w : World) :
    Calls Tryz.prog 34 #[.int .i64 x] w fun e w' => e = .returned (.int .i64 (sat x)) ∧ w = w' := by
  go_enter Tryz.func34, Tryz.ntmps34
  go_wp2_with (go_at_call 69; refine (rclamp_any _ _ _ _).mono ?_; rintro e w' ⟨rfl, rfl⟩)
  go_ret
  exact ⟨ret_i rfl, rfl⟩

set_option maxRecDepth 100000 in
set_option maxHeartbeats 400000 in
theorem rshift_any (x n : Int) (w : World) (hx : Fits x) :
    Calls Tryz.prog 41 #[.int .i64 x, .int .i64 n] w fun e w' => e = .returned (.int .i64 (shift x n)) ∧ w = w' := by
  by_cases h2 : 63 ≤ n
  · go_enter Tryz.func41, Tryz.ntmps41
    go_wp2
    go_ret
    exact ⟨ret_i (by unfold shift; rw [if_neg (by omega), if_pos (by omega)]), rfl⟩
  have HX := Lib.hid hx
  have hx1 := hx.1
  have hx2 := hx.2
  clear hx
  go_enter Tryz.func41, Tryz.ntmps41
  go_wp2
  go_loop [0, 5, 6] (fun y l i => ∃ k : Nat, ∃ z b : Int, (k = 0 ∨ (k : Int) ≤ n) ∧ Hid (z = x / 2 ^ k ∧ b = lastBit x k) ∧ i = .int .i64 k ∧ y = .int .i64 z ∧ l = .int .i64 b) (fun _ _ i => (n - intOf i).toNat)
  case atStart => exact ⟨0, x, 0, .inl rfl, Lib.hid ⟨by simp, rfl⟩, rfl, rfl, rfl⟩
  case round =>
    obtain ⟨k, z, b, hk, hz, rfl, rfl, rfl⟩ := hrel
    by_cases hlt : (k : Int) < n
    · have hn := halves_next x k HX.out
      rw [← hz.out.1] at hn
      obtain ⟨hf, l, z', e1, e2, h3, h4, h5, h6, e3, e4⟩ := hn
      have HE := Lib.hid (show z' = x / 2 ^ (k + 1) ∧ l = lastBit x (k + 1) from ⟨e3, e4⟩)
      clear e3 e4
      unfold Fits at hf h5 h6
      go_wp2
      go_round
      case rel => exact ⟨k + 1, z', l, .inr (by omega), HE, by go_num, rfl, rfl⟩
      case measure => simp [intOf]; omega
    · have HE : Fits (z + b) ∧ z + b = shift x n := by
        by_cases hn : n ≤ 0
        · obtain rfl : k = 0 := by omega
          have e : z + b = x := by rw [hz.out.1, hz.out.2]; show x / 1 + 0 = x; omega
          rw [e]
          exact ⟨HX.out, by unfold shift; rw [if_pos hn]⟩
        · obtain rfl : k = n.toNat := by omega
          rw [hz.out.1, hz.out.2]
          exact halves_end x n HX.out (by omega) (by omega)
      have hf := HE.1
      have HS := Lib.hid HE.2
      clear HE
      unfold Fits at hf
      go_wp2
      go_ret
      exact ⟨ret_i HS.out, rfl⟩

theorem rmul_any (a b n : Int) (w : World) :
    Calls Tryz.prog 74 #[.int .i64 a, .int .i64 b, .int .i64 n] w fun e w' => e = .returned (.int .i64 (mul a b n)) ∧ w = w' := by
  have hp : Fits (prod a b) := prod_fits a b
  have hf := hp
  unfold prod Fits at hf
  go_enter Tryz.func74, Tryz.ntmps74
  go_wp2_with (first | (go_at_call 69; refine (rclamp_any _ _ _ _).mono ?_; rintro e w' ⟨rfl, rfl⟩) | (go_at_call 41; refine (rshift_any _ _ _ hp).mono ?_; rintro e w' ⟨rfl, rfl⟩) | (go_at_call 34; refine (rsat_any _ _).mono ?_; rintro e w' ⟨rfl, rfl⟩))
  go_ret
  exact ⟨ret_i rfl, rfl⟩

theorem rdiv_any (a b : Int) (w : World) (ha : Fits a) :
    Calls Tryz.prog 105 #[.int .i64 a, .int .i64 b] w fun e w' => e = .returned (.int .i64 (div a b)) ∧ w = w' := by
  by_cases h0 : b = 0
  · subst h0
    go_enter Tryz.func105, Tryz.ntmps105
    go_wp2
    go_ret
    exact ⟨ret_i rfl, rfl⟩
  by_cases h1 : b = -1
  · subst h1
    by_cases h2 : a = -9223372036854775808
    · subst h2
      go_enter Tryz.func105, Tryz.ntmps105
      go_wp2
      go_ret
      exact ⟨ret_i rfl, rfl⟩
    · have HE := Lib.hid (show -a = div a (-1) by unfold div; rw [if_neg (by omega), if_neg (by omega)]; have := fdiv_mul a (-1); have := fmod_neg a (-1) (by omega); omega)
      unfold Fits at ha
      have h3 : -9223372036854775808 < a := by omega
      clear h2
      go_enter Tryz.func105, Tryz.ntmps105
      go_wp2
      go_ret
      exact ⟨ret_i HE.out, rfl⟩
  have hd : div a b = a.fdiv b := by simp [div, h0, h1]
  rw [hd]
  have HA := Lib.hid ha
  have HN := Lib.hid (show ¬ (a = -9223372036854775808 ∧ b = -1) from fun h => h1 h.2)
  clear hd ha
  go_enter Tryz.func105, Tryz.ntmps105
  go_wp2
  all_goals go_ret
  all_goals refine ⟨ret_i ?_, rfl⟩
  all_goals first
    | exact div_w1 a b HA.out h0 HN.out ‹_›
    | exact div_w2 a b HA.out h0 HN.out ‹_›
    | exact div_w3 a b HA.out h0 HN.out ‹_›

set_option maxRecDepth 100000 in
set_option maxHeartbeats 400000 in
theorem rsqrt_any (n : Int) (w : World) (hn : Fits n) :
    Calls Tryz.prog 102 #[.int .i64 n] w fun e w' => e = .returned (.int .i64 (sqrt n)) ∧ w = w' := by
  have hn2 := hn.2
  obtain ⟨m, hm⟩ : ∃ m, m = n.toNat := ⟨_, rfl⟩
  have hm2 : m < 9223372036854775808 := by omega
  have HM := Lib.hid hm
  clear hn hm
  go_enter Tryz.func102, Tryz.ntmps102
  go_wp2
  go_loop [3, 4] (fun r i => ∃ s j : Nat, j ≤ 32 ∧ RootTill m s j ∧ r = .int .i64 (s : Int) ∧ i = .int .i64 ((j : Int) - 1)) (fun _ i => (intOf i + 1).toNat)
  case atStart => exact ⟨0, 32, by omega, root_start m hm2, rfl, rfl⟩
  case round =>
    obtain ⟨s, j, hj, hr, rfl, rfl⟩ := hrel
    cases j with
    | zero =>
      have HE := Lib.hid (show (s : Int) = sqrt n by rw [← root_end hr]; unfold sqrt; rw [HM.out, Int.toNat_natCast])
      clear hr
      rw [show (((0 : Nat) : Int) - 1) = -1 from rfl]
      go_wp2
      go_ret
      exact ⟨ret_i HE.out, rfl⟩
    | succ i =>
      have hl := root_till_lt hr
      obtain ⟨b, hb⟩ : ∃ b, b = 2 ^ i := ⟨_, rfl⟩
      have HY := Lib.hid (@root_yes m s i hr)
      have HN := Lib.hid (@root_no m s i hr)
      rw [← hb] at hl HY HN
      have e0 : wrap64 (2 ^ i) = (b : Int) := by
        have e : (2 : Int) ^ i = (b : Int) := by rw [hb]; simp
        rw [e]
        exact IntWalk.wrap64_in _ ⟨by omega, by omega⟩
      clear hb hr
      rw [show (((i + 1 : Nat) : Int) - 1) = (i : Int) by omega]
      have hsq := root_sq_lt hl.1
      rw [Int.natCast_add] at hsq
      have hsq0 : 1 ≤ ((s : Int) + b) * ((s : Int) + b) := by
        have := Int.mul_le_mul (show (1 : Int) ≤ s + b by omega) (show (1 : Int) ≤ s + b by omega) (by omega) (by omega)
        omega
      have hcast : ((s : Int) + b) * ((s : Int) + b) = (((s + b) * (s + b) : Nat) : Int) := by simp
      by_cases hc : (s : Int) + b ≤ 3037000499
      · have d1 : decide ((s : Int) + b ≤ 3037000499) = true := decide_eq_true hc
        have hs3 : ((s : Int) + b) * ((s : Int) + b) ≤ 9223372036854775807 := by
          have := Int.mul_le_mul hc hc (by omega) (by omega)
          omega
        by_cases ht : ((s : Int) + b) * ((s : Int) + b) ≤ n
        · have d2 : decide (((s : Int) + b) * ((s : Int) + b) ≤ n) = true := decide_eq_true ht
          have HT := Lib.hid (show (s + b) * (s + b) ≤ m by have := HM.out; omega)
          clear hcast
          go_wp2
          go_round
          case rel => exact ⟨s + b, i, by omega, HY.out HT.out, by go_num, rfl⟩
          case measure => simp [intOf]
        · have d2 : decide (((s : Int) + b) * ((s : Int) + b) ≤ n) = false := decide_eq_false ht
          have HT := Lib.hid (show m < (s + b) * (s + b) by have := HM.out; omega)
          clear hcast
          go_wp2
          go_round
          case rel => exact ⟨s, i, by omega, HN.out HT.out, rfl, rfl⟩
          case measure => simp [intOf]
      · have d1 : decide ((s : Int) + b ≤ 3037000499) = false := decide_eq_false hc
        have HT := Lib.hid (show m < (s + b) * (s + b) by have := HM.out; have := root_test (n := n) (s := s) (b := b) hn2 (by omega); omega)
        clear hcast
        go_wp2
        go_round
        case rel => exact ⟨s, i, by omega, HN.out HT.out, rfl, rfl⟩
        case measure => simp [intOf]
end Go.Proofs.YtkdkeokldcehhaaGreatDoor
namespace Go.Proofs.YtkdkeokldcehhaaGreatDoor
open Go Go.RowKit

theorem wpAnyH_takeAt {P : Program} {md : Region.Mode} {ops : Array Oper} {Q : Exit → Act → World → Prop} {S : World → Prop} {i : Nat} {oi : Oper} {v : Value} {fuel : Nat} {listed : Array Bool} {a : Act} {w : World} (d : Tmp) (hi : ops[i]? = some oi) (hd : oi.dst = some d)
    (hs : Region.noSelect ops = true) (hf : Region.free md ops listed i = true) (hr : (Region.ready md ops listed).contains i = true)
    (hQ : ∀ c a w, Q (.panic c) (a.put (some d) v) w → Q (.panic c) a w) (hy : YieldsIf P ops S oi v a) (hS : S w)
    (h : wpAnyH P md ops Q S fuel (listed.setIfInBounds i true) (a.put (some d) v) w) : wpAnyH P md ops Q S (fuel + 1) listed a w := by
  refine wpAnyH_take hi hs hf hr ?_ hy hS ?_
  · rw [hd]; exact hQ
  · rw [hd]; exact h
end Go.Proofs.YtkdkeokldcehhaaGreatDoor
