/-
  The reference of layer 12: Exp. No conditions.
-/
import Derived.Test.YtghlapaoebelpaaDoorSf1
namespace Go.Proofs.YtghlapaoebelpaaDoor
open Go.ChangeShapes Go.WideShapes Go.ChangeAt Go.RowKit Nm Vc Sf

namespace Sf
theorem half_next (t j : Nat) : Int.tdiv ((t / 2 ^ j : Nat) : Int) 2 = ((t / 2 ^ (j + 1) : Nat) : Int) := by
  rw [← half_pow]
  rfl
theorem half_low {t j q : Nat} (h : t / 2 ^ j = 0) (hj : j ≤ q) : t / 2 ^ q = 0 := by
  have h1 : t / 2 ^ q ≤ t / 2 ^ j := Nat.div_le_div_left (Nat.pow_le_pow_right (show 0 < 2 by omega) hj) (Nat.two_pow_pos j)
  rw [h] at h1
  exact Nat.le_zero.1 h1
theorem half_le {t j : Nat} (h : t ≤ 65536) : t / 2 ^ j ≤ 65536 := Nat.le_trans (Nat.div_le_self _ _) h
def tabA : Array Value := #[.int .i64 65536, .int .i64 60097, .int .i64 55109, .int .i64 50535, .int .i64 46341, .int .i64 42495, .int .i64 38968, .int .i64 35734]
theorem tabA_at (r : Nat) (h : r < 8) : tabA[r]? = some (.int .i64 (tabN r : Nat)) := by
  rcases (show r = 0 ∨ r = 1 ∨ r = 2 ∨ r = 3 ∨ r = 4 ∨ r = 5 ∨ r = 6 ∨ r = 7 by omega) with rfl | rfl | rfl | rfl | rfl | rfl | rfl | rfl <;> rfl
theorem tab_get (r : Nat) (h : r < 8) (hp) : ([.int .i64 65536, .int .i64 60097, .int .i64 55109, .int .i64 50535, .int .i64 46341, .int .i64 42495, .int .i64 38968, .int .i64 35734] : List Value)[r]'hp = .int .i64 (tabN r : Nat) := by
  rcases (show r = 0 ∨ r = 1 ∨ r = 2 ∨ r = 3 ∨ r = 4 ∨ r = 5 ∨ r = 6 ∨ r = 7 by omega) with rfl | rfl | rfl | rfl | rfl | rfl | rfl | rfl <;> rfl
theorem tab_cell (w : World) (b r : Nat) (hb : w.heap.size = b) (h : r < 8) : (w.alloc (.cells tabA 38)).cell? ⟨b, r, none⟩ = some (.int .i64 (tabN r : Nat)) := by
  subst hb
  rw [cell_of_row _ _ _ _ _ _ (heap_alloc_new w _), tabA_at r h]
end Sf
set_option maxRecDepth 100000 in
set_option maxHeartbeats 1600000 in
theorem ref12_exp (d : Int) (w : World) (hd : d ≤ 9223372036854775807) :
    Calls Tryd.prog 10 #[.int .i64 d] w fun e w' => e = .returned (.int .i64 (expZ d)) ∧ Below w.heap.size w w' := by
  have HB0 := Lib.hid ((Below.refl w.heap.size w).alloc (Nat.le_refl _) (.cells tabA 38))
  unfold tabA at HB0
  by_cases h0 : d < 0
  · have t0 : decide (d < 0) = true := decide_eq_true h0
    have HE := Lib.hid (show expZ d = 65536 by rw [expZ_neg h0, expZ_zero])
    go_enter Tryd.func10, Tryd.ntmps10
    go_wp2_with (fail)
    go_loopw [4, 5] (fun x i wr => x = .int .i64 65536 ∧ i = .int .i64 0 ∧ Below w.heap.size w wr) (fun _ _ _ => 0)
    case atStart => exact ⟨rfl, rfl, HB0.out⟩
    case round =>
      clear HB0
      obtain ⟨rfl, rfl, hb⟩ := hrel
      have HB := Lib.hid hb
      clear hb
      go_wp2_with (fail)
      refine bodyPost_ret (results_tmp rfl _ _ _) rfl ?_
      exact ⟨ret_i HE.out.symm, HB.out⟩
  obtain ⟨n, rfl⟩ : ∃ n : Nat, d = n := ⟨d.toNat, by omega⟩
  obtain ⟨q, hq⟩ : ∃ q, q = n / 8 := ⟨_, rfl⟩
  obtain ⟨r, hr⟩ : ∃ r, r = n % 8 := ⟨_, rfl⟩
  have e1 : Int.tmod (n : Int) 8 = (r : Int) := by rw [hr]; rfl
  have e2 : Int.tdiv (n : Int) 8 = (q : Int) := by rw [hq]; rfl
  have e4 : wrap64 (q : Int) = (q : Int) := IntWalk.wrap64_in _ (by omega)
  have hr8 : r < 8 := by omega
  have hq2 : q ≤ 1152921504606846976 := by omega
  have HE := Lib.hid (show expZ (n : Int) = ((tabN r / 2 ^ q : Nat) : Int) by unfold expZ expN; rw [Int.toNat_natCast, ← hq, ← hr])
  have HT := Lib.hid (tabN_le r)
  clear hq hr hd h0
  go_enter Tryd.func10, Tryd.ntmps10
  go_wp2_with (fail)
  simp only [tab_get r hr8]
  generalize tabN r = t at HE HT ⊢
  clear e1 hr8
  have e3 : ((t : Nat) : Int) = ((t / 2 ^ 0 : Nat) : Int) := by rw [Nat.pow_zero, Nat.div_one]
  have HS := Lib.hid e3
  clear e3
  go_loopw [4, 5] (fun x i wr => ∃ j : Nat, i = .int .i64 (j : Int) ∧ j ≤ q ∧ x = .int .i64 ((t / 2 ^ j : Nat) : Int) ∧ Below w.heap.size w wr) (fun _ i _ => match i with | .int _ k => q - k.toNat | _ => 0)
  case atStart => exact ⟨0, rfl, Nat.zero_le _, by rw [HS.out], HB0.out⟩
  case round =>
    clear HB0 HS
    obtain ⟨j, rfl, hj, rfl, hb⟩ := hrel
    have HB := Lib.hid hb
    clear hb
    have x2 : 0 ≤ (j : Int) := by omega
    by_cases hlt : j < q
    · have x0 : (j : Int) < (q : Int) := by omega
      have x1 : decide ((j : Int) < (q : Int)) = true := decide_eq_true x0
      have HJ := Lib.hid (show j + 1 ≤ q by omega)
      have hz2 := half_le (j := j + 1) HT.out
      have HH := Lib.hid (half_next t j)
      have HLO := Lib.hid (fun h => half_low (t := t) (j := j) (q := q) h hj)
      generalize hz : t / 2 ^ j = z at HH HLO ⊢
      clear hz
      generalize hy : t / 2 ^ (j + 1) = y at hz2 HH
      have HY := Lib.hid hy
      have e5 : wrap64 (y : Int) = (y : Int) := IntWalk.wrap64_in _ (by omega)
      have e6 := HH.out
      clear hy
      by_cases h1 : 0 < z
      · have t1 : decide (0 < (z : Int)) = true := decide_eq_true (by omega)
        have x3 := IntWalk.wrap64_in ((j : Int) + 1) (by omega)
        go_wp2_with (fail)
        exact ⟨⟨j + 1, rfl, HJ.out, by rw [HY.out], HB.out⟩, vc_less j q hlt⟩
      · obtain rfl : z = 0 := by omega
        have HL := Lib.hid (HLO.out rfl)
        clear e6 e5 HH HLO
        go_wp2_with (fail)
        refine bodyPost_ret (results_tmp rfl _ _ _) rfl ?_
        exact ⟨ret_i (by rw [HE.out, HL.out]), HB.out⟩
    · have hke : j = q := by omega
      have x0 : ¬ (j : Int) < (q : Int) := by omega
      have x1 : decide ((j : Int) < (q : Int)) = false := decide_eq_false x0
      subst hke
      generalize t / 2 ^ j = z at HE ⊢
      go_wp2_with (fail)
      refine bodyPost_ret (results_tmp rfl _ _ _) rfl ?_
      exact ⟨ret_i HE.out.symm, HB.out⟩
end Go.Proofs.YtghlapaoebelpaaDoor
