/-
  The law's own comparison of two rows of numbers: rows that are the same. Conditions: the rows' numbers are there.
-/
import Derived.Test.YtgenpfhcbopokaaVc7
namespace Go.Proofs.Ytgenpfhcbopokaa
open Go.ChangeShapes Go.WideShapes Go.ChangeAt Go.RowKit Nm Vc

section
variable (w : World) (A : Option Addr) (n c : Nat) (B : Option Addr) (c' : Nat) (zs : List Int)
set_option maxRecDepth 100000 in
set_option maxHeartbeats 800000 in
theorem ints_same (hz : zs.length = n) (hm : n ≤ 1000000) (hA : KIn .i64 w A zs) (hB : KIn .i64 w B zs) :
    Calls Try.prog 13 #[.slice A n c, .slice B n c'] w fun e w' => e = .returned (.bool true) ∧ ∃ k, w' = w.drewN k := by
  have HA := Lib.hid hA
  have HB := Lib.hid hB
  have HZ := Lib.hid hz
  have t1 : ((n : Int) == (n : Int)) = true := beq_self_eq_true _
  clear hA hB hz
  go_enter Try.func13, Try.ntmps13
  go_wp2_with (fail)
  go_loopw [5] (fun i wr => ∃ j d : Nat, i = .int .i64 (j : Int) ∧ j ≤ n ∧ wr = w.drewN d) (fun i _ => match i with | .int _ k => n - k.toNat | _ => 0)
  case atStart => exact ⟨0, 0, rfl, Nat.zero_le _, rfl⟩
  case round =>
    obtain ⟨j, d, rfl, hj, rfl⟩ := hrel
    have x2 : 0 ≤ (j : Int) := by omega
    by_cases hlt : j < n
    · have x0 : (j : Int) < (n : Int) := by omega
      have x1 : decide ((j : Int) < (n : Int)) = true := decide_eq_true x0
      have HJ := Lib.hid (show j + 1 ≤ n by omega)
      obtain ⟨pa, oa, rfl, hc1⟩ := HA.out.at (show j < zs.length by rw [HZ.out]; exact hlt)
      obtain ⟨pb, ob, rfl, hc2⟩ := HB.out.at (show j < zs.length by rw [HZ.out]; exact hlt)
      generalize zs.getD j 0 = z at hc1 hc2
      have t2 : (z == z) = true := beq_self_eq_true _
      have x3 := IntWalk.wrap64_in ((j : Int) + 1) (by omega)
      go_wp2_with (fail)
      go_quiet (fail)
      go_wp2_with (fail)
      exact ⟨⟨j + 1, _, rfl, HJ.out, rfl⟩, vc_less j n hlt⟩
    · have hke : j = n := by omega
      have x0 : ¬ (j : Int) < (n : Int) := by omega
      have x1 : decide ((j : Int) < (n : Int)) = false := decide_eq_false x0
      go_wp2_with (fail)
      refine bodyPost_ret (results_tmp rfl _ _ _) rfl ?_
      exact ⟨rfl, d, rfl⟩
end
end Go.Proofs.Ytgenpfhcbopokaa
