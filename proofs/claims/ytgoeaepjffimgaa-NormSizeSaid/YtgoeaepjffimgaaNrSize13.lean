/-
  Law 13's NormSize: it answers true, whatever the row is. Conditions: the numbers are there.
-/
import Derived.Test.YtgoeaepjffimgaaNrAwake13
import Derived.Deep.QuietTactic
namespace Go.Proofs.Ytgoeaepjffimgaa.normSize
open Go.ChangeShapes Go.WideShapes Go.ChangeAt Go.RowKit Nm Vc Nr

set_option maxRecDepth 100000 in
set_option maxHeartbeats 3200000 in
theorem walk (w : World) (A : Option Addr) (n c : Nat) (zs : List Int) (hz : zs.length = n) (hA : KIn .i64 w A zs) :
    Calls Try.prog 5 #[.slice A n c] w fun e w' => e = .returned (.bool true) ∧ Below w.heap.size w w' := by
  have HA := Lib.hid hA
  have HZ := Lib.hid hz
  clear hA hz
  by_cases h64 : 64 < n
  · have t0 : 64 < (n : Int) := by omega
    have t1 : decide (64 < (n : Int)) = true := decide_eq_true t0
    go_enter Try.func5, Try.ntmps5
    go_wp2_with (fail)
    refine (awake13 _).mono ?_
    rintro e w1 ⟨rfl, b1⟩
    have B1 := Lib.hid b1
    clear b1
    go_wp2_with (fail)
    refine bodyPost_ret (results_tmp rfl _ _ _) rfl ?_
    exact ⟨rfl, B1.out⟩
  have t0 : ¬ 64 < (n : Int) := by omega
  have t1 : decide (64 < (n : Int)) = false := decide_eq_false t0
  have HM := Lib.hid (show n ≤ 64 by omega)
  have HIN := Lib.hid (fun i (h : i < n) => plain_in zs (by rw [HZ.out]; exact HM.out) i (by rw [HZ.out]; exact h))
  have HSQ := Lib.hid (plain_sqs zs (by rw [HZ.out]; omega))
  have HPL := Lib.hid ((plain_length zs).trans HZ.out)
  have HUP := Lib.hid (fun j => sqs_up (plain zs) j)
  have HNE := Lib.hid (fun j (h : j < n) => sqs_next (plain zs) j (by rw [HPL.out]; exact h))
  have HNN := Lib.hid (fun j => sqs_nonneg ((plain zs).take j))
  have W9 := Lib.hid (show wrap64 (4096 * (n : Int)) = 4096 * n from IntWalk.wrap64_in _ (by omega))
  go_enter Try.func5, Try.ntmps5
  go_wp2_with (fail)
  refine (awake13 _).mono ?_
  rintro e w1 ⟨rfl, b1⟩
  have B1 := Lib.hid b1
  clear b1
  go_wp2_with (fail)
  refine (norm_plain w1 A n c zs HZ.out (by omega) (HA.out.below B1.out (Nat.le_refl _))).mono ?_
  rintro e w2 ⟨R, cr, rfl, kr, b2⟩
  have B2 := Lib.hid (B1.out.trans (b2.mono B1.out.size))
  have KR := Lib.hid kr
  clear b2 kr B1
  rw [HPL.out]
  rw [HZ.out] at HSQ
  generalize plain zs = P at HIN HSQ HPL HUP HNE HNN KR ⊢
  go_wp2_with (fail)
  go_loopw [5, 6] (fun s i wr => ∃ j d : Nat, i = .int .i64 (j : Int) ∧ j ≤ n ∧ s = .int .i64 (sqs (P.take j)) ∧ wr = w2.drewN d) (fun _ i _ => match i with | .int _ k => n - k.toNat | _ => 0)
  case atStart => exact ⟨0, 0, rfl, Nat.zero_le _, rfl, rfl⟩
  case round =>
    obtain ⟨j, d, rfl, hj, rfl, rfl⟩ := hrel
    have x2 : 0 ≤ (j : Int) := by omega
    by_cases hlt : j < n
    · have x0 : (j : Int) < (n : Int) := by omega
      have x1 : decide ((j : Int) < (n : Int)) = true := decide_eq_true x0
      have HJ := Lib.hid (show j + 1 ≤ n by omega)
      obtain ⟨pb, po, rfl, hcell⟩ := (KR.out.drewN d).at (show j < P.length by rw [HPL.out]; exact hlt)
      have HN := Lib.hid (HNE.out j hlt)
      have HU := Lib.hid (HUP.out (j + 1))
      have HO := Lib.hid (HNN.out j)
      have hin := HIN.out j hlt
      rw [HN.out] at HU
      generalize P.getD j 0 = z at hcell HN HU hin
      have u1 : decide (512 < z) = false := decide_eq_false (by omega)
      have u2 : decide (z < -512) = false := decide_eq_false (by omega)
      have HZZ := Lib.hid (show 0 ≤ z * z ∧ z * z ≤ 262144 from by
        have h1 := self_nonneg z
        have h2 := abs_mul (a := 512) (b := 512) (by omega) (by omega) hin hin
        omega)
      generalize sqs (P.take j) = s at HN HU HO ⊢
      have W1 := Lib.hid (IntWalk.wrap64_in (z * z) (by have := HZZ.out; omega))
      have W2 := Lib.hid (IntWalk.wrap64_in (s + z * z) (by have := HZZ.out; have := HU.out; have := HO.out; have := HSQ.out; have := HM.out; omega))
      clear hin
      have x3 := IntWalk.wrap64_in ((j : Int) + 1) (by omega)
      generalize hw3 : w2.drewN d = w3 at hcell ⊢
      have HW3 := Lib.hid hw3
      clear hw3
      go_wp2_with (fail)
      go_quiet (fail)
      go_wp2_with (fail)
      exact ⟨⟨j + 1, d + _, rfl, HJ.out, by rw [W1.out, W2.out, HN.out], by rw [← HW3.out, World.drewN_drewN]⟩, vc_less j n hlt⟩
    · have hke : j = n := by omega
      have x0 : ¬ (j : Int) < (n : Int) := by omega
      have x1 : decide ((j : Int) < (n : Int)) = false := decide_eq_false x0
      have HT := Lib.hid (show sqs (P.take j) = sqs P by rw [List.take_of_length_le (by rw [HPL.out]; omega)])
      rw [HT.out]
      have v0 : decide (sqs P ≤ 4096 * (n : Int)) = true := decide_eq_true HSQ.out
      generalize sqs P = s at v0 ⊢
      have B3 := Lib.hid (below_drewN B2.out d)
      have t3 : ((n : Int) == (n : Int)) = true := beq_self_eq_true _
      have w9 := W9.out
      go_wp2_with (fail)
      refine bodyPost_ret (results_tmp rfl _ _ _) rfl ?_
      exact ⟨rfl, B3.out⟩
end Go.Proofs.Ytgoeaepjffimgaa.normSize
