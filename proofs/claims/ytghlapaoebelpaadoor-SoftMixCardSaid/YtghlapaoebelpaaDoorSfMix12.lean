/-
  Law 12's SoftMix: it answers true, whatever the weights and rows are. Conditions: the numbers are there; the table lies where the program looks.
-/
import Derived.Test.YtghlapaoebelpaaDoorSfAwake12
import Derived.Test.YtghlapaoebelpaaDoorSfA
namespace Go.Proofs.YtghlapaoebelpaaDoor.softMix
open Go.ChangeShapes Go.WideShapes Go.ChangeAt Go.RowKit Nm Vc Sf

theorem mixR_length {ws : List Int} {L : List (List Int)} {q : Nat} (hL : L.length = q) (h : ∀ i, i < q → (L.getD i []).length ≤ 40) : (mixR ws L).length ≤ 40 := by
  by_cases hp : mixP ws L
  · rw [mixR_ok hp, mixL_length]
    exact h 0 (by have := mixP_some hp; omega)
  · rw [mixR_not hp]
    exact Nat.zero_le _
set_option maxRecDepth 100000 in
set_option maxHeartbeats 3200000 in
theorem walk (w : World) (A : Option Addr) (n c : Nat) (zs : List Int) (E : Option Addr) (q ce : Nat) (B : Nat → Option Addr) (C : Nat → Nat) (L : List (List Int)) (hz : zs.length = n) (hA : KIn .i64 w A zs) (hL : L.length = q) (hE : LIn w E B C L) (hp : POn w) :
    Calls Tryd.prog 4 #[.slice A n c, .slice E q ce] w fun e w' => e = .returned (.bool true) ∧ Below w.heap.size w w' := by
  have HA := Lib.hid hA
  have HP := Lib.hid hp
  have HZ := Lib.hid hz
  have HE := Lib.hid hE
  have HL := Lib.hid hL
  clear hA hp hz hE hL
  by_cases h40 : 40 < n
  · have t0 : 40 < (n : Int) := by omega
    have t1 : decide (40 < (n : Int)) = true := decide_eq_true t0
    go_enter Tryd.func4, Tryd.ntmps4
    go_wp2_with (fail)
    refine (awake12 _ HP.out).mono ?_
    rintro e w1 ⟨rfl, b1⟩
    have B1 := Lib.hid b1
    clear b1
    go_wp2_with (fail)
    refine bodyPost_ret (results_tmp rfl _ _ _) rfl ?_
    exact ⟨rfl, B1.out⟩
  have t0 : ¬ 40 < (n : Int) := by omega
  have t1 : decide (40 < (n : Int)) = false := decide_eq_false t0
  by_cases h41 : 40 < q
  · have t2 : 40 < (q : Int) := by omega
    have t3 : decide (40 < (q : Int)) = true := decide_eq_true t2
    go_enter Tryd.func4, Tryd.ntmps4
    go_wp2_with (fail)
    refine (awake12 _ HP.out).mono ?_
    rintro e w1 ⟨rfl, b1⟩
    have B1 := Lib.hid b1
    clear b1
    go_wp2_with (fail)
    refine bodyPost_ret (results_tmp rfl _ _ _) rfl ?_
    exact ⟨rfl, B1.out⟩
  have t2 : ¬ 40 < (q : Int) := by omega
  have t3 : decide (40 < (q : Int)) = false := decide_eq_false t2
  have HN := Lib.hid (show n ≤ 1000 by omega)
  have HQ := Lib.hid (show q ≤ 1000 by omega)
  clear h40 h41
  go_enter Tryd.func4, Tryd.ntmps4
  go_wp2_with (fail)
  refine (awake12 _ HP.out).mono ?_
  rintro e w1 ⟨rfl, b1⟩
  have B1 := Lib.hid b1
  have E1 := Lib.hid (HE.out.below b1 (Nat.le_refl _))
  have A1 := Lib.hid (HA.out.below b1 (Nat.le_refl _))
  clear b1 HE HA
  go_wp2_with (fail)
  go_loopw [5] (fun i wr => ∃ j : Nat, i = .int .i64 (j : Int) ∧ j ≤ q ∧ w1 = wr ∧ ∀ i, i < j → (L.getD i []).length ≤ 40) (fun i _ => match i with | .int _ k => q - k.toNat | _ => 0)
  case atStart => exact ⟨0, rfl, Nat.zero_le _, rfl, fun i hi => absurd hi (by omega)⟩
  case round =>
    obtain ⟨j, rfl, hj, rfl, hs⟩ := hrel
    have HS := Lib.hid hs
    clear hs
    have x2 : 0 ≤ (j : Int) := by omega
    by_cases hlt : j < q
    · have x0 : (j : Int) < (q : Int) := by omega
      have x1 : decide ((j : Int) < (q : Int)) = true := decide_eq_true x0
      have HJ := Lib.hid (show j + 1 ≤ q by omega)
      obtain ⟨pe, oe, rfl, hc, _⟩ := E1.out.at (show j < L.length by rw [HL.out]; exact hlt)
      by_cases hl : 40 < (L.getD j []).length
      · have t4 : 40 < ((L.getD j []).length : Int) := by omega
        have t5 : decide (40 < ((L.getD j []).length : Int)) = true := decide_eq_true t4
        clear hl
        generalize (L.getD j []).length = l at hc t4 t5
        go_wp2_with (fail)
        refine bodyPost_ret (results_tmp rfl _ _ _) rfl ?_
        exact ⟨rfl, B1.out⟩
      · have t4 : ¬ 40 < ((L.getD j []).length : Int) := by omega
        have t5 : decide (40 < ((L.getD j []).length : Int)) = false := decide_eq_false t4
        have HSN := Lib.hid (show ∀ i, i < j + 1 → (L.getD i []).length ≤ 40 from fun i hi => by
          by_cases h : i = j
          · rw [h]; omega
          · exact HS.out i (by omega))
        clear hl HS
        generalize (L.getD j []).length = l at hc t4 t5
        have x3 := IntWalk.wrap64_in ((j : Int) + 1) (by omega)
        go_wp2_with (fail)
        exact ⟨⟨j + 1, rfl, HJ.out, by trivial, HSN.out⟩, vc_less j q hlt⟩
    · have hke : j = q := by omega
      have x0 : ¬ (j : Int) < (q : Int) := by omega
      have x1 : decide ((j : Int) < (q : Int)) = false := decide_eq_false x0
      rw [hke] at HS
      have HR := Lib.hid (mixR_length (ws := zs) HL.out HS.out)
      have HMX := Lib.hid (fun W hA hE => soft_mix W A c zs E ce B C L n q HZ.out HN.out HL.out HQ.out hA hE (fun i hi => Nat.le_trans (HS.out i hi) (by omega)))
      have HMR := Lib.hid (fun W hA hE => ref12_mix W A c zs E ce B C L n q HZ.out HN.out HL.out hA hE (fun i hi => Nat.le_trans (HS.out i hi) (by omega)))
      clear HS
      generalize mixR zs L = R at HR HMX HMR
      obtain ⟨l, hl⟩ : ∃ l, R.length = l := ⟨_, rfl⟩
      have HRL := Lib.hid hl
      rw [hl] at HR
      go_wp2_with (fail)
      refine (HMX.out w1 A1.out E1.out).mono ?_
      rintro e w2 ⟨R2, c2, rfl, k2, b2⟩
      have B2 := Lib.hid (B1.out.trans (b2.mono B1.out.size))
      have A2 := Lib.hid (A1.out.below b2 (Nat.le_refl _))
      have E2 := Lib.hid (E1.out.below b2 (Nat.le_refl _))
      have K2 := Lib.hid k2
      clear b2 k2 A1 E1 B1 HMX
      rw [HRL.out]
      go_wp2_with (fail)
      refine (HMR.out w2 A2.out E2.out).mono ?_
      rintro e w3 ⟨R3, c3, rfl, k3, b3⟩
      have B3 := Lib.hid (B2.out.trans (b3.mono B2.out.size))
      have K3 := Lib.hid k3
      have K2 := Lib.hid (K2.out.below b3 (Nat.le_refl _))
      clear b3 k3 A2 E2 B2 HMR
      rw [HRL.out]
      go_wp2_with (fail)
      refine (ints_same w3 R2 l c2 R3 c3 R HRL.out (Nat.le_trans HR.out (by omega)) K2.out K3.out).mono ?_
      rintro e w4 ⟨rfl, d4, rfl⟩
      go_wp2_with (fail)
      refine bodyPost_ret (results_tmp rfl _ _ _) rfl ?_
      exact ⟨rfl, below_drewN B3.out _⟩
end Go.Proofs.YtghlapaoebelpaaDoor.softMix
