/-
  Package soft: a mean, and Mix. Conditions: the numbers are there.
-/
import Derived.Test.YtghlapaoebelpaaDoorSf2
import Derived.Test.YtghlapaoebelpaaDoorNumDiv
namespace Go.Proofs.YtghlapaoebelpaaDoor
open Go.ChangeShapes Go.WideShapes Go.ChangeAt Go.RowKit Nm Vc Sf

namespace Sf
/-- A sum as a quotient, rounded down, and a rest. -/
structure MeanAt (ws : List Int) (L : List (List Int)) (k j : Nat) (s q r : Int) : Prop where
  is : q * s + r = numer (ws.take j) (L.take j) k
  r0 : 0 ≤ r
  r1 : r < s
  q0 : -72057594037927936 ≤ q
  q1 : q ≤ 72057594037927936
theorem tdiv_of {N s q r : Int} (h : q * s + r = N) (h0 : 0 ≤ r) (h1 : r < s) : N.tdiv s = if q < 0 ∧ 0 < r then q + 1 else q := by
  have hs : 0 < s := by omega
  have hN : N = r + q * s := by omega
  have e1 : N / s = q := by rw [hN, Int.add_mul_ediv_right _ _ (by omega), Int.ediv_eq_zero_of_lt h0 h1, Int.zero_add]
  have e2 : N % s = r := by rw [hN, Int.add_mul_emod_self_right, Int.emod_eq_of_lt h0 h1]
  rw [Int.tdiv_eq_ediv, e1, Int.sign_eq_one_of_pos hs]
  by_cases hc : 0 ≤ N ∨ s ∣ N
  · have hn : ¬ (q < 0 ∧ 0 < r) := by
      rintro ⟨hq, hr⟩
      rcases hc with h2 | h2
      · have := Int.ediv_nonneg h2 (show 0 ≤ s by omega)
        omega
      · have := Int.emod_eq_zero_of_dvd h2
        omega
    rw [if_pos hc, if_neg hn]
    omega
  · have hn : q < 0 ∧ 0 < r := by
      constructor
      · apply Int.not_le.1
        intro hq
        have := Int.mul_nonneg hq (show 0 ≤ s by omega)
        exact hc (.inl (by omega))
      · apply Int.not_le.1
        intro hr
        exact hc (.inr (Int.dvd_of_emod_eq_zero (by omega)))
    rw [if_neg hc, if_pos hn]
theorem quo_in {N s q r : Int} {b : Int} (h : q * s + r = N) (h0 : 0 ≤ r) (h1 : r < s) (hN : -b ≤ N ∧ N ≤ b) : -b - 1 ≤ q ∧ q ≤ b := by
  constructor
  · apply Int.not_lt.1
    intro hq
    have := Int.mul_le_mul_of_nonneg_right (show q ≤ -b - 2 by omega) (show 0 ≤ s by omega)
    have h2 : (-b - 2) * s ≤ (-b - 2) * 1 := Int.mul_le_mul_of_nonpos_left (by omega) (by omega)
    have h3 : (-b - 2) * s = (-b - 1) * s - s := by rw [show -b - 1 = -b - 2 + 1 by omega, Int.add_mul]; omega
    have h4 : (-b - 1) * s ≤ (-b - 1) * 1 := Int.mul_le_mul_of_nonpos_left (by omega) (by omega)
    omega
  · apply Int.not_lt.1
    intro hq
    have h2 := Int.mul_le_mul_of_nonneg_left (show 1 ≤ s by omega) (show 0 ≤ q by omega)
    omega
/-- All that a step of a mean does, nothing wraps. -/
structure MeanStep (ws : List Int) (L : List (List Int)) (k j : Nat) (s q r z x t : Int) : Prop where
  w1 : wrap64 (z * x) = z * x
  w2 : wrap64 (r + z * x) = r + z * x
  fit : Fits (r + z * x)
  dv : div (r + z * x) s = t
  w3 : wrap64 (q + t) = q + t
  w4 : wrap64 (t * s) = t * s
  w5 : wrap64 (r + z * x - t * s) = r + z * x - t * s
  on : MeanAt ws L k (j + 1) s (q + t) (r + z * x - t * s)
theorem mean_step {ws : List Int} {L : List (List Int)} {k j n : Nat} {s q r : Int} (hW : InW 65536 ws) (hl : ws.length = n) (hL : L.length = n) (hn : n ≤ 1000) (hs : s ≤ 65536000) (hj : j < n) (h : MeanAt ws L k j s q r) :
    ∃ t, MeanStep ws L k j s q r (ws.getD j 0) (c30 ((L.getD j []).getD k 0)) t := by
  have hz := hW j (by omega)
  have hx := c30_in ((L.getD j []).getD k 0)
  have hzx := term_in hz hx
  have hnx := numer_next ws L k j (by omega) (by omega)
  have hin := numer_in (m := 65536) (by omega) (ws.take (j + 1)) (L.take (j + 1)) k (inW_take hW _)
  rw [hnx, List.length_take, ← h.is] at hin
  have hjl : ((min (j + 1) ws.length : Nat) : Int) ≤ 1000 := by omega
  generalize ((min (j + 1) ws.length : Nat) : Int) = l at hin hjl
  have h0 := h.r0
  have h1 := h.r1
  generalize ws.getD j 0 = z at hz hzx hnx hin ⊢
  generalize c30 ((L.getD j []).getD k 0) = x at hx hzx hnx hin ⊢
  have hdv : div (r + z * x) s = (r + z * x).fdiv s := by
    unfold div
    rw [if_neg (by omega), if_neg (by omega)]
  have hm := fmod_pos (r + z * x) s (by omega)
  have hf := fdiv_mul (r + z * x) s
  generalize hy : z * x = y at *
  generalize ht : (r + y).fdiv s = t at *
  have hst : t * s = r + y - (r + y).fmod s := hf
  generalize (r + y).fmod s = f at hm hst
  have hqt : (q + t) * s + (r + y - t * s) = q * s + r + y := by rw [Int.add_mul]; omega
  have hq := quo_in (b := 72057594037927935) hqt (by omega) (by omega) (by omega)
  exact ⟨t, ⟨by rw [hy]; exact IntWalk.wrap64_in _ (by omega), by rw [hy]; exact IntWalk.wrap64_in _ (by omega), by rw [hy]; unfold Fits; omega, by rw [hy]; exact hdv, IntWalk.wrap64_in _ (by omega),
    IntWalk.wrap64_in _ (by omega), by rw [hy]; exact IntWalk.wrap64_in _ (by omega),
    ⟨by rw [hy, hqt, hnx, h.is], by rw [hy]; omega, by rw [hy]; omega, by omega, by omega⟩⟩⟩
theorem mean_start {ws : List Int} {L : List (List Int)} {k : Nat} {s : Int} (hs : 0 < s) : MeanAt ws L k 0 s 0 0 :=
  ⟨by rw [Int.zero_mul]; rfl, by omega, hs, by omega, by omega⟩
theorem mean_end {ws : List Int} {L : List (List Int)} {k n : Nat} {s q r : Int} (h1 : ws.length = n) (h2 : L.length = n) (h : MeanAt ws L k n s q r) : (numer ws L k).tdiv s = if q < 0 ∧ 0 < r then q + 1 else q := by
  have e := h.is
  rw [numer_all ws L k (by omega) (by omega)] at e
  exact tdiv_of e h.r0 h.r1
end Sf
section
variable (w : World) (A : Option Addr) (c : Nat) (zs : List Int) (E : Option Addr) (ce : Nat) (B : Nat → Option Addr) (C : Nat → Nat) (L : List (List Int)) (n k m : Nat) (s : Int)
set_option maxRecDepth 100000 in
set_option maxHeartbeats 3200000 in
theorem soft_mean (hz : zs.length = n) (hL : L.length = n) (hn : n ≤ 1000) (hW : InW 65536 zs) (hs : s = total zs) (hs0 : 0 < s) (hA : KIn .i64 w A zs) (hE : LIn w E B C L) (hm : ∀ i, i < n → (L.getD i []).length = m) (hk : k < m) :
    Calls Tryd.prog 26 #[.int .i64 (k : Int), .int .i64 s, .slice A n c, .slice E n ce] w fun e w' => e = .returned (.int .i64 ((numer zs L k).tdiv s)) ∧ w = w' := by
  have hs1 : s ≤ 65536000 := by
    have := (total_in (by omega) zs hW).2
    omega
  have HA := Lib.hid hA
  have HE := Lib.hid hE
  have HZ := Lib.hid hz
  have HL := Lib.hid hL
  have HM := Lib.hid hm
  have HST := Lib.hid (fun j q r (hj : j < n) h => mean_step (k := k) (j := j) (s := s) (q := q) (r := r) hW hz hL hn hs1 hj h)
  have HEN := Lib.hid (fun q r h => mean_end (k := k) (s := s) (q := q) (r := r) hz hL h)
  have HS0 := Lib.hid (mean_start (ws := zs) (L := L) (k := k) hs0)
  have y0 : (k : Int) < (m : Int) := by omega
  have y1 : 0 ≤ (k : Int) := by omega
  clear hs hA hE hz hL hm hW
  generalize (numer zs L k).tdiv s = R at HEN ⊢
  go_enter Tryd.func26, Tryd.ntmps26
  go_wp2_with (fail)
  go_loopw [9, 10, 16] (fun a b i wr => ∃ (j : Nat) (q r : Int), i = .int .i64 (j : Int) ∧ j ≤ n ∧ a = .int .i64 q ∧ b = .int .i64 r ∧ w = wr ∧ MeanAt zs L k j s q r) (fun _ _ i _ => match i with | .int _ k => n - k.toNat | _ => 0)
  case atStart => exact ⟨0, 0, 0, rfl, Nat.zero_le _, rfl, rfl, rfl, HS0.out⟩
  case round =>
    clear HS0
    obtain ⟨j, q, r, rfl, hj, rfl, rfl, rfl, hq⟩ := hrel
    have HQ := Lib.hid hq
    clear hq
    have x2 : 0 ≤ (j : Int) := by omega
    by_cases hlt : j < n
    · have x0 : (j : Int) < (n : Int) := by omega
      have x1 : decide ((j : Int) < (n : Int)) = true := decide_eq_true x0
      have HJ := Lib.hid (show j + 1 ≤ n by omega)
      obtain ⟨pa, oa, rfl, hc⟩ := HA.out.at (show j < zs.length by rw [HZ.out]; exact hlt)
      obtain ⟨pb, ob, rfl, hl, hk2⟩ := HE.out.at (show j < L.length by rw [HL.out]; exact hlt)
      obtain ⟨pc, oc, e, hx⟩ := hk2.at (show k < (L.getD j []).length by rw [HM.out j hlt]; exact hk)
      rw [e, HM.out j hlt] at hl
      obtain ⟨t, ht⟩ := HST.out j q r hlt HQ.out
      have HT := Lib.hid ht
      have W1 := Lib.hid ht.w1
      have W2 := Lib.hid ht.w2
      have W3 := Lib.hid ht.w3
      have W4 := Lib.hid ht.w4
      have W5 := Lib.hid ht.w5
      have HDV := Lib.hid (ht.dv ▸ div_any (r + zs.getD j 0 * c30 ((L.getD j []).getD k 0)) s w ht.fit)
      have HON := Lib.hid ht.on
      clear ht HT hk2 HQ e
      generalize zs.getD j 0 = z at hc W1 W2 W5 HDV HON
      generalize (L.getD j []).getD k 0 = x at hx W1 W2 W5 HDV HON
      have HCL := Lib.hid (soft_clamp x w)
      generalize c30 x = y at W1 W2 W5 HDV HON HCL
      have x3 := IntWalk.wrap64_in ((j : Int) + 1) (by omega)
      go_wp2_with (fail)
      refine HCL.out.mono ?_
      rintro e w1 ⟨rfl, rfl⟩
      go_wp2_with (fail)
      rw [W1.out, W2.out]
      refine HDV.out.mono ?_
      rintro e w1 ⟨rfl, rfl⟩
      go_wp2_with (fail)
      exact ⟨⟨j + 1, q + t, r + z * y - t * s, rfl, HJ.out, by rw [W3.out], by rw [W4.out, W5.out], by trivial, HON.out⟩, vc_less j n hlt⟩
    · have hke : j = n := by omega
      have x0 : ¬ (j : Int) < (n : Int) := by omega
      have x1 : decide ((j : Int) < (n : Int)) = false := decide_eq_false x0
      rw [hke] at HQ
      have HR := Lib.hid (HEN.out q r HQ.out)
      have W1 := Lib.hid (show wrap64 (q + 1) = q + 1 from IntWalk.wrap64_in _ (by have := HQ.out.q0; have := HQ.out.q1; omega))
      clear HQ hke hlt
      by_cases h1 : q < 0
      · have t1 : decide (q < 0) = true := decide_eq_true h1
        by_cases h2 : 0 < r
        · have t2 : decide (0 < r) = true := decide_eq_true h2
          rw [if_pos ⟨h1, h2⟩] at HR
          go_wp2_with (fail)
          refine bodyPost_ret (results_tmp rfl _ _ _) rfl ?_
          exact ⟨ret_i (by rw [HR.out, W1.out]), rfl⟩
        · have t2 : decide (0 < r) = false := decide_eq_false h2
          rw [if_neg (fun h => h2 h.2)] at HR
          go_wp2_with (fail)
          refine bodyPost_ret (results_tmp rfl _ _ _) rfl ?_
          exact ⟨ret_i (by rw [HR.out]), rfl⟩
      · have t1 : decide (q < 0) = false := decide_eq_false h1
        rw [if_neg (fun h => h1 h.1)] at HR
        go_wp2_with (fail)
        refine bodyPost_ret (results_tmp rfl _ _ _) rfl ?_
        exact ⟨ret_i (by rw [HR.out]), rfl⟩
end
end Go.Proofs.YtghlapaoebelpaaDoor
