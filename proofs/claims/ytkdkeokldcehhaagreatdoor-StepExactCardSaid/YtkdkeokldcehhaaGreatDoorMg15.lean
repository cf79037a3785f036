/-
  Package soft: what counts (Exp), the clamp. Conditions: the table lies where the program looks.
  Package soft: the best, the sum of weights, whether rows are even. Conditions: the numbers are there.
  Package soft: a mean, and Mix. Conditions: the numbers are there.
  Package soft: Mix. Conditions: the numbers are there.
  Package soft: Weights. Conditions: the numbers are there; the table lies where the program looks.
  Package soft: Choose. Conditions: the weights are there.
-/
import Derived.Test.YtkdkeokldcehhaaGreatDoorMg6
import Derived.Test.YtkdkeokldcehhaaGreatDoorMg8
import Derived.Test.YtkdkeokldcehhaaGreatDoorMg14
import Derived.Test.YtkdkeokldcehhaaGreatDoorMg5
import Derived.Laws.Shifts
set_option maxRecDepth 100000
namespace Go.Proofs.YtkdkeokldcehhaaGreatDoor
open Go.ChangeShapes Go.WideShapes Go.ChangeAt Go.RowKit Nm Vc Sf

namespace Sf
/-- The table lies in the package's variable. -/
def POn (w : World) : Prop := ∀ i, i < 8 → w.cell? ⟨0, i, none⟩ = some (.int .i64 (tabN i : Nat))
theorem POn.lt {w : World} (h : POn w) : 0 < w.heap.size := block_lt_of_cell (h 0 (by omega))
theorem POn.below {w w' : World} (h : POn w) {B : Nat} (k : Below B w w') (hB : w.heap.size ≤ B) : POn w' := fun i hi => (k.cell (p := ⟨0, i, none⟩) (Nat.lt_of_lt_of_le h.lt hB)).trans (h i hi)
theorem POn.keep {w w' : World} (h : POn w) {B : Nat} (k : Below B w w') (hB : 0 < B) : POn w' := fun i hi => (k.cell (p := ⟨0, i, none⟩) hB).trans (h i hi)
theorem expZ_neg {d : Int} (h : d < 0) : expZ d = expZ 0 := by unfold expZ; rw [show d.toNat = (0 : Int).toNat by omega]
theorem shr_any (t q : Nat) (ht : t ≤ 65536) : Op.shift .shr .i64 (t : Int) .i64 (q : Int) = pure (.int .i64 ((t / 2 ^ q : Nat) : Int)) := by
  rw [shift_shr_any _ _ _ _ (by omega), Int.toNat_natCast]
  congr 2
  have e : ∀ k : Nat, (t : Int) / 2 ^ k = ((t / 2 ^ k : Nat) : Int) := fun k => by rw [Int.natCast_ediv, Int.natCast_pow]; rfl
  rw [e]
  by_cases h : q ≤ 64
  · rw [show min q IntKind.i64.bits = q from Nat.min_eq_left h]
  · rw [show min q IntKind.i64.bits = 64 from Nat.min_eq_right (by show 64 ≤ q; omega), Nat.div_eq_of_lt (by omega), Nat.div_eq_of_lt (Nat.lt_of_lt_of_le (show t < 2 ^ 64 by omega) (Nat.pow_le_pow_right (by omega) (by omega)))]
end Sf
set_option maxRecDepth 100000 in
set_option maxHeartbeats 800000 in
theorem soft_exp (d : Int) (w : World) (hd : d ≤ 9223372036854775807) (hp : POn w) :
    Calls Tryz.prog 109 #[.int .i64 d] w fun e w' => e = .returned (.int .i64 (expZ d)) ∧ w = w' := by
  by_cases h0 : d < 0
  · have hc := hp 0 (by omega)
    have HE := Lib.hid (show expZ d = ((tabN 0 : Nat) : Int) by rw [expZ_neg h0]; rfl)
    generalize tabN 0 = t at hc HE
    go_enter Tryz.func109, Tryz.ntmps109
    go_wp2
    go_ret
    exact ⟨ret_i (by rw [HE.out]), rfl⟩
  obtain ⟨n, rfl⟩ : ∃ n : Nat, d = n := ⟨d.toNat, by omega⟩
  obtain ⟨q, hq⟩ : ∃ q, q = n / 8 := ⟨_, rfl⟩
  obtain ⟨r, hr⟩ : ∃ r, r = n % 8 := ⟨_, rfl⟩
  have e1 : Int.tmod (n : Int) 8 = (r : Int) := by rw [hr]; rfl
  have e2 : Int.tdiv (n : Int) 8 = (q : Int) := by rw [hq]; rfl
  have hr8 : r < 8 := by omega
  have HE := Lib.hid (show expZ n = ((tabN r / 2 ^ q : Nat) : Int) by unfold expZ expN; rw [Int.toNat_natCast, ← hq, ← hr])
  have hc := hp r hr8
  have e3 := shr_any (tabN r) q (tabN_le r)
  have e4 : wrap64 (q : Int) = (q : Int) := IntWalk.wrap64_in _ (by omega)
  generalize tabN r / 2 ^ q = z at e3 HE
  generalize tabN r = t at hc e3
  clear hp hq hr hd h0
  go_enter Tryz.func109, Tryz.ntmps109
  go_wp2
  go_ret
  exact ⟨ret_i (by rw [HE.out]), rfl⟩
theorem soft_clamp (x : Int) (w : World) :
    Calls Tryz.prog 107 #[.int .i64 x] w fun e w' => e = .returned (.int .i64 (c30 x)) ∧ w = w' := by
  go_enter Tryz.func107, Tryz.ntmps107
  go_wp2_with (fail)
  refine (clamp_any _ _ _ _).mono ?_
  rintro e w' ⟨rfl, rfl⟩
  go_wp2
  go_ret
  exact ⟨ret_i rfl, rfl⟩
theorem ref12_clamp (x : Int) (w : World) :
    Calls Tryz.prog 103 #[.int .i64 x] w fun e w' => e = .returned (.int .i64 (c30 x)) ∧ w = w' := by
  go_enter Tryz.func103, Tryz.ntmps103
  go_wp2_with (fail)
  refine (rclamp_any _ _ _ _).mono ?_
  rintro e w' ⟨rfl, rfl⟩
  go_wp2
  go_ret
  exact ⟨ret_i rfl, rfl⟩
end Go.Proofs.YtkdkeokldcehhaaGreatDoor
namespace Go.Proofs.YtkdkeokldcehhaaGreatDoor
open Go.ChangeShapes Go.WideShapes Go.ChangeAt Go.RowKit Nm Vc Sf

namespace Sf
theorem bestK_next (l : List Int) (j : Nat) : bestK l (j + 1) = if bestK l j < 0 ∨ l.getD (bestK l j).toNat 0 < l.getD j 0 then (j : Int) else bestK l j := rfl
theorem bestK_bound (l : List Int) (j : Nat) : 0 < j → 0 ≤ bestK l j ∧ bestK l j < j := bestK_in l j
theorem bestK_low (l : List Int) (j : Nat) (h : 0 ≤ bestK l j) : ∃ m : Nat, bestK l j = (m : Int) ∧ m < j := by
  by_cases h0 : j = 0
  · subst h0
    exact absurd h (by show ¬ (0 : Int) ≤ -1; omega)
  · have := bestK_in l j (by omega)
    exact ⟨(bestK l j).toNat, by omega, by omega⟩
/-- Which of the first k weights are in range. -/
def okTo (m : Int) (ws : List Int) (k : Nat) : Prop := ∀ i, i < k → 0 ≤ ws.getD i 0 ∧ ws.getD i 0 ≤ m
theorem okTo_all {m : Int} {ws : List Int} (h : okTo m ws ws.length) : InW m ws := h
theorem okTo_next {m : Int} {ws : List Int} {k : Nat} (h : okTo m ws k) (h1 : ¬ ws.getD k 0 < 0) (h2 : ¬ m < ws.getD k 0) : okTo m ws (k + 1) := fun i hi => by
  by_cases e : i = k
  · subst e; omega
  · exact h i (by omega)
theorem total_small {m : Int} {ws : List Int} {k n : Nat} (hm : 0 ≤ m) (hm2 : m ≤ 1048576) (h : okTo m ws k) (hk : k ≤ ws.length) (hn : ws.length = n) (hs : n ≤ 1048576) : 0 ≤ total (ws.take k) ∧ total (ws.take k) ≤ 1099511627776 := by
  have h1 : InW m (ws.take k) := fun i hi => by
    rw [List.length_take] at hi
    have := h i (by omega)
    rwa [List.getD_eq_getElem?_getD, List.getElem?_take_of_lt (by omega), ← List.getD_eq_getElem?_getD]
  have h2 := total_in hm _ h1
  rw [List.length_take] at h2
  have h3 : m * ((min k ws.length : Nat) : Int) ≤ 1048576 * 1048576 := Int.mul_le_mul hm2 (by omega) (by omega) (by omega)
  omega
end Sf
section
variable (w : World) (m : Int) (A : Option Addr) (n c : Nat) (zs : List Int)
set_option maxRecDepth 100000 in
set_option maxHeartbeats 800000 in
theorem soft_best (hz : zs.length = n) (hm : n ≤ 1000000) (hA : KIn .i64 w A zs) :
    Calls Tryz.prog 50 #[.slice A n c] w fun e w' => e = .returned (.int .i64 (bestL zs)) ∧ w = w' := by
  have HA := Lib.hid hA
  have HZ := Lib.hid hz
  clear hA hz
  go_enter Tryz.func50, Tryz.ntmps50
  go_wp2_with (fail)
  go_loopw [3, 8] (fun b i wr => ∃ j : Nat, i = .int .i64 (j : Int) ∧ j ≤ n ∧ b = .int .i64 (bestK zs j) ∧ w = wr) (fun _ i _ => match i with | .int _ k => n - k.toNat | _ => 0)
  case atStart => exact ⟨0, rfl, Nat.zero_le _, rfl, rfl⟩
  case round =>
    obtain ⟨j, rfl, hj, rfl, rfl⟩ := hrel
    have x2 : 0 ≤ (j : Int) := by omega
    by_cases hlt : j < n
    · have x0 : (j : Int) < (n : Int) := by omega
      have x1 : decide ((j : Int) < (n : Int)) = true := decide_eq_true x0
      have HJ := Lib.hid (show j + 1 ≤ n by omega)
      obtain ⟨pa, oa, rfl, hc⟩ := HA.out.at (show j < zs.length by rw [HZ.out]; exact hlt)
      have HN := Lib.hid (bestK_next zs j)
      have x3 := IntWalk.wrap64_in ((j : Int) + 1) (by omega)
      by_cases hb : bestK zs j < 0
      · have t1 : decide (bestK zs j < 0) = true := decide_eq_true hb
        have HB := Lib.hid (show bestK zs (j + 1) = (j : Int) by rw [HN.out, if_pos (.inl hb)])
        generalize bestK zs j = b at t1
        generalize zs.getD j 0 = z at hc
        clear HN hb
        go_wp2_with (fail)
        exact ⟨⟨j + 1, rfl, HJ.out, by rw [HB.out], by trivial⟩, vc_less j n hlt⟩
      · have hlow := bestK_low zs j (by omega)
        have hc2 := fun (q : Nat) (hq : q < j) => HA.out.at (show q < zs.length by rw [HZ.out]; omega)
        have t1 : decide (bestK zs j < 0) = false := decide_eq_false hb
        obtain ⟨q, e, hq⟩ := hlow
        obtain ⟨_, _, e2, hcq⟩ := hc2 q hq
        injection e2 with e2
        injection e2 with e2 e3 _
        subst e2 e3
        rw [e] at hb t1 HN ⊢
        rw [Int.toNat_natCast] at HN
        have y2 : 0 ≤ (q : Int) := by omega
        have y3 : (q : Int) < (n : Int) := by omega
        by_cases hs : zs.getD q 0 < zs.getD j 0
        · have t2 : decide (zs.getD q 0 < zs.getD j 0) = true := decide_eq_true hs
          have HB := Lib.hid (show bestK zs (j + 1) = (j : Int) by rw [HN.out, if_pos (.inr hs)])
          generalize zs.getD j 0 = z at hc t2
          generalize zs.getD q 0 = z2 at hcq t2
          clear HN hs e hc2
          go_wp2_with (fail)
          exact ⟨⟨j + 1, rfl, HJ.out, by rw [HB.out], by trivial⟩, vc_less j n hlt⟩
        · have t2 : decide (zs.getD q 0 < zs.getD j 0) = false := decide_eq_false hs
          have HB := Lib.hid (show bestK zs (j + 1) = (q : Int) by rw [HN.out, if_neg (fun h => h.elim hb hs)])
          generalize zs.getD j 0 = z at hc t2
          generalize zs.getD q 0 = z2 at hcq t2
          clear HN hs e hc2
          go_wp2_with (fail)
          exact ⟨⟨j + 1, rfl, HJ.out, by rw [HB.out], by trivial⟩, vc_less j n hlt⟩
    · have hke : j = n := by omega
      have x0 : ¬ (j : Int) < (n : Int) := by omega
      have x1 : decide ((j : Int) < (n : Int)) = false := decide_eq_false x0
      go_wp2_with (fail)
      refine bodyPost_ret (results_tmp rfl _ _ _) rfl ?_
      exact ⟨ret_i (by unfold bestL; rw [HZ.out]), rfl⟩
set_option maxRecDepth 100000 in
set_option maxHeartbeats 800000 in
theorem soft_sum (hz : zs.length = n) (hm : n ≤ 1000000) (hm0 : 0 ≤ m) (hm1 : m ≤ 1048576) (hA : KIn .i64 w A zs) (hW : InW m zs) :
    Calls Tryz.prog 106 #[.int .i64 m, .slice A n c] w fun e w' => e = .returned (.int .i64 (total zs)) ∧ w = w' := by
  have HA := Lib.hid hA
  have HZ := Lib.hid hz
  have HW := Lib.hid (show ∀ i, i < n → 0 ≤ zs.getD i 0 ∧ zs.getD i 0 ≤ m from fun i hi => hW i (by omega))
  clear hA hz hW
  go_enter Tryz.func106, Tryz.ntmps106
  go_wp2_with (fail)
  go_loopw [5, 10] (fun b i wr => ∃ j : Nat, i = .int .i64 (j : Int) ∧ j ≤ n ∧ b = .int .i64 (total (zs.take j)) ∧ w = wr) (fun _ i _ => match i with | .int _ k => n - k.toNat | _ => 0)
  case atStart => exact ⟨0, rfl, Nat.zero_le _, rfl, rfl⟩
  case round =>
    obtain ⟨j, rfl, hj, rfl, rfl⟩ := hrel
    have x2 : 0 ≤ (j : Int) := by omega
    by_cases hlt : j < n
    · have x0 : (j : Int) < (n : Int) := by omega
      have x1 : decide ((j : Int) < (n : Int)) = true := decide_eq_true x0
      have HJ := Lib.hid (show j + 1 ≤ n by omega)
      have hl : j < zs.length := by rw [HZ.out]; exact hlt
      obtain ⟨pa, oa, rfl, hc⟩ := HA.out.at hl
      have HN := Lib.hid (total_next zs j hl)
      have hs := total_small hm0 hm1 (fun i hi => HW.out i (by omega)) (show j ≤ zs.length by omega) HZ.out (by omega)
      have hw := HW.out j hlt
      have t1 : decide (zs.getD j 0 < 0) = false := decide_eq_false (by omega)
      have t2 : decide (m < zs.getD j 0) = false := decide_eq_false (by omega)
      have x4 : wrap64 (total (zs.take j) + zs.getD j 0) = total (zs.take j) + zs.getD j 0 := IntWalk.wrap64_in _ (by omega)
      clear hl hs hw
      generalize zs.getD j 0 = z at hc t1 t2 x4 HN
      generalize total (zs.take j) = s at x4 HN
      have x3 := IntWalk.wrap64_in ((j : Int) + 1) (by omega)
      go_wp2_with (fail)
      exact ⟨⟨j + 1, rfl, HJ.out, by rw [HN.out, x4], by trivial⟩, vc_less j n hlt⟩
    · have hke : j = n := by omega
      have x0 : ¬ (j : Int) < (n : Int) := by omega
      have x1 : decide ((j : Int) < (n : Int)) = false := decide_eq_false x0
      go_wp2_with (fail)
      refine bodyPost_ret (results_tmp rfl _ _ _) rfl ?_
      exact ⟨ret_i (by rw [List.take_of_length_le (by rw [HZ.out]; omega)]), rfl⟩
set_option maxRecDepth 100000 in
set_option maxHeartbeats 800000 in
theorem soft_sum_not (hz : zs.length = n) (hm : n ≤ 1000000) (hm0 : 0 ≤ m) (hm1 : m ≤ 1048576) (hA : KIn .i64 w A zs) (hW : ¬ InW m zs) :
    Calls Tryz.prog 106 #[.int .i64 m, .slice A n c] w fun e w' => e = .returned (.int .i64 0) ∧ w = w' := by
  have HA := Lib.hid hA
  have HZ := Lib.hid hz
  have HW := Lib.hid (show ¬ okTo m zs n from fun h => hW (by unfold InW; rw [hz]; exact h))
  clear hA hz hW
  go_enter Tryz.func106, Tryz.ntmps106
  go_wp2_with (fail)
  go_loopw [5, 10] (fun b i wr => ∃ j : Nat, i = .int .i64 (j : Int) ∧ j ≤ n ∧ b = .int .i64 (total (zs.take j)) ∧ w = wr ∧ okTo m zs j) (fun _ i _ => match i with | .int _ k => n - k.toNat | _ => 0)
  case atStart => exact ⟨0, rfl, Nat.zero_le _, rfl, rfl, fun i hi => absurd hi (by omega)⟩
  case round =>
    obtain ⟨j, rfl, hj, rfl, rfl, ho⟩ := hrel
    have HO := Lib.hid ho
    clear ho
    have x2 : 0 ≤ (j : Int) := by omega
    by_cases hlt : j < n
    · have x0 : (j : Int) < (n : Int) := by omega
      have x1 : decide ((j : Int) < (n : Int)) = true := decide_eq_true x0
      have HJ := Lib.hid (show j + 1 ≤ n by omega)
      have hl : j < zs.length := by rw [HZ.out]; exact hlt
      obtain ⟨pa, oa, rfl, hc⟩ := HA.out.at hl
      have HN := Lib.hid (total_next zs j hl)
      have hs := total_small hm0 hm1 HO.out (show j ≤ zs.length by omega) HZ.out (by omega)
      by_cases h1 : zs.getD j 0 < 0
      · have t1 : decide (zs.getD j 0 < 0) = true := decide_eq_true h1
        generalize zs.getD j 0 = z at hc t1
        clear HN hs h1 hl
        generalize total (zs.take j) = s
        go_wp2_with (fail)
        refine bodyPost_ret (results_tmp rfl _ _ _) rfl ?_
        exact ⟨rfl, rfl⟩
      have t1 : decide (zs.getD j 0 < 0) = false := decide_eq_false h1
      by_cases h2 : m < zs.getD j 0
      · have t2 : decide (m < zs.getD j 0) = true := decide_eq_true h2
        generalize zs.getD j 0 = z at hc t1 t2
        clear HN hs h1 h2 hl
        generalize total (zs.take j) = s
        go_wp2_with (fail)
        refine bodyPost_ret (results_tmp rfl _ _ _) rfl ?_
        exact ⟨rfl, rfl⟩
      have t2 : decide (m < zs.getD j 0) = false := decide_eq_false h2
      have HON := Lib.hid (okTo_next HO.out h1 h2)
      have x4 : wrap64 (total (zs.take j) + zs.getD j 0) = total (zs.take j) + zs.getD j 0 := IntWalk.wrap64_in _ (by omega)
      clear hl hs h1 h2
      generalize zs.getD j 0 = z at hc t1 t2 x4 HN
      generalize total (zs.take j) = s at x4 HN
      have x3 := IntWalk.wrap64_in ((j : Int) + 1) (by omega)
      go_wp2_with (fail)
      exact ⟨⟨j + 1, rfl, HJ.out, by rw [HN.out, x4], by trivial, HON.out⟩, vc_less j n hlt⟩
    · have hke : j = n := by omega
      rw [hke] at HO
      exact absurd HO.out HW.out
end
section
variable (w : World) (A : Option Addr) (c : Nat) (B : Nat → Option Addr) (C : Nat → Nat) (L : List (List Int)) (n : Nat)
set_option maxRecDepth 100000 in
set_option maxHeartbeats 1600000 in
theorem soft_even_not (hn : L.length = n) (hm : n ≤ 1000000) (hA : LIn w A B C L) (h : ¬ evenTo L n) :
    Calls Tryz.prog 130 #[.slice A n c] w fun e w' => e = .returned (.bool false) ∧ w = w' := by
  have h0 : 0 < n := Nat.pos_of_ne_zero fun e => h (by rw [e]; exact fun i hi => absurd hi (by omega))
  have HA := Lib.hid hA
  have HN := Lib.hid hn
  have HE := Lib.hid h
  obtain ⟨pa, oa, rfl, hc0, _⟩ := hA.at (show 0 < L.length by omega)
  rw [Nat.add_zero] at hc0
  have t1 : 0 < (n : Int) := by omega
  have HS := Lib.hid (rfl : (L.getD 0 []).length = (L.getD 0 []).length)
  generalize hs : (L.getD 0 []).length = s at hc0 HS
  have HSS := Lib.hid hs
  clear hA hn h hs
  go_enter Tryz.func130, Tryz.ntmps130
  go_wp2_with (fail)
  go_loopw [7] (fun i wr => ∃ j : Nat, i = .int .i64 (j : Int) ∧ j ≤ n ∧ wr = w ∧ evenTo L j) (fun i _ => match i with | .int _ k => n - k.toNat | _ => 0)
  case atStart => exact ⟨0, rfl, Nat.zero_le _, rfl, fun i hi => absurd hi (by omega)⟩
  case round =>
    obtain ⟨j, rfl, hj, rfl, he⟩ := hrel
    have HEJ := Lib.hid he
    clear he
    have x2 : 0 ≤ (j : Int) := by omega
    by_cases hlt : j < n
    · have x0 : (j : Int) < (n : Int) := by omega
      have x1 : decide ((j : Int) < (n : Int)) = true := decide_eq_true x0
      have HJ := Lib.hid (show j + 1 ≤ n by omega)
      obtain ⟨pb, po, e, hcell, _⟩ := HA.out.at (show j < L.length by rw [HN.out]; exact hlt)
      injection e with e
      injection e with e1 e2 _
      subst e1 e2
      by_cases hq : (L.getD j []).length = s
      · have t2 : (((L.getD j []).length : Int) == (s : Int)) = true := by rw [hq]; exact beq_self_eq_true _
        have HEN := Lib.hid (show evenTo L (j + 1) from fun i hi => by
          by_cases h : i = j
          · rw [h, hq, HSS.out]
          · exact HEJ.out i (by omega))
        clear hq
        generalize (L.getD j []).length = l at hcell t2
        have x3 := IntWalk.wrap64_in ((j : Int) + 1) (by omega)
        go_wp2_with (fail)
        exact ⟨⟨j + 1, rfl, HJ.out, by trivial, HEN.out⟩, vc_less j n hlt⟩
      · have t2 : (((L.getD j []).length : Int) == (s : Int)) = false := beq_eq_false_iff_ne.2 (by omega)
        clear hq
        generalize (L.getD j []).length = l at hcell t2
        go_wp2_with (fail)
        refine bodyPost_ret (results_tmp rfl _ _ _) rfl ?_
        exact ⟨rfl, rfl⟩
    · have hke : j = n := by omega
      rw [hke] at HEJ
      exact absurd HEJ.out HE.out
set_option maxRecDepth 100000 in
set_option maxHeartbeats 1600000 in
theorem soft_even (hn : L.length = n) (hm : n ≤ 1000000) (hA : LIn w A B C L) (h : evenTo L n) :
    Calls Tryz.prog 130 #[.slice A n c] w fun e w' => e = .returned (.bool true) ∧ w = w' := by
  have HA := Lib.hid hA
  have HN := Lib.hid hn
  have HE := Lib.hid h
  clear hA hn h
  go_enter Tryz.func130, Tryz.ntmps130
  go_wp2_with (fail)
  go_loopw [7] (fun i wr => ∃ j : Nat, i = .int .i64 (j : Int) ∧ j ≤ n ∧ wr = w) (fun i _ => match i with | .int _ k => n - k.toNat | _ => 0)
  case atStart => exact ⟨0, rfl, Nat.zero_le _, rfl⟩
  case round =>
    obtain ⟨j, rfl, hj, rfl⟩ := hrel
    have x2 : 0 ≤ (j : Int) := by omega
    by_cases hlt : j < n
    · have x0 : (j : Int) < (n : Int) := by omega
      have x1 : decide ((j : Int) < (n : Int)) = true := decide_eq_true x0
      have t1 : 0 < (n : Int) := by omega
      have HJ := Lib.hid (show j + 1 ≤ n by omega)
      obtain ⟨pa, oa, rfl, hc0, _⟩ := HA.out.at (show 0 < L.length by rw [HN.out]; omega)
      rw [Nat.add_zero] at hc0
      obtain ⟨pb, po, e, hcell, _⟩ := HA.out.at (show j < L.length by rw [HN.out]; exact hlt)
      injection e with e
      injection e with e1 e2 _
      subst e1 e2
      rw [HE.out j hlt] at hcell
      generalize (L.getD 0 []).length = s at hc0 hcell
      have t2 : ((s : Int) == (s : Int)) = true := beq_self_eq_true _
      have x3 := IntWalk.wrap64_in ((j : Int) + 1) (by omega)
      go_wp2_with (fail)
      exact ⟨⟨j + 1, rfl, HJ.out, by trivial⟩, vc_less j n hlt⟩
    · have hke : j = n := by omega
      have x0 : ¬ (j : Int) < (n : Int) := by omega
      have x1 : decide ((j : Int) < (n : Int)) = false := decide_eq_false x0
      go_wp2_with (fail)
      refine bodyPost_ret (results_tmp rfl _ _ _) rfl ?_
      exact ⟨rfl, rfl⟩
end
end Go.Proofs.YtkdkeokldcehhaaGreatDoor
namespace Go.Proofs.YtkdkeokldcehhaaGreatDoor
open Go.ChangeShapes Go.WideShapes Go.ChangeAt Go.RowKit Nm Vc Sf

namespace Sf
/-- A sum as a quotient, rounded down, and a rest. -/
structure MeanAt (ws : List Int) (L : List (List Int)) (k j : Nat) (s q r : Int) : Prop where
  is : q * s + r = numer (ws.take j) (L.take j) k
  r0 : 0 ≤ r
  r1 : r < s
  q0 : -72057594037927936 ≤ q
  q1 : q ≤ 72057594037927936
theorem tdiv_of {N s q r : Int} (h : q * s + r = N) (h0 : 0 ≤ r) (h1 : r < s) : N.tdiv s = if q < 0 ∧ 0 < r then q + 1 else q := by
  have hs : 0 < s := by omega
  have hN : N = r + q * s := by omega
  have e1 : N / s = q := by rw [hN, Int.add_mul_ediv_right _ _ (by omega), Int.ediv_eq_zero_of_lt h0 h1, Int.zero_add]
  have e2 : N % s = r := by rw [hN, Int.add_mul_emod_self_right, Int.emod_eq_of_lt h0 h1]
  rw [Int.tdiv_eq_ediv, e1, Int.sign_eq_one_of_pos hs]
  by_cases hc : 0 ≤ N ∨ s ∣ N
  · have hn : ¬ (q < 0 ∧ 0 < r) := by
      rintro ⟨hq, hr⟩
      rcases hc with h2 | h2
      · have := Int.ediv_nonneg h2 (show 0 ≤ s by omega)
        omega
      · have := Int.emod_eq_zero_of_dvd h2
        omega
    rw [if_pos hc, if_neg hn]
    omega
  · have hn : q < 0 ∧ 0 < r := by
      constructor
      · apply Int.not_le.1
        intro hq
        have := Int.mul_nonneg hq (show 0 ≤ s by omega)
        exact hc (.inl (by omega))
      · apply Int.not_le.1
        intro hr
        exact hc (.inr (Int.dvd_of_emod_eq_zero (by omega)))
    rw [if_neg hc, if_pos hn]
theorem quo_in {N s q r : Int} {b : Int} (h : q * s + r = N) (h0 : 0 ≤ r) (h1 : r < s) (hN : -b ≤ N ∧ N ≤ b) : -b - 1 ≤ q ∧ q ≤ b := by
  constructor
  · apply Int.not_lt.1
    intro hq
    have := Int.mul_le_mul_of_nonneg_right (show q ≤ -b - 2 by omega) (show 0 ≤ s by omega)
    have h2 : (-b - 2) * s ≤ (-b - 2) * 1 := Int.mul_le_mul_of_nonpos_left (by omega) (by omega)
    have h3 : (-b - 2) * s = (-b - 1) * s - s := by rw [show -b - 1 = -b - 2 + 1 by omega, Int.add_mul]; omega
    have h4 : (-b - 1) * s ≤ (-b - 1) * 1 := Int.mul_le_mul_of_nonpos_left (by omega) (by omega)
    omega
  · apply Int.not_lt.1
    intro hq
    have h2 := Int.mul_le_mul_of_nonneg_left (show 1 ≤ s by omega) (show 0 ≤ q by omega)
    omega
/-- All that a step of a mean does, nothing wraps. -/
structure MeanStep (ws : List Int) (L : List (List Int)) (k j : Nat) (s q r z x t : Int) : Prop where
  w1 : wrap64 (z * x) = z * x
  w2 : wrap64 (r + z * x) = r + z * x
  fit : Fits (r + z * x)
  dv : div (r + z * x) s = t
  w3 : wrap64 (q + t) = q + t
  w4 : wrap64 (t * s) = t * s
  w5 : wrap64 (r + z * x - t * s) = r + z * x - t * s
  on : MeanAt ws L k (j + 1) s (q + t) (r + z * x - t * s)
theorem mean_step {ws : List Int} {L : List (List Int)} {k j n : Nat} {s q r : Int} (hW : InW 65536 ws) (hl : ws.length = n) (hL : L.length = n) (hn : n ≤ 1000) (hs : s ≤ 65536000) (hj : j < n) (h : MeanAt ws L k j s q r) :
    ∃ t, MeanStep ws L k j s q r (ws.getD j 0) (c30 ((L.getD j []).getD k 0)) t := by
  have hz := hW j (by omega)
  have hx := c30_in ((L.getD j []).getD k 0)
  have hzx := term_in hz hx
  have hnx := numer_next ws L k j (by omega) (by omega)
  have hin := numer_in (m := 65536) (by omega) (ws.take (j + 1)) (L.take (j + 1)) k (inW_take hW _)
  rw [hnx, List.length_take, ← h.is] at hin
  have hjl : ((min (j + 1) ws.length : Nat) : Int) ≤ 1000 := by omega
  generalize ((min (j + 1) ws.length : Nat) : Int) = l at hin hjl
  have h0 := h.r0
  have h1 := h.r1
  generalize ws.getD j 0 = z at hz hzx hnx hin ⊢
  generalize c30 ((L.getD j []).getD k 0) = x at hx hzx hnx hin ⊢
  have hdv : div (r + z * x) s = (r + z * x).fdiv s := by
    unfold div
    rw [if_neg (by omega), if_neg (by omega)]
  have hm := fmod_pos (r + z * x) s (by omega)
  have hf := fdiv_mul (r + z * x) s
  generalize hy : z * x = y at *
  generalize ht : (r + y).fdiv s = t at *
  have hst : t * s = r + y - (r + y).fmod s := hf
  generalize (r + y).fmod s = f at hm hst
  have hqt : (q + t) * s + (r + y - t * s) = q * s + r + y := by rw [Int.add_mul]; omega
  have hq := quo_in (b := 72057594037927935) hqt (by omega) (by omega) (by omega)
  exact ⟨t, ⟨by rw [hy]; exact IntWalk.wrap64_in _ (by omega), by rw [hy]; exact IntWalk.wrap64_in _ (by omega), by rw [hy]; unfold Fits; omega, by rw [hy]; exact hdv, IntWalk.wrap64_in _ (by omega),
    IntWalk.wrap64_in _ (by omega), by rw [hy]; exact IntWalk.wrap64_in _ (by omega),
    ⟨by rw [hy, hqt, hnx, h.is], by rw [hy]; omega, by rw [hy]; omega, by omega, by omega⟩⟩⟩
theorem mean_start {ws : List Int} {L : List (List Int)} {k : Nat} {s : Int} (hs : 0 < s) : MeanAt ws L k 0 s 0 0 :=
  ⟨by rw [Int.zero_mul]; rfl, by omega, hs, by omega, by omega⟩
theorem mean_end {ws : List Int} {L : List (List Int)} {k n : Nat} {s q r : Int} (h1 : ws.length = n) (h2 : L.length = n) (h : MeanAt ws L k n s q r) : (numer ws L k).tdiv s = if q < 0 ∧ 0 < r then q + 1 else q := by
  have e := h.is
  rw [numer_all ws L k (by omega) (by omega)] at e
  exact tdiv_of e h.r0 h.r1
end Sf
section
variable (w : World) (A : Option Addr) (c : Nat) (zs : List Int) (E : Option Addr) (ce : Nat) (B : Nat → Option Addr) (C : Nat → Nat) (L : List (List Int)) (n k m : Nat) (s : Int)
set_option maxRecDepth 100000 in
set_option maxHeartbeats 3200000 in
theorem soft_mean (hz : zs.length = n) (hL : L.length = n) (hn : n ≤ 1000) (hW : InW 65536 zs) (hs : s = total zs) (hs0 : 0 < s) (hA : KIn .i64 w A zs) (hE : LIn w E B C L) (hm : ∀ i, i < n → (L.getD i []).length = m) (hk : k < m) :
    Calls Tryz.prog 131 #[.int .i64 (k : Int), .int .i64 s, .slice A n c, .slice E n ce] w fun e w' => e = .returned (.int .i64 ((numer zs L k).tdiv s)) ∧ w = w' := by
  have hs1 : s ≤ 65536000 := by
    have := (total_in (by omega) zs hW).2
    omega
  have HA := Lib.hid hA
  have HE := Lib.hid hE
  have HZ := Lib.hid hz
  have HL := Lib.hid hL
  have HM := Lib.hid hm
  have HST := Lib.hid (fun j q r (hj : j < n) h => mean_step (k := k) (j := j) (s := s) (q := q) (r := r) hW hz hL hn hs1 hj h)
  have HEN := Lib.hid (fun q r h => mean_end (k := k) (s := s) (q := q) (r := r) hz hL h)
  have HS0 := Lib.hid (mean_start (ws := zs) (L := L) (k := k) hs0)
  have y0 : (k : Int) < (m : Int) := by omega
  have y1 : 0 ≤ (k : Int) := by omega
  clear hs hA hE hz hL hm hW
  generalize (numer zs L k).tdiv s = R at HEN ⊢
  go_enter Tryz.func131, Tryz.ntmps131
  go_wp2_with (fail)
  go_loopw [9, 10, 16] (fun a b i wr => ∃ (j : Nat) (q r : Int), i = .int .i64 (j : Int) ∧ j ≤ n ∧ a = .int .i64 q ∧ b = .int .i64 r ∧ w = wr ∧ MeanAt zs L k j s q r) (fun _ _ i _ => match i with | .int _ k => n - k.toNat | _ => 0)
  case atStart => exact ⟨0, 0, 0, rfl, Nat.zero_le _, rfl, rfl, rfl, HS0.out⟩
  case round =>
    clear HS0
    obtain ⟨j, q, r, rfl, hj, rfl, rfl, rfl, hq⟩ := hrel
    have HQ := Lib.hid hq
    clear hq
    have x2 : 0 ≤ (j : Int) := by omega
    by_cases hlt : j < n
    · have x0 : (j : Int) < (n : Int) := by omega
      have x1 : decide ((j : Int) < (n : Int)) = true := decide_eq_true x0
      have HJ := Lib.hid (show j + 1 ≤ n by omega)
      obtain ⟨pa, oa, rfl, hc⟩ := HA.out.at (show j < zs.length by rw [HZ.out]; exact hlt)
      obtain ⟨pb, ob, rfl, hl, hk2⟩ := HE.out.at (show j < L.length by rw [HL.out]; exact hlt)
      obtain ⟨pc, oc, e, hx⟩ := hk2.at (show k < (L.getD j []).length by rw [HM.out j hlt]; exact hk)
      rw [e, HM.out j hlt] at hl
      obtain ⟨t, ht⟩ := HST.out j q r hlt HQ.out
      have HT := Lib.hid ht
      have W1 := Lib.hid ht.w1
      have W2 := Lib.hid ht.w2
      have W3 := Lib.hid ht.w3
      have W4 := Lib.hid ht.w4
      have W5 := Lib.hid ht.w5
      have HDV := Lib.hid (ht.dv ▸ div_any (r + zs.getD j 0 * c30 ((L.getD j []).getD k 0)) s w ht.fit)
      have HON := Lib.hid ht.on
      clear ht HT hk2 HQ e
      generalize zs.getD j 0 = z at hc W1 W2 W5 HDV HON
      generalize (L.getD j []).getD k 0 = x at hx W1 W2 W5 HDV HON
      have HCL := Lib.hid (soft_clamp x w)
      generalize c30 x = y at W1 W2 W5 HDV HON HCL
      have x3 := IntWalk.wrap64_in ((j : Int) + 1) (by omega)
      go_wp2_with (fail)
      refine HCL.out.mono ?_
      rintro e w1 ⟨rfl, rfl⟩
      go_wp2_with (fail)
      rw [W1.out, W2.out]
      refine HDV.out.mono ?_
      rintro e w1 ⟨rfl, rfl⟩
      go_wp2_with (fail)
      exact ⟨⟨j + 1, q + t, r + z * y - t * s, rfl, HJ.out, by rw [W3.out], by rw [W4.out, W5.out], by trivial, HON.out⟩, vc_less j n hlt⟩
    · have hke : j = n := by omega
      have x0 : ¬ (j : Int) < (n : Int) := by omega
      have x1 : decide ((j : Int) < (n : Int)) = false := decide_eq_false x0
      rw [hke] at HQ
      have HR := Lib.hid (HEN.out q r HQ.out)
      have W1 := Lib.hid (show wrap64 (q + 1) = q + 1 from IntWalk.wrap64_in _ (by have := HQ.out.q0; have := HQ.out.q1; omega))
      clear HQ hke hlt
      by_cases h1 : q < 0
      · have t1 : decide (q < 0) = true := decide_eq_true h1
        by_cases h2 : 0 < r
        · have t2 : decide (0 < r) = true := decide_eq_true h2
          rw [if_pos ⟨h1, h2⟩] at HR
          go_wp2_with (fail)
          refine bodyPost_ret (results_tmp rfl _ _ _) rfl ?_
          exact ⟨ret_i (by rw [HR.out, W1.out]), rfl⟩
        · have t2 : decide (0 < r) = false := decide_eq_false h2
          rw [if_neg (fun h => h2 h.2)] at HR
          go_wp2_with (fail)
          refine bodyPost_ret (results_tmp rfl _ _ _) rfl ?_
          exact ⟨ret_i (by rw [HR.out]), rfl⟩
      · have t1 : decide (q < 0) = false := decide_eq_false h1
        rw [if_neg (fun h => h1 h.1)] at HR
        go_wp2_with (fail)
        refine bodyPost_ret (results_tmp rfl _ _ _) rfl ?_
        exact ⟨ret_i (by rw [HR.out]), rfl⟩
end
end Go.Proofs.YtkdkeokldcehhaaGreatDoor
namespace Go.Proofs.YtkdkeokldcehhaaGreatDoor
open Go.ChangeShapes Go.WideShapes Go.ChangeAt Go.RowKit Nm Vc Sf

namespace Sf
/-- Whether rows can be mixed. -/
def mixP (ws : List Int) (L : List (List Int)) : Prop := InW 65536 ws ∧ 0 < total ws ∧ ws.length = L.length ∧ evenTo L L.length
open Classical in
/-- What a mix is; nothing, if there is none. -/
noncomputable def mixR (ws : List Int) (L : List (List Int)) : List Int := if mixP ws L then mixL ws L (L.getD 0 []).length else []
theorem mixR_ok {ws : List Int} {L : List (List Int)} (h : mixP ws L) : mixR ws L = mixL ws L (L.getD 0 []).length := if_pos h
theorem mixR_not {ws : List Int} {L : List (List Int)} (h : ¬ mixP ws L) : mixR ws L = [] := if_neg h
theorem mixP_some {ws : List Int} {L : List (List Int)} (h : mixP ws L) : 0 < L.length := by
  obtain ⟨_, h1, h2, _⟩ := h
  rw [← h2]
  refine Nat.pos_of_ne_zero fun e => ?_
  rw [List.length_eq_zero_iff.1 e] at h1
  exact absurd h1 (by decide)
end Sf
section
variable (w : World) (A : Option Addr) (c : Nat) (zs : List Int) (E : Option Addr) (ce : Nat) (B : Nat → Option Addr) (C : Nat → Nat) (L : List (List Int)) (n q m : Nat)
set_option maxRecDepth 100000 in
set_option maxHeartbeats 1600000 in
theorem soft_mix_not (hz : zs.length = n) (hn : n ≤ 1000) (hL : L.length = q) (hq : q ≤ 1000) (hA : KIn .i64 w A zs) (hE : LIn w E B C L) (h : ¬ mixP zs L) :
    Calls Tryz.prog 118 #[.slice A n c, .slice E q ce] w fun e w' => e = .returned (.slice none 0 0) ∧ w = w' := by
  by_cases hW : InW 65536 zs
  · have HS := Lib.hid (soft_sum w 65536 A n c zs hz (by omega) (by omega) (by omega) hA hW)
    by_cases h0 : total zs = 0
    · rw [h0] at HS
      clear h hW h0 hA hE
      go_enter Tryz.func118, Tryz.ntmps118
      go_wp2_with (fail)
      refine HS.out.mono ?_
      rintro e w1 ⟨rfl, rfl⟩
      go_wp2_with (fail)
      refine bodyPost_ret (results_tmp rfl _ _ _) rfl ?_
      exact ⟨rfl, rfl⟩
    · have ht := (total_in (by omega) zs hW).1
      have t0 : (total zs == 0) = false := beq_eq_false_iff_ne.2 h0
      by_cases hnq : n = q
      · have HE := Lib.hid (soft_even_not w E ce B C L q hL (by omega) hE (fun he => h ⟨hW, by omega, by omega, by rw [hL]; exact he⟩))
        subst hnq
        have t1 : ((n : Int) != (n : Int)) = false := by simp
        generalize total zs = s at HS t0
        clear h hW h0 ht hA hE
        go_enter Tryz.func118, Tryz.ntmps118
        go_wp2_with (fail)
        refine HS.out.mono ?_
        rintro e w1 ⟨rfl, rfl⟩
        go_wp2_with (fail)
        refine HE.out.mono ?_
        rintro e w1 ⟨rfl, rfl⟩
        go_wp2_with (fail)
        refine bodyPost_ret (results_tmp rfl _ _ _) rfl ?_
        exact ⟨rfl, rfl⟩
      · have t1 : ((n : Int) != (q : Int)) = true := by
          rw [bne_iff_ne]
          omega
        generalize total zs = s at HS t0
        clear h hW h0 ht hA hE hnq
        go_enter Tryz.func118, Tryz.ntmps118
        go_wp2_with (fail)
        refine HS.out.mono ?_
        rintro e w1 ⟨rfl, rfl⟩
        go_wp2_with (fail)
        refine bodyPost_ret (results_tmp rfl _ _ _) rfl ?_
        exact ⟨rfl, rfl⟩
  · have HS := Lib.hid (soft_sum_not w 65536 A n c zs hz (by omega) (by omega) (by omega) hA hW)
    clear h hW hA hE
    go_enter Tryz.func118, Tryz.ntmps118
    go_wp2_with (fail)
    refine HS.out.mono ?_
    rintro e w1 ⟨rfl, rfl⟩
    go_wp2_with (fail)
    refine bodyPost_ret (results_tmp rfl _ _ _) rfl ?_
    exact ⟨rfl, rfl⟩
set_option maxRecDepth 100000 in
set_option maxHeartbeats 3200000 in
theorem soft_mix_ok (hz : zs.length = n) (hn : n ≤ 1000) (hL : L.length = n) (hA : KIn .i64 w A zs) (hE : LIn w E B C L) (h : mixP zs L) (hm : (L.getD 0 []).length = m) (hm2 : m ≤ 1000000) :
    Calls Tryz.prog 118 #[.slice A n c, .slice E n ce] w (RowSays w (fun v => v) (mixL zs L m)) := by
  have h0 := mixP_some h
  obtain ⟨hW, hs, _, hev⟩ := h
  rw [hL] at hev
  have HS := Lib.hid (soft_sum w 65536 A n c zs hz (by omega) (by omega) (by omega) hA hW)
  have HEV := Lib.hid (soft_even w E ce B C L n hL (by omega) hE hev)
  have hmr : ∀ i, i < n → (L.getD i []).length = m := fun i hi => (hev i hi).trans hm
  have HME := Lib.hid (fun W (b : Below w.heap.size w W) k (hk : k < m) => soft_mean W A c zs E ce B C L n k m (total zs) hz hL hn hW rfl hs (hA.below b (Nat.le_refl _)) (hE.below b (Nat.le_refl _)) hmr hk)
  have HE := Lib.hid hE
  have hcell := hE.at h0
  obtain ⟨pe, oe, rfl, hc0, _⟩ := hcell
  rw [Nat.add_zero, hm] at hc0
  have t0 : (total zs == 0) = false := beq_eq_false_iff_ne.2 (by omega)
  have t1 : ((n : Int) == (n : Int)) = true := beq_self_eq_true _
  have HLR := Lib.hid (mixL_length zs L m)
  have HAT := Lib.hid (mixL_at zs L m)
  have hn0 : 0 < (n : Int) := by omega
  obtain ⟨i0, hi, hz0, hz1, hz2⟩ := info_parts info_int
  have HI := Lib.hid hi
  have HZ0 := Lib.hid hz0
  have HZ1 := Lib.hid hz1
  have HZ2 := Lib.hid hz2
  clear hi hz0 hz1 hz2 hA hz hE hW hs hev hmr
  generalize mixL zs L m = R at HLR HAT ⊢
  generalize total zs = s at HS HME HAT t0
  go_enter Tryz.func118, Tryz.ntmps118
  go_wp2_with (fail)
  refine HS.out.mono ?_
  rintro e w1 ⟨rfl, rfl⟩
  go_wp2_with (fail)
  refine HEV.out.mono ?_
  rintro e w1 ⟨rfl, rfl⟩
  go_wp2_with (at_make; refine wpList_make_row _ rfl _ _ 45 rfl 3 i0 (.int .i64 0) Tryz.underlying45 HI.out HZ0.out HZ1.out rfl .i64 .i64 m rfl rfl (by rw [HZ2.out]; omega) (by omega) ?_)
  have HR0 := Lib.hid (show (w.alloc (.cells (madeCells #[.int .i64 0] m) 3)).rowIs w.heap.size 3 m (prt .i64 R 0) from (World.rowIs_made w (.int .i64 0) m 3).congr fun i _ => by rw [prt_none])
  have HB0 := Lib.hid ((Below.refl w.heap.size w).alloc (Nat.le_refl _) (.cells (madeCells #[.int .i64 0] m) 3))
  go_loopw [31] (fun i wr => ∃ j : Nat, i = .int .i64 (j : Int) ∧ j ≤ m ∧ wr.rowIs w.heap.size 3 m (prt .i64 R j) ∧ Below w.heap.size w wr) (fun i _ => match i with | .int _ k => m - k.toNat | _ => 0)
  case atStart => exact ⟨0, rfl, Nat.zero_le _, HR0.out, HB0.out⟩
  case round =>
    clear HR0 HB0 hc0 HS HEV
    obtain ⟨j, rfl, hj, hr, hb⟩ := hrel
    have HR := Lib.hid hr
    have HB := Lib.hid hb
    clear hr hb
    have x2 : 0 ≤ (j : Int) := by omega
    by_cases hlt : j < m
    · have x0 : (j : Int) < (m : Int) := by omega
      have x1 : decide ((j : Int) < (m : Int)) = true := decide_eq_true x0
      have HJ := Lib.hid (show j + 1 ≤ m by omega)
      have HXJ := Lib.hid (HAT.out j hlt)
      go_wp2_with (fail)
      refine (HME.out wr HB.out j hlt).mono ?_
      rintro e w2 ⟨rfl, rfl⟩
      go_wp2_with (fail)
      refine (sat_any _ wr).mono ?_
      rintro e w2 ⟨rfl, rfl⟩
      rw [← HXJ.out]
      have f1 := HR.out.frozen j
      have c1 := HR.out.cell hlt
      have HPS := Lib.hid (prt_set HR.out (rfl : R.getD j 0 = R.getD j 0))
      have HBS := Lib.hid (HB.out.setCell (p := ⟨w.heap.size, j, none⟩) (Nat.le_refl _) (.int .i64 (R.getD j 0)))
      have x3 := IntWalk.wrap64_in ((j : Int) + 1) (by omega)
      generalize R.getD j 0 = z at HPS HBS ⊢
      go_wp2_with (fail)
      exact ⟨⟨j + 1, rfl, HJ.out, HPS.out, HBS.out⟩, vc_less j m hlt⟩
    · have hke : j = m := by omega
      have x0 : ¬ (j : Int) < (m : Int) := by omega
      have x1 : decide ((j : Int) < (m : Int)) = false := decide_eq_false x0
      rw [hke] at HR
      go_wp2_with (fail)
      refine bodyPost_ret (results_tmp rfl _ _ _) rfl ?_
      refine ⟨some ⟨w.heap.size, 0, none⟩, m, ?_, KIn.row (HR.out.congr fun i hi => prt_all _ _ _ _ hi) (Nat.le_of_eq HLR.out), HB.out⟩
      rw [HLR.out]
      rfl
theorem soft_mix (hz : zs.length = n) (hn : n ≤ 1000) (hL : L.length = q) (hq : q ≤ 1000) (hA : KIn .i64 w A zs) (hE : LIn w E B C L) (hm : ∀ i, i < q → (L.getD i []).length ≤ 1000000) :
    Calls Tryz.prog 118 #[.slice A n c, .slice E q ce] w (RowSays w (fun v => v) (mixR zs L)) := by
  by_cases h : mixP zs L
  · rw [mixR_ok h]
    obtain rfl : q = n := by have := h.2.2.1; omega
    exact soft_mix_ok w A c zs E ce B C L q _ hz hn hL hA hE h rfl (hm 0 (by have := mixP_some h; omega))
  · rw [mixR_not h]
    refine (soft_mix_not w A c zs E ce B C L n q hz hn hL hq hA hE h).mono ?_
    rintro e w' ⟨rfl, rfl⟩
    exact ⟨none, 0, rfl, KIn.nil _ _ _, Below.refl _ _⟩
end
end Go.Proofs.YtkdkeokldcehhaaGreatDoor
namespace Go.Proofs.YtkdkeokldcehhaaGreatDoor
open Go.ChangeShapes Go.WideShapes Go.ChangeAt Go.RowKit Nm Vc Sf

namespace Sf
/-- Scores, clamped. -/
def clamped (l : List Int) : List Int := l.map c30
theorem clamped_length (l : List Int) : (clamped l).length = l.length := by simp [clamped]
theorem clamped_at (l : List Int) (i : Nat) (h : i < l.length) : (clamped l).getD i 0 = c30 (l.getD i 0) := by
  unfold clamped
  rw [List.getD_eq_getElem?_getD, List.getElem?_map, List.getD_eq_getElem?_getD (l := l), List.getElem?_eq_getElem h]
  rfl
theorem foldl_clamped (l : List Int) : ∀ m : Int, (clamped l).foldl max m = l.foldl (fun m x => max m (c30 x)) m := by
  induction l with
  | nil => intro m; rfl
  | cons a l ih => intro m; exact ih _
theorem most_clamped {l : List Int} (h : 0 < l.length) : most ((clamped l).getD 0 0) ((clamped l).drop 1) = highL l := by
  cases l with
  | nil => exact absurd h (by simp)
  | cons a l =>
    rw [← high_start (l := a :: l) (a := a) (by simp)]
    show (clamped l).foldl max (c30 a) = _
    rw [foldl_clamped, List.foldl_cons, Int.max_self]
theorem high_sub (l : List Int) (x : Int) : -2147483648 ≤ highL l - c30 x ∧ highL l - c30 x ≤ 2147483648 := by
  have h1 := high_in l
  have h2 := c30_in x
  omega
/-- Cells of numbers of which the first k are the new ones. -/
def prt2 (R O : List Int) (k i : Nat) : Value := if i < k then .int .i64 (R.getD i 0) else .int .i64 (O.getD i 0)
theorem prt2_none (R O : List Int) : prt2 R O 0 = fun i => .int .i64 (O.getD i 0) := by
  funext i
  exact if_neg (by omega)
theorem prt2_all (R O : List Int) (n i : Nat) (h : i < n) : prt2 R O n i = .int .i64 (R.getD i 0) := if_pos h
theorem prt2_old (R O : List Int) (k : Nat) : prt2 R O k k = .int .i64 (O.getD k 0) := if_neg (by omega)
theorem prt2_set {w : World} {g n : Nat} {t : TypeId} {R O : List Int} {k : Nat} {z : Int} (h : w.rowIs g t n (prt2 R O k)) (hz : R.getD k 0 = z) : (w.setCell ⟨g, k, none⟩ (.int .i64 z)).rowIs g t n (prt2 R O (k + 1)) :=
  (h.set k _).congr fun i _ => by
    unfold prt2
    by_cases e : i = k
    · subst e
      rw [if_pos rfl, if_pos (by omega), hz]
    · rw [if_neg e]
      by_cases hi : i < k
      · rw [if_pos hi, if_pos (by omega)]
      · rw [if_neg hi, if_neg (by omega)]
theorem holds_drop {w : World} {g n : Nat} {t : TypeId} {O : List Int} (h : w.rowIs g t n fun i => .int .i64 (O.getD i 0)) (hn : O.length = n) : Holds w g 1 (O.drop 1) := fun i hi => by
  rw [List.length_drop] at hi
  have hl : 1 + i < O.length := by omega
  rw [h.cell (show 1 + i < n by omega), List.getD_eq_getElem?_getD, List.getElem?_eq_getElem hl, List.getD_eq_getElem?_getD, List.getElem?_drop, List.getElem?_eq_getElem hl]
end Sf
theorem max_drop {w : World} {g n : Nat} {t : TypeId} {O : List Int} (h : w.rowIs g t n fun i => .int .i64 (O.getD i 0)) (hn : O.length = n) (hm : n ≤ 1000000) :
    Calls Tryz.prog 108 #[.int .i64 (O.getD 0 0), .slice (if n = 1 then some ⟨g, 0, none⟩ else some ⟨g, 1, none⟩) (n - 1) (n - 1)] w fun e w' => e = .returned (.int .i64 (most (O.getD 0 0) (O.drop 1))) ∧ w = w' := by
  by_cases h1 : n = 1
  · rw [if_pos h1]
    exact max_any _ _ _ _ _ _ _ (by rw [List.length_drop, hn]) (by unfold maxLen; omega) fun i hi => by
      rw [List.length_drop] at hi
      omega
  · rw [if_neg h1]
    exact max_any _ _ _ _ _ _ _ (by rw [List.length_drop, hn]) (by unfold maxLen; omega) (holds_drop h hn)
section
variable (w : World) (A : Option Addr) (n c : Nat) (zs : List Int)
set_option maxRecDepth 100000 in
set_option maxHeartbeats 800000 in
theorem soft_weights_nil (c : Nat) : Calls Tryz.prog 78 #[.slice A 0 c] w (RowSays w (fun v => v) (weightsL [])) := by
  go_enter Tryz.func78, Tryz.ntmps78
  go_wp2_with (fail)
  refine bodyPost_ret (results_tmp rfl _ _ _) rfl ?_
  exact ⟨none, 0, rfl, KIn.nil _ _ _, Below.refl _ _⟩
set_option maxRecDepth 100000 in
set_option maxHeartbeats 3200000 in
theorem soft_weights_some (hz : zs.length = n) (h0 : 0 < n) (hm : n ≤ 1000000) (hA : KIn .i64 w A zs) (hp : POn w) :
    Calls Tryz.prog 78 #[.slice A n c] w fun e w' => ∃ A, e = .returned (.slice A n n) ∧ KIn .i64 w' A (weightsL zs) ∧ Below w.heap.size w w' := by
  have HA := Lib.hid hA
  have HP := Lib.hid hp
  obtain ⟨i0, hi, hz0, hz1, hz2⟩ := info_parts info_int
  have HI := Lib.hid hi
  have HZ0 := Lib.hid hz0
  have HZ1 := Lib.hid hz1
  have HZ2 := Lib.hid hz2
  have HZL := Lib.hid hz
  have HOL := Lib.hid ((clamped_length zs).trans hz)
  have HOA := Lib.hid (fun i (h : i < n) => clamped_at zs i (by omega))
  have HMO := Lib.hid (most_clamped (l := zs) (by omega))
  have HLR := Lib.hid ((weightsL_length zs).trans hz)
  have HAT := Lib.hid (fun i (h : i < n) => weightsL_at zs i (by omega))
  have HHS := Lib.hid (high_sub zs)
  have t0 : ((n : Int) == 0) = false := beq_eq_false_iff_ne.2 (by omega)
  clear hi hz0 hz1 hz2 hA hz hp
  generalize weightsL zs = R at HLR HAT ⊢
  generalize clamped zs = O at HOL HOA HMO
  generalize highL zs = hh at HMO HAT HHS
  go_enter Tryz.func78, Tryz.ntmps78
  go_wp2_with (at_make; refine wpList_make_row _ rfl _ _ 45 rfl 3 i0 (.int .i64 0) Tryz.underlying45 HI.out HZ0.out HZ1.out rfl .i64 .i64 n rfl rfl (by rw [HZ2.out]; omega) (by omega) ?_)
  have HR0 := Lib.hid (show (w.alloc (.cells (madeCells #[.int .i64 0] n) 3)).rowIs w.heap.size 3 n (prt .i64 O 0) from (World.rowIs_made w (.int .i64 0) n 3).congr fun i _ => by rw [prt_none])
  have HB0 := Lib.hid ((Below.refl w.heap.size w).alloc (Nat.le_refl _) (.cells (madeCells #[.int .i64 0] n) 3))
  go_loopw [17] (fun i wr => ∃ j : Nat, i = .int .i64 (j : Int) ∧ j ≤ n ∧ wr.rowIs w.heap.size 3 n (prt .i64 O j) ∧ Below w.heap.size w wr) (fun i _ => match i with | .int _ k => n - k.toNat | _ => 0)
  case atStart => exact ⟨0, rfl, Nat.zero_le _, HR0.out, HB0.out⟩
  case round =>
    clear HR0 HB0
    obtain ⟨j, rfl, hj, hr, hb⟩ := hrel
    have HR := Lib.hid hr
    have HB := Lib.hid hb
    clear hr hb
    have x2 : 0 ≤ (j : Int) := by omega
    by_cases hlt : j < n
    · have x0 : (j : Int) < (n : Int) := by omega
      have x1 : decide ((j : Int) < (n : Int)) = true := decide_eq_true x0
      have HJ := Lib.hid (show j + 1 ≤ n by omega)
      have HXJ := Lib.hid (HOA.out j hlt)
      obtain ⟨pb, po, rfl, hcell⟩ := (HA.out.below HB.out (Nat.le_refl _)).at (show j < zs.length by rw [HZL.out]; exact hlt)
      generalize zs.getD j 0 = z at hcell HXJ
      go_wp2_with (fail)
      refine (soft_clamp z wr).mono ?_
      rintro e w2 ⟨rfl, rfl⟩
      rw [← HXJ.out]
      have f1 := HR.out.frozen j
      have c1 := HR.out.cell hlt
      have HPS := Lib.hid (prt_set HR.out (rfl : O.getD j 0 = O.getD j 0))
      have HBS := Lib.hid (HB.out.setCell (p := ⟨w.heap.size, j, none⟩) (Nat.le_refl _) (.int .i64 (O.getD j 0)))
      have x3 := IntWalk.wrap64_in ((j : Int) + 1) (by omega)
      generalize O.getD j 0 = z at HPS HBS ⊢
      go_wp2_with (fail)
      exact ⟨⟨j + 1, rfl, HJ.out, HPS.out, HBS.out⟩, vc_less j n hlt⟩
    · have hke : j = n := by omega
      have x0 : ¬ (j : Int) < (n : Int) := by omega
      have x1 : decide ((j : Int) < (n : Int)) = false := decide_eq_false x0
      rw [hke] at HR
      have HO := Lib.hid (HR.out.congr (fun i hi => prt_all .i64 O n i hi))
      have c0 := HO.out.cell h0
      have HMX := Lib.hid (fun (q : Nat) => max_drop (w := wr.drewN q) (show (wr.drewN q).rowIs w.heap.size 3 n _ from HO.out) HOL.out hm)
      rw [HMO.out] at HMX
      generalize O.getD 0 0 = o0 at c0 HMX
      clear HR hke hlt hj x2
      go_wp2_with (fail)
      go_quiet ((go_at_call 108; exact quiet_here (HMX.out _)))
      have HB3 := Lib.hid (below_drewN HB.out nq)
      have HO3 : Hid ((wr.drewN nq).rowIs w.heap.size 3 n (prt2 R O 0)) := Lib.hid (show (wr.drewN nq).rowIs w.heap.size 3 n (prt2 R O 0) from HO.out.congr fun i _ => by rw [prt2_none])
      clear HB HO HMX c0 HMO HOL x0 x1
      generalize (if n = 1 then some (⟨w.heap.size, 0, none⟩ : Addr) else some ⟨w.heap.size, 1, none⟩) = pt
      generalize wr.drewN nq = w3 at HB3 HO3 ⊢
      go_wp2_with (fail)
      go_loopw [36] (fun i wr => ∃ j : Nat, i = .int .i64 (j : Int) ∧ j ≤ n ∧ wr.rowIs w.heap.size 3 n (prt2 R O j) ∧ Below w.heap.size w wr) (fun i _ => match i with | .int _ k => n - k.toNat | _ => 0)
      case atStart => exact ⟨0, rfl, Nat.zero_le _, HO3.out, HB3.out⟩
      case round =>
        clear HO3 HB3
        obtain ⟨j, rfl, hj, hr, hb⟩ := hrel
        have HR := Lib.hid hr
        have HB := Lib.hid hb
        clear hr hb
        have x2 : 0 ≤ (j : Int) := by omega
        by_cases hlt : j < n
        · have x0 : (j : Int) < (n : Int) := by omega
          have x1 : decide ((j : Int) < (n : Int)) = true := decide_eq_true x0
          have HJ := Lib.hid (show j + 1 ≤ n by omega)
          have c1 := HR.out.cell hlt
          rw [prt2_old, HOA.out j hlt] at c1
          have HXJ := Lib.hid (HAT.out j hlt)
          have hs := HHS.out (zs.getD j 0)
          have x4 : wrap64 (hh - c30 (zs.getD j 0)) = hh - c30 (zs.getD j 0) := IntWalk.wrap64_in _ (by omega)
          have HEX := Lib.hid (soft_exp (hh - c30 (zs.getD j 0)) wr (by omega) (HP.out.below HB.out (Nat.le_refl _)))
          clear hs
          generalize c30 (zs.getD j 0) = z at c1 x4 HEX HXJ
          generalize hd : hh - z = d at x4 HEX HXJ
          go_wp2_with (fail)
          rw [x4]
          refine HEX.out.mono ?_
          rintro e w2 ⟨rfl, rfl⟩
          rw [← HXJ.out]
          have f1 := HR.out.frozen j
          have HPS := Lib.hid (prt2_set HR.out (rfl : R.getD j 0 = R.getD j 0))
          have HBS := Lib.hid (HB.out.setCell (p := ⟨w.heap.size, j, none⟩) (Nat.le_refl _) (.int .i64 (R.getD j 0)))
          have x3 := IntWalk.wrap64_in ((j : Int) + 1) (by omega)
          generalize R.getD j 0 = y at HPS HBS ⊢
          go_wp2_with (fail)
          exact ⟨⟨j + 1, rfl, HJ.out, HPS.out, HBS.out⟩, vc_less j n hlt⟩
        · have hke : j = n := by omega
          have x0 : ¬ (j : Int) < (n : Int) := by omega
          have x1 : decide ((j : Int) < (n : Int)) = false := decide_eq_false x0
          rw [hke] at HR
          go_wp2_with (fail)
          refine bodyPost_ret (results_tmp rfl _ _ _) rfl ?_
          exact ⟨some ⟨w.heap.size, 0, none⟩, rfl, KIn.row (HR.out.congr fun i hi => prt2_all _ _ _ _ hi) (Nat.le_of_eq HLR.out), HB.out⟩
theorem soft_weights (hz : zs.length = n) (hm : n ≤ 1000000) (hA : KIn .i64 w A zs) (hp : POn w) :
    Calls Tryz.prog 78 #[.slice A n c] w (RowSays w (fun v => v) (weightsL zs)) := by
  by_cases h0 : 0 < n
  · refine (soft_weights_some w A n c zs hz h0 hm hA hp).mono ?_
    rintro e w' ⟨X, rfl, hk, hb⟩
    exact ⟨X, n, by rw [weightsL_length, hz], hk, hb⟩
  · obtain rfl : n = 0 := by omega
    obtain rfl := List.length_eq_zero_iff.1 hz
    exact soft_weights_nil w A c
end
end Go.Proofs.YtkdkeokldcehhaaGreatDoor
namespace Go.Proofs.YtkdkeokldcehhaaGreatDoor
open Go.ChangeShapes Go.WideShapes Go.ChangeAt Go.RowKit Nm Vc Sf

namespace Sf
/-- Whether somebody can be chosen. -/
def okB (ws : List Int) : Bool := ws.all (fun x => decide (0 ≤ x) && decide (x ≤ 1048576)) && (decide (ws.length ≤ 64) && decide (0 < total ws))
/-- Who is chosen; -1: nobody. -/
def chooseL (d : Int) (ws : List Int) : Int := if okB ws = true then pickL d ws else -1
theorem inW_iff {m : Int} {ws : List Int} : InW m ws ↔ ∀ x ∈ ws, 0 ≤ x ∧ x ≤ m := by
  constructor
  · intro h x hx
    obtain ⟨i, hi, rfl⟩ := List.mem_iff_getElem.1 hx
    have := h i hi
    rwa [List.getD_eq_getElem?_getD, List.getElem?_eq_getElem hi] at this
  · intro h i hi
    rw [List.getD_eq_getElem?_getD, List.getElem?_eq_getElem hi]
    exact h _ (List.getElem_mem hi)
theorem okB_iff {ws : List Int} : okB ws = true ↔ okP ws := by
  unfold okB okP
  rw [inW_iff]
  simp [List.all_eq_true]
theorem choose_ok {d : Int} {ws : List Int} (h : okP ws) : chooseL d ws = pickL d ws := if_pos (okB_iff.2 h)
theorem choose_not {d : Int} {ws : List Int} (h : ¬ okP ws) : chooseL d ws = -1 := if_neg fun e => h (okB_iff.1 e)
theorem total_below {ws : List Int} {e : Int} {j n : Nat} (hn : ws.length = n) (he : e < total ws) (h : total (ws.take (j + 1)) ≤ e) (hj : j < n) : j + 1 < n := by
  apply Nat.lt_of_not_le
  intro hle
  rw [List.take_of_length_le (by omega)] at h
  omega
theorem tmod_in (d s : Int) (hs : 0 < s) : -s < d.tmod s ∧ d.tmod s < s := by
  by_cases h : 0 ≤ d
  · have h1 := Int.tmod_nonneg s h
    have h2 := Int.tmod_lt_of_pos d hs
    omega
  · have h1 := Int.tmod_nonneg s (show 0 ≤ -d by omega)
    have h2 := Int.tmod_lt_of_pos (-d) hs
    rw [Int.neg_tmod] at h1 h2
    omega
/-- The sums of the first weights, and one on. -/
theorem total_step {zs : List Int} {j n : Nat} (hz : zs.length = n) (h : InW 1048576 zs) (hj : j < n) : total (zs.take (j + 1)) = total (zs.take j) + zs.getD j 0 ∧ 0 ≤ zs.getD j 0 ∧ zs.getD j 0 ≤ 1048576 := ⟨total_next zs j (by omega), h j (by omega)⟩
/-- All that is asked of a sum that is sought in the weights. -/
structure Find (d : Int) (zs : List Int) (n : Nat) (s e t : Int) : Prop where
  len : zs.length = n
  ok : InW 1048576 zs
  is : s = total zs
  pos : 0 < s
  small : s ≤ 67108864
  e0 : 0 ≤ e
  e1 : e < s
  way : e = if t < 0 then t + s else t
  tin : -s < t ∧ t < s
  tis : d.tmod s = t
  pick : pickL d zs = (findP e zs : Int)
  n0 : 0 < n
  n1 : n ≤ 64
theorem find_of (d : Int) {zs : List Int} (h : okP zs) : ∃ e t, Find d zs zs.length (total zs) e t := by
  obtain ⟨hW, hl, hs⟩ := h
  have hle := total_in (by omega) zs hW
  refine ⟨d.emod (total zs), d.tmod (total zs), rfl, hW, rfl, hs, by omega, Int.emod_nonneg d (by omega), Int.emod_lt_of_pos d hs, emod_way d _ hs, tmod_in d _ hs, rfl, rfl, ?_, hl⟩
  refine Nat.pos_of_ne_zero fun e => ?_
  rw [List.length_eq_zero_iff.1 e] at hs
  exact absurd hs (by decide)
section
variable {d : Int} {zs : List Int} {n : Nat} {s e t : Int} (F : Find d zs n s e t)
include F
theorem Find.small_at {j : Nat} (hj : j ≤ n) : 0 ≤ total (zs.take j) ∧ total (zs.take j) ≤ 1099511627776 :=
  total_small (by omega) (Int.le_refl _) (fun i hi => F.ok i (by rw [F.len]; omega)) (by rw [F.len]; exact hj) F.len (by have := F.n1; omega)
theorem Find.here {j : Nat} (hj : j < n) (hb : ∀ i, i < j → total (zs.take (i + 1)) ≤ e) (h : ¬ zs.getD j 0 ≤ e - total (zs.take j)) : pickL d zs = (j : Int) := by
  rw [F.pick, findP_next (ws := zs) (d := e) (i := j) (by rw [F.len]; exact hj) hb (by omega)]
theorem Find.on {j : Nat} (hj : j < n) (hb : ∀ i, i < j → total (zs.take (i + 1)) ≤ e) (h : zs.getD j 0 ≤ e - total (zs.take j)) :
    j + 1 < n ∧ (∀ i, i < j + 1 → total (zs.take (i + 1)) ≤ e) ∧ wrap64 (e - total (zs.take j) - zs.getD j 0) = e - total (zs.take (j + 1)) := by
  have hst := total_step F.len F.ok hj
  have hnx : total (zs.take (j + 1)) ≤ e := by omega
  have htn := F.small_at (show j ≤ n by omega)
  have h1 := F.e1
  have h2 := F.small
  have h3 := F.e0
  refine ⟨total_below F.len (F.is ▸ F.e1) hnx hj, fun i hi => ?_, ?_⟩
  · by_cases q : i = j
    · rw [q]; exact hnx
    · exact hb i (by omega)
  · rw [show e - total (zs.take j) - zs.getD j 0 = e - total (zs.take (j + 1)) by omega]
    exact IntWalk.wrap64_in _ (by omega)
theorem Find.below (ht : t < 0) : wrap64 (t + s) = e := by
  have h1 := F.way
  rw [if_pos ht] at h1
  have h2 := F.small
  have h3 := F.e1
  have h4 := F.e0
  rw [← h1]
  exact IntWalk.wrap64_in _ (by omega)
theorem Find.above (ht : ¬ t < 0) : t = e := by
  have h1 := F.way
  rw [if_neg ht] at h1
  exact h1.symm
omit F in
theorem start0 (zs : List Int) (e : Int) : e = e - total (zs.take 0) := by show e = e - 0; omega
end
end Sf
section
variable (w : World) (d : Int) (A : Option Addr) (n c : Nat) (zs : List Int)
set_option maxRecDepth 100000 in
set_option maxHeartbeats 1600000 in
theorem soft_choose_not (hz : zs.length = n) (hm : n ≤ 1000000) (hA : KIn .i64 w A zs) (h : ¬ okP zs) :
    Calls Tryz.prog 77 #[.int .i64 d, .slice A n c] w fun e w' => e = .returned (.int .i64 (-1)) ∧ w = w' := by
  by_cases hW : InW 1048576 zs
  · have HS := Lib.hid (soft_sum w 1048576 A n c zs hz hm (by omega) (by omega) hA hW)
    by_cases h0 : total zs = 0
    · rw [h0] at HS
      clear h hW h0 hA
      go_enter Tryz.func77, Tryz.ntmps77
      go_wp2_with (fail)
      refine HS.out.mono ?_
      rintro e w1 ⟨rfl, rfl⟩
      go_wp2_with (fail)
      refine bodyPost_ret (results_tmp rfl _ _ _) rfl ?_
      exact ⟨rfl, rfl⟩
    · have ht := (total_in (by omega) zs hW).1
      have hn : 64 < n := by
        apply Nat.lt_of_not_le
        intro hle
        exact h ⟨hW, by omega, by omega⟩
      have t0 : (total zs == 0) = false := beq_eq_false_iff_ne.2 h0
      have t1 : 64 < (n : Int) := by omega
      have t2 : decide (64 < (n : Int)) = true := decide_eq_true t1
      generalize total zs = s at HS t0
      clear h hW h0 ht hA
      go_enter Tryz.func77, Tryz.ntmps77
      go_wp2_with (fail)
      refine HS.out.mono ?_
      rintro e w1 ⟨rfl, rfl⟩
      go_wp2_with (fail)
      refine bodyPost_ret (results_tmp rfl _ _ _) rfl ?_
      exact ⟨rfl, rfl⟩
  · have HS := Lib.hid (soft_sum_not w 1048576 A n c zs hz hm (by omega) (by omega) hA hW)
    clear h hW hA
    go_enter Tryz.func77, Tryz.ntmps77
    go_wp2_with (fail)
    refine HS.out.mono ?_
    rintro e w1 ⟨rfl, rfl⟩
    go_wp2_with (fail)
    refine bodyPost_ret (results_tmp rfl _ _ _) rfl ?_
    exact ⟨rfl, rfl⟩
set_option maxRecDepth 100000 in
set_option maxHeartbeats 3200000 in
theorem soft_choose_ok (hz : zs.length = n) (hA : KIn .i64 w A zs) (h : okP zs) :
    Calls Tryz.prog 77 #[.int .i64 d, .slice A n c] w fun e w' => e = .returned (.int .i64 (pickL d zs)) ∧ w = w' := by
  have HSM := Lib.hid (soft_sum w 1048576 A n c zs hz (by have := h.2.1; omega) (by omega) (by omega) hA h.1)
  have HA := Lib.hid hA
  obtain ⟨e, t, hf⟩ := find_of d h
  rw [hz] at hf
  generalize total zs = s at HSM hf
  have HF := Lib.hid hf
  have hs0 : 0 < s := hf.pos
  have t0 : (s == 0) = false := beq_eq_false_iff_ne.2 (by omega)
  have t1 : ¬ 64 < (n : Int) := by have := hf.n1; omega
  have t2 : decide (64 < (n : Int)) = false := decide_eq_false t1
  have ht := hf.tis
  have hn := hf.n1
  have hn0 := hf.n0
  clear hA h hf hz
  by_cases hneg : t < 0
  · have t3 : decide (t < 0) = true := decide_eq_true hneg
    have x5 := HF.out.below hneg
    clear hneg
    go_enter Tryz.func77, Tryz.ntmps77
    go_wp2_with (fail)
    refine HSM.out.mono ?_
    rintro e1 w1 ⟨rfl, rfl⟩
    go_wp2_with (fail)
    go_loopw [6, 7] (fun l a wr => ∃ j : Nat, a = .int .i64 (j : Int) ∧ j < n ∧ l = .int .i64 (e - total (zs.take j)) ∧ w = wr ∧ ∀ i, i < j → total (zs.take (i + 1)) ≤ e) (fun _ a _ => match a with | .int _ k => n - k.toNat | _ => 0)
    case atStart => exact ⟨0, rfl, hn0, by rw [← start0]; try rw [x5], rfl, fun i hi => absurd hi (by omega)⟩
    case round =>
      obtain ⟨j, rfl, hlt, rfl, rfl, hb⟩ := hrel
      have x2 : 0 ≤ (j : Int) := by omega
      have x0 : (j : Int) < (n : Int) := by omega
      obtain ⟨pa, oa, rfl, hc⟩ := HA.out.at (show j < zs.length by rw [HF.out.len]; exact hlt)
      by_cases hq : zs.getD j 0 ≤ e - total (zs.take j)
      · have t4 : decide (zs.getD j 0 ≤ e - total (zs.take j)) = true := decide_eq_true hq
        have HON := Lib.hid (HF.out.on hlt hb hq)
        have x4 := HON.out.2.2
        clear hq hb
        generalize zs.getD j 0 = z at hc t4 x4
        generalize total (zs.take j) = q at t4 x4
        generalize hfi : total (zs.take (j + 1)) = f at x4
        have HFI := Lib.hid hfi
        clear hfi
        have x3 := IntWalk.wrap64_in ((j : Int) + 1) (by omega)
        go_wp2_with (fail)
        exact ⟨⟨j + 1, rfl, HON.out.1, by rw [HFI.out, x4], by trivial, HON.out.2.1⟩, vc_less j n hlt⟩
      · have t4 : decide (zs.getD j 0 ≤ e - total (zs.take j)) = false := decide_eq_false hq
        have HR := Lib.hid (HF.out.here hlt hb hq)
        clear hq hb
        generalize zs.getD j 0 = z at hc t4
        generalize total (zs.take j) = q at t4
        go_wp2_with (fail)
        refine bodyPost_ret (results_tmp rfl _ _ _) rfl ?_
        exact ⟨ret_i HR.out.symm, rfl⟩
  · have t3 : decide (t < 0) = false := decide_eq_false hneg
    have x5 := HF.out.above hneg
    rw [x5] at ht t3
    clear hneg
    go_enter Tryz.func77, Tryz.ntmps77
    go_wp2_with (fail)
    refine HSM.out.mono ?_
    rintro e1 w1 ⟨rfl, rfl⟩
    go_wp2_with (fail)
    go_loopw [6, 7] (fun l a wr => ∃ j : Nat, a = .int .i64 (j : Int) ∧ j < n ∧ l = .int .i64 (e - total (zs.take j)) ∧ w = wr ∧ ∀ i, i < j → total (zs.take (i + 1)) ≤ e) (fun _ a _ => match a with | .int _ k => n - k.toNat | _ => 0)
    case atStart => exact ⟨0, rfl, hn0, by rw [← start0]; try rw [x5], rfl, fun i hi => absurd hi (by omega)⟩
    case round =>
      obtain ⟨j, rfl, hlt, rfl, rfl, hb⟩ := hrel
      have x2 : 0 ≤ (j : Int) := by omega
      have x0 : (j : Int) < (n : Int) := by omega
      obtain ⟨pa, oa, rfl, hc⟩ := HA.out.at (show j < zs.length by rw [HF.out.len]; exact hlt)
      by_cases hq : zs.getD j 0 ≤ e - total (zs.take j)
      · have t4 : decide (zs.getD j 0 ≤ e - total (zs.take j)) = true := decide_eq_true hq
        have HON := Lib.hid (HF.out.on hlt hb hq)
        have x4 := HON.out.2.2
        clear hq hb
        generalize zs.getD j 0 = z at hc t4 x4
        generalize total (zs.take j) = q at t4 x4
        generalize hfi : total (zs.take (j + 1)) = f at x4
        have HFI := Lib.hid hfi
        clear hfi
        have x3 := IntWalk.wrap64_in ((j : Int) + 1) (by omega)
        go_wp2_with (fail)
        exact ⟨⟨j + 1, rfl, HON.out.1, by rw [HFI.out, x4], by trivial, HON.out.2.1⟩, vc_less j n hlt⟩
      · have t4 : decide (zs.getD j 0 ≤ e - total (zs.take j)) = false := decide_eq_false hq
        have HR := Lib.hid (HF.out.here hlt hb hq)
        clear hq hb
        generalize zs.getD j 0 = z at hc t4
        generalize total (zs.take j) = q at t4
        go_wp2_with (fail)
        refine bodyPost_ret (results_tmp rfl _ _ _) rfl ?_
        exact ⟨ret_i HR.out.symm, rfl⟩
theorem soft_choose (hz : zs.length = n) (hm : n ≤ 1000000) (hA : KIn .i64 w A zs) :
    Calls Tryz.prog 77 #[.int .i64 d, .slice A n c] w fun e w' => e = .returned (.int .i64 (chooseL d zs)) ∧ w = w' := by
  by_cases h : okP zs
  · rw [choose_ok h]; exact soft_choose_ok w d A n c zs hz hA h
  · rw [choose_not h]; exact soft_choose_not w d A n c zs hz hm hA h
end
end Go.Proofs.YtkdkeokldcehhaaGreatDoor
