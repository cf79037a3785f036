/-
  Package soft: the best, the sum of weights, whether rows are even. Conditions: the numbers are there.
-/
import Derived.Test.YtghlapaoebelpaaDoorSf1
namespace Go.Proofs.YtghlapaoebelpaaDoor
open Go.ChangeShapes Go.WideShapes Go.ChangeAt Go.RowKit Nm Vc Sf

namespace Sf
theorem bestK_next (l : List Int) (j : Nat) : bestK l (j + 1) = if bestK l j < 0 ∨ l.getD (bestK l j).toNat 0 < l.getD j 0 then (j : Int) else bestK l j := rfl
theorem bestK_bound (l : List Int) (j : Nat) : 0 < j → 0 ≤ bestK l j ∧ bestK l j < j := bestK_in l j
theorem bestK_low (l : List Int) (j : Nat) (h : 0 ≤ bestK l j) : ∃ m : Nat, bestK l j = (m : Int) ∧ m < j := by
  by_cases h0 : j = 0
  · subst h0
    exact absurd h (by show ¬ (0 : Int) ≤ -1; omega)
  · have := bestK_in l j (by omega)
    exact ⟨(bestK l j).toNat, by omega, by omega⟩
/-- Which of the first k weights are in range. -/
def okTo (m : Int) (ws : List Int) (k : Nat) : Prop := ∀ i, i < k → 0 ≤ ws.getD i 0 ∧ ws.getD i 0 ≤ m
theorem okTo_all {m : Int} {ws : List Int} (h : okTo m ws ws.length) : InW m ws := h
theorem okTo_next {m : Int} {ws : List Int} {k : Nat} (h : okTo m ws k) (h1 : ¬ ws.getD k 0 < 0) (h2 : ¬ m < ws.getD k 0) : okTo m ws (k + 1) := fun i hi => by
  by_cases e : i = k
  · subst e; omega
  · exact h i (by omega)
theorem total_small {m : Int} {ws : List Int} {k n : Nat} (hm : 0 ≤ m) (hm2 : m ≤ 1048576) (h : okTo m ws k) (hk : k ≤ ws.length) (hn : ws.length = n) (hs : n ≤ 1048576) : 0 ≤ total (ws.take k) ∧ total (ws.take k) ≤ 1099511627776 := by
  have h1 : InW m (ws.take k) := fun i hi => by
    rw [List.length_take] at hi
    have := h i (by omega)
    rwa [List.getD_eq_getElem?_getD, List.getElem?_take_of_lt (by omega), ← List.getD_eq_getElem?_getD]
  have h2 := total_in hm _ h1
  rw [List.length_take] at h2
  have h3 : m * ((min k ws.length : Nat) : Int) ≤ 1048576 * 1048576 := Int.mul_le_mul hm2 (by omega) (by omega) (by omega)
  omega
end Sf
section
variable (w : World) (m : Int) (A : Option Addr) (n c : Nat) (zs : List Int)
set_option maxRecDepth 100000 in
set_option maxHeartbeats 800000 in
theorem soft_best (hz : zs.length = n) (hm : n ≤ 1000000) (hA : KIn .i64 w A zs) :
    Calls Tryd.prog 16 #[.slice A n c] w fun e w' => e = .returned (.int .i64 (bestL zs)) ∧ w = w' := by
  have HA := Lib.hid hA
  have HZ := Lib.hid hz
  clear hA hz
  go_enter Tryd.func16, Tryd.ntmps16
  go_wp2_with (fail)
  go_loopw [3, 8] (fun b i wr => ∃ j : Nat, i = .int .i64 (j : Int) ∧ j ≤ n ∧ b = .int .i64 (bestK zs j) ∧ w = wr) (fun _ i _ => match i with | .int _ k => n - k.toNat | _ => 0)
  case atStart => exact ⟨0, rfl, Nat.zero_le _, rfl, rfl⟩
  case round =>
    obtain ⟨j, rfl, hj, rfl, rfl⟩ := hrel
    have x2 : 0 ≤ (j : Int) := by omega
    by_cases hlt : j < n
    · have x0 : (j : Int) < (n : Int) := by omega
      have x1 : decide ((j : Int) < (n : Int)) = true := decide_eq_true x0
      have HJ := Lib.hid (show j + 1 ≤ n by omega)
      obtain ⟨pa, oa, rfl, hc⟩ := HA.out.at (show j < zs.length by rw [HZ.out]; exact hlt)
      have HN := Lib.hid (bestK_next zs j)
      have x3 := IntWalk.wrap64_in ((j : Int) + 1) (by omega)
      by_cases hb : bestK zs j < 0
      · have t1 : decide (bestK zs j < 0) = true := decide_eq_true hb
        have HB := Lib.hid (show bestK zs (j + 1) = (j : Int) by rw [HN.out, if_pos (.inl hb)])
        generalize bestK zs j = b at t1
        generalize zs.getD j 0 = z at hc
        clear HN hb
        go_wp2_with (fail)
        exact ⟨⟨j + 1, rfl, HJ.out, by rw [HB.out], by trivial⟩, vc_less j n hlt⟩
      · have hlow := bestK_low zs j (by omega)
        have hc2 := fun (q : Nat) (hq : q < j) => HA.out.at (show q < zs.length by rw [HZ.out]; omega)
        have t1 : decide (bestK zs j < 0) = false := decide_eq_false hb
        obtain ⟨q, e, hq⟩ := hlow
        obtain ⟨_, _, e2, hcq⟩ := hc2 q hq
        injection e2 with e2
        injection e2 with e2 e3 _
        subst e2 e3
        rw [e] at hb t1 HN ⊢
        rw [Int.toNat_natCast] at HN
        have y2 : 0 ≤ (q : Int) := by omega
        have y3 : (q : Int) < (n : Int) := by omega
        by_cases hs : zs.getD q 0 < zs.getD j 0
        · have t2 : decide (zs.getD q 0 < zs.getD j 0) = true := decide_eq_true hs
          have HB := Lib.hid (show bestK zs (j + 1) = (j : Int) by rw [HN.out, if_pos (.inr hs)])
          generalize zs.getD j 0 = z at hc t2
          generalize zs.getD q 0 = z2 at hcq t2
          clear HN hs e hc2
          go_wp2_with (fail)
          exact ⟨⟨j + 1, rfl, HJ.out, by rw [HB.out], by trivial⟩, vc_less j n hlt⟩
        · have t2 : decide (zs.getD q 0 < zs.getD j 0) = false := decide_eq_false hs
          have HB := Lib.hid (show bestK zs (j + 1) = (q : Int) by rw [HN.out, if_neg (fun h => h.elim hb hs)])
          generalize zs.getD j 0 = z at hc t2
          generalize zs.getD q 0 = z2 at hcq t2
          clear HN hs e hc2
          go_wp2_with (fail)
          exact ⟨⟨j + 1, rfl, HJ.out, by rw [HB.out], by trivial⟩, vc_less j n hlt⟩
    · have hke : j = n := by omega
      have x0 : ¬ (j : Int) < (n : Int) := by omega
      have x1 : decide ((j : Int) < (n : Int)) = false := decide_eq_false x0
      go_wp2_with (fail)
      refine bodyPost_ret (results_tmp rfl _ _ _) rfl ?_
      exact ⟨ret_i (by unfold bestL; rw [HZ.out]), rfl⟩
set_option maxRecDepth 100000 in
set_option maxHeartbeats 800000 in
theorem soft_sum (hz : zs.length = n) (hm : n ≤ 1000000) (hm0 : 0 ≤ m) (hm1 : m ≤ 1048576) (hA : KIn .i64 w A zs) (hW : InW m zs) :
    Calls Tryd.prog 23 #[.int .i64 m, .slice A n c] w fun e w' => e = .returned (.int .i64 (total zs)) ∧ w = w' := by
  have HA := Lib.hid hA
  have HZ := Lib.hid hz
  have HW := Lib.hid (show ∀ i, i < n → 0 ≤ zs.getD i 0 ∧ zs.getD i 0 ≤ m from fun i hi => hW i (by omega))
  clear hA hz hW
  go_enter Tryd.func23, Tryd.ntmps23
  go_wp2_with (fail)
  go_loopw [5, 10] (fun b i wr => ∃ j : Nat, i = .int .i64 (j : Int) ∧ j ≤ n ∧ b = .int .i64 (total (zs.take j)) ∧ w = wr) (fun _ i _ => match i with | .int _ k => n - k.toNat | _ => 0)
  case atStart => exact ⟨0, rfl, Nat.zero_le _, rfl, rfl⟩
  case round =>
    obtain ⟨j, rfl, hj, rfl, rfl⟩ := hrel
    have x2 : 0 ≤ (j : Int) := by omega
    by_cases hlt : j < n
    · have x0 : (j : Int) < (n : Int) := by omega
      have x1 : decide ((j : Int) < (n : Int)) = true := decide_eq_true x0
      have HJ := Lib.hid (show j + 1 ≤ n by omega)
      have hl : j < zs.length := by rw [HZ.out]; exact hlt
      obtain ⟨pa, oa, rfl, hc⟩ := HA.out.at hl
      have HN := Lib.hid (total_next zs j hl)
      have hs := total_small hm0 hm1 (fun i hi => HW.out i (by omega)) (show j ≤ zs.length by omega) HZ.out (by omega)
      have hw := HW.out j hlt
      have t1 : decide (zs.getD j 0 < 0) = false := decide_eq_false (by omega)
      have t2 : decide (m < zs.getD j 0) = false := decide_eq_false (by omega)
      have x4 : wrap64 (total (zs.take j) + zs.getD j 0) = total (zs.take j) + zs.getD j 0 := IntWalk.wrap64_in _ (by omega)
      clear hl hs hw
      generalize zs.getD j 0 = z at hc t1 t2 x4 HN
      generalize total (zs.take j) = s at x4 HN
      have x3 := IntWalk.wrap64_in ((j : Int) + 1) (by omega)
      go_wp2_with (fail)
      exact ⟨⟨j + 1, rfl, HJ.out, by rw [HN.out, x4], by trivial⟩, vc_less j n hlt⟩
    · have hke : j = n := by omega
      have x0 : ¬ (j : Int) < (n : Int) := by omega
      have x1 : decide ((j : Int) < (n : Int)) = false := decide_eq_false x0
      go_wp2_with (fail)
      refine bodyPost_ret (results_tmp rfl _ _ _) rfl ?_
      exact ⟨ret_i (by rw [List.take_of_length_le (by rw [HZ.out]; omega)]), rfl⟩
set_option maxRecDepth 100000 in
set_option maxHeartbeats 800000 in
theorem soft_sum_not (hz : zs.length = n) (hm : n ≤ 1000000) (hm0 : 0 ≤ m) (hm1 : m ≤ 1048576) (hA : KIn .i64 w A zs) (hW : ¬ InW m zs) :
    Calls Tryd.prog 23 #[.int .i64 m, .slice A n c] w fun e w' => e = .returned (.int .i64 0) ∧ w = w' := by
  have HA := Lib.hid hA
  have HZ := Lib.hid hz
  have HW := Lib.hid (show ¬ okTo m zs n from fun h => hW (by unfold InW; rw [hz]; exact h))
  clear hA hz hW
  go_enter Tryd.func23, Tryd.ntmps23
  go_wp2_with (fail)
  go_loopw [5, 10] (fun b i wr => ∃ j : Nat, i = .int .i64 (j : Int) ∧ j ≤ n ∧ b = .int .i64 (total (zs.take j)) ∧ w = wr ∧ okTo m zs j) (fun _ i _ => match i with | .int _ k => n - k.toNat | _ => 0)
  case atStart => exact ⟨0, rfl, Nat.zero_le _, rfl, rfl, fun i hi => absurd hi (by omega)⟩
  case round =>
    obtain ⟨j, rfl, hj, rfl, rfl, ho⟩ := hrel
    have HO := Lib.hid ho
    clear ho
    have x2 : 0 ≤ (j : Int) := by omega
    by_cases hlt : j < n
    · have x0 : (j : Int) < (n : Int) := by omega
      have x1 : decide ((j : Int) < (n : Int)) = true := decide_eq_true x0
      have HJ := Lib.hid (show j + 1 ≤ n by omega)
      have hl : j < zs.length := by rw [HZ.out]; exact hlt
      obtain ⟨pa, oa, rfl, hc⟩ := HA.out.at hl
      have HN := Lib.hid (total_next zs j hl)
      have hs := total_small hm0 hm1 HO.out (show j ≤ zs.length by omega) HZ.out (by omega)
      by_cases h1 : zs.getD j 0 < 0
      · have t1 : decide (zs.getD j 0 < 0) = true := decide_eq_true h1
        generalize zs.getD j 0 = z at hc t1
        clear HN hs h1 hl
        generalize total (zs.take j) = s
        go_wp2_with (fail)
        refine bodyPost_ret (results_tmp rfl _ _ _) rfl ?_
        exact ⟨rfl, rfl⟩
      have t1 : decide (zs.getD j 0 < 0) = false := decide_eq_false h1
      by_cases h2 : m < zs.getD j 0
      · have t2 : decide (m < zs.getD j 0) = true := decide_eq_true h2
        generalize zs.getD j 0 = z at hc t1 t2
        clear HN hs h1 h2 hl
        generalize total (zs.take j) = s
        go_wp2_with (fail)
        refine bodyPost_ret (results_tmp rfl _ _ _) rfl ?_
        exact ⟨rfl, rfl⟩
      have t2 : decide (m < zs.getD j 0) = false := decide_eq_false h2
      have HON := Lib.hid (okTo_next HO.out h1 h2)
      have x4 : wrap64 (total (zs.take j) + zs.getD j 0) = total (zs.take j) + zs.getD j 0 := IntWalk.wrap64_in _ (by omega)
      clear hl hs h1 h2
      generalize zs.getD j 0 = z at hc t1 t2 x4 HN
      generalize total (zs.take j) = s at x4 HN
      have x3 := IntWalk.wrap64_in ((j : Int) + 1) (by omega)
      go_wp2_with (fail)
      exact ⟨⟨j + 1, rfl, HJ.out, by rw [HN.out, x4], by trivial, HON.out⟩, vc_less j n hlt⟩
    · have hke : j = n := by omega
      rw [hke] at HO
      exact absurd HO.out HW.out
end
section
variable (w : World) (A : Option Addr) (c : Nat) (B : Nat → Option Addr) (C : Nat → Nat) (L : List (List Int)) (n : Nat)
set_option maxRecDepth 100000 in
set_option maxHeartbeats 1600000 in
theorem soft_even_not (hn : L.length = n) (hm : n ≤ 1000000) (hA : LIn w A B C L) (h : ¬ evenTo L n) :
    Calls Tryd.prog 24 #[.slice A n c] w fun e w' => e = .returned (.bool false) ∧ w = w' := by
  have h0 : 0 < n := Nat.pos_of_ne_zero fun e => h (by rw [e]; exact fun i hi => absurd hi (by omega))
  have HA := Lib.hid hA
  have HN := Lib.hid hn
  have HE := Lib.hid h
  obtain ⟨pa, oa, rfl, hc0, _⟩ := hA.at (show 0 < L.length by omega)
  rw [Nat.add_zero] at hc0
  have t1 : 0 < (n : Int) := by omega
  have HS := Lib.hid (rfl : (L.getD 0 []).length = (L.getD 0 []).length)
  generalize hs : (L.getD 0 []).length = s at hc0 HS
  have HSS := Lib.hid hs
  clear hA hn h hs
  go_enter Tryd.func24, Tryd.ntmps24
  go_wp2_with (fail)
  go_loopw [7] (fun i wr => ∃ j : Nat, i = .int .i64 (j : Int) ∧ j ≤ n ∧ wr = w ∧ evenTo L j) (fun i _ => match i with | .int _ k => n - k.toNat | _ => 0)
  case atStart => exact ⟨0, rfl, Nat.zero_le _, rfl, fun i hi => absurd hi (by omega)⟩
  case round =>
    obtain ⟨j, rfl, hj, rfl, he⟩ := hrel
    have HEJ := Lib.hid he
    clear he
    have x2 : 0 ≤ (j : Int) := by omega
    by_cases hlt : j < n
    · have x0 : (j : Int) < (n : Int) := by omega
      have x1 : decide ((j : Int) < (n : Int)) = true := decide_eq_true x0
      have HJ := Lib.hid (show j + 1 ≤ n by omega)
      obtain ⟨pb, po, e, hcell, _⟩ := HA.out.at (show j < L.length by rw [HN.out]; exact hlt)
      injection e with e
      injection e with e1 e2 _
      subst e1 e2
      by_cases hq : (L.getD j []).length = s
      · have t2 : (((L.getD j []).length : Int) == (s : Int)) = true := by rw [hq]; exact beq_self_eq_true _
        have HEN := Lib.hid (show evenTo L (j + 1) from fun i hi => by
          by_cases h : i = j
          · rw [h, hq, HSS.out]
          · exact HEJ.out i (by omega))
        clear hq
        generalize (L.getD j []).length = l at hcell t2
        have x3 := IntWalk.wrap64_in ((j : Int) + 1) (by omega)
        go_wp2_with (fail)
        exact ⟨⟨j + 1, rfl, HJ.out, by trivial, HEN.out⟩, vc_less j n hlt⟩
      · have t2 : (((L.getD j []).length : Int) == (s : Int)) = false := beq_eq_false_iff_ne.2 (by omega)
        clear hq
        generalize (L.getD j []).length = l at hcell t2
        go_wp2_with (fail)
        refine bodyPost_ret (results_tmp rfl _ _ _) rfl ?_
        exact ⟨rfl, rfl⟩
    · have hke : j = n := by omega
      rw [hke] at HEJ
      exact absurd HEJ.out HE.out
set_option maxRecDepth 100000 in
set_option maxHeartbeats 1600000 in
theorem soft_even (hn : L.length = n) (hm : n ≤ 1000000) (hA : LIn w A B C L) (h : evenTo L n) :
    Calls Tryd.prog 24 #[.slice A n c] w fun e w' => e = .returned (.bool true) ∧ w = w' := by
  have HA := Lib.hid hA
  have HN := Lib.hid hn
  have HE := Lib.hid h
  clear hA hn h
  go_enter Tryd.func24, Tryd.ntmps24
  go_wp2_with (fail)
  go_loopw [7] (fun i wr => ∃ j : Nat, i = .int .i64 (j : Int) ∧ j ≤ n ∧ wr = w) (fun i _ => match i with | .int _ k => n - k.toNat | _ => 0)
  case atStart => exact ⟨0, rfl, Nat.zero_le _, rfl⟩
  case round =>
    obtain ⟨j, rfl, hj, rfl⟩ := hrel
    have x2 : 0 ≤ (j : Int) := by omega
    by_cases hlt : j < n
    · have x0 : (j : Int) < (n : Int) := by omega
      have x1 : decide ((j : Int) < (n : Int)) = true := decide_eq_true x0
      have t1 : 0 < (n : Int) := by omega
      have HJ := Lib.hid (show j + 1 ≤ n by omega)
      obtain ⟨pa, oa, rfl, hc0, _⟩ := HA.out.at (show 0 < L.length by rw [HN.out]; omega)
      rw [Nat.add_zero] at hc0
      obtain ⟨pb, po, e, hcell, _⟩ := HA.out.at (show j < L.length by rw [HN.out]; exact hlt)
      injection e with e
      injection e with e1 e2 _
      subst e1 e2
      rw [HE.out j hlt] at hcell
      generalize (L.getD 0 []).length = s at hc0 hcell
      have t2 : ((s : Int) == (s : Int)) = true := beq_self_eq_true _
      have x3 := IntWalk.wrap64_in ((j : Int) + 1) (by omega)
      go_wp2_with (fail)
      exact ⟨⟨j + 1, rfl, HJ.out, by trivial⟩, vc_less j n hlt⟩
    · have hke : j = n := by omega
      have x0 : ¬ (j : Int) < (n : Int) := by omega
      have x1 : decide ((j : Int) < (n : Int)) = false := decide_eq_false x0
      go_wp2_with (fail)
      refine bodyPost_ret (results_tmp rfl _ _ _) rfl ?_
      exact ⟨rfl, rfl⟩
end
end Go.Proofs.YtghlapaoebelpaaDoor
