/-
  The reference of layer 12: Best, Choose. Conditions: the numbers are there.
  The reference of layer 12: Exp. No conditions.
  The reference of layer 12: Weights. Conditions: the numbers are there.
-/
import Derived.Test.YtnfiojcfbohafaaDoorMg13
import Derived.Test.YtnfiojcfbohafaaDoorMg16
set_option maxRecDepth 100000
namespace Go.Proofs.YtnfiojcfbohafaaDoor
open Go.ChangeShapes Go.WideShapes Go.ChangeAt Go.RowKit Nm Vc Sf

section
variable (w : World) (d : Int) (A : Option Addr) (n c : Nat) (zs : List Int)
set_option maxRecDepth 100000 in
set_option maxHeartbeats 3200000 in
theorem ref12_choose (hz : zs.length = n) (hm : n ≤ 1000000) (hA : KIn .i64 w A zs) :
    Calls Tryd.prog 19 #[.int .i64 d, .slice A n c] w fun e w' => e = .returned (.int .i64 (chooseL d zs)) ∧ w = w' := by
  have HA := Lib.hid hA
  have HZ := Lib.hid hz
  have HNO := Lib.hid (fun h => choose_not (d := d) (ws := zs) h)
  have HYE := Lib.hid (fun h => choose_ok (d := d) (ws := zs) h)
  have HFI := Lib.hid (fun h => find_of d (zs := zs) h)
  clear hA hz
  go_enter Tryd.func19, Tryd.ntmps19
  go_wp2_with (fail)
  go_loopw [5, 6] (fun b i wr => ∃ j : Nat, i = .int .i64 (j : Int) ∧ j ≤ n ∧ b = .int .i64 (total (zs.take j)) ∧ w = wr ∧ okTo 1048576 zs j ∧ (0 < j → n ≤ 64)) (fun _ i _ => match i with | .int _ k => n - k.toNat | _ => 0)
  case atStart => exact ⟨0, rfl, Nat.zero_le _, rfl, rfl, fun i hi => absurd hi (by omega), fun h => absurd h (by omega)⟩
  case round =>
    obtain ⟨j, rfl, hj, rfl, rfl, ho, h64⟩ := hrel
    have HO := Lib.hid ho
    have H64 := Lib.hid h64
    clear ho h64
    have x2 : 0 ≤ (j : Int) := by omega
    by_cases hlt : j < n
    · have x0 : (j : Int) < (n : Int) := by omega
      have x1 : decide ((j : Int) < (n : Int)) = true := decide_eq_true x0
      have HJ := Lib.hid (show j + 1 ≤ n by omega)
      have hl : j < zs.length := by rw [HZ.out]; exact hlt
      obtain ⟨pa, oa, rfl, hc⟩ := HA.out.at hl
      have HN := Lib.hid (total_next zs j hl)
      have hs := total_small (by omega) (by omega) HO.out (show j ≤ zs.length by omega) HZ.out (by omega)
      by_cases h1 : zs.getD j 0 < 0
      · have t1 : decide (zs.getD j 0 < 0) = true := decide_eq_true h1
        have HR := Lib.hid (HNO.out fun h => by have := h.1 j hl; omega)
        generalize zs.getD j 0 = z at hc t1
        clear HN hs h1 hl
        generalize total (zs.take j) = s
        go_wp2_with (fail)
        refine bodyPost_ret (results_tmp rfl _ _ _) rfl ?_
        exact ⟨ret_i HR.out.symm, rfl⟩
      have t1 : decide (zs.getD j 0 < 0) = false := decide_eq_false h1
      by_cases h2 : 1048576 < zs.getD j 0
      · have t2 : decide (1048576 < zs.getD j 0) = true := decide_eq_true h2
        have HR := Lib.hid (HNO.out fun h => by have := h.1 j hl; omega)
        generalize zs.getD j 0 = z at hc t1 t2
        clear HN hs h1 h2 hl
        generalize total (zs.take j) = s
        go_wp2_with (fail)
        refine bodyPost_ret (results_tmp rfl _ _ _) rfl ?_
        exact ⟨ret_i HR.out.symm, rfl⟩
      have t2 : decide (1048576 < zs.getD j 0) = false := decide_eq_false h2
      by_cases h3 : 64 < n
      · have t4 : 64 < (n : Int) := by omega
        have t3 : decide (64 < (n : Int)) = true := decide_eq_true t4
        have HR := Lib.hid (HNO.out fun h => by have h5 := h.2.1; have h6 := HZ.out; omega)
        generalize zs.getD j 0 = z at hc t1 t2
        clear HN hs h1 h2 hl
        generalize total (zs.take j) = s
        go_wp2_with (fail)
        refine bodyPost_ret (results_tmp rfl _ _ _) rfl ?_
        exact ⟨ret_i HR.out.symm, rfl⟩
      have t4 : ¬ 64 < (n : Int) := by omega
      have t3 : decide (64 < (n : Int)) = false := decide_eq_false t4
      have HON := Lib.hid (okTo_next HO.out h1 h2)
      have HL6 := Lib.hid (show n ≤ 64 by omega)
      have x4 := Lib.hid (show wrap64 (total (zs.take j) + zs.getD j 0) = total (zs.take j) + zs.getD j 0 from IntWalk.wrap64_in _ (by omega))
      clear hl hs h1 h2
      generalize zs.getD j 0 = z at hc t1 t2 x4 HN
      generalize total (zs.take j) = s at x4 HN
      have x3 := IntWalk.wrap64_in ((j : Int) + 1) (by omega)
      go_wp2_with (fail)
      exact ⟨⟨j + 1, rfl, HJ.out, by rw [HN.out, x4.out], by trivial, HON.out, fun _ => HL6.out⟩, vc_less j n hlt⟩
    · have hke : j = n := by omega
      have x0 : ¬ (j : Int) < (n : Int) := by omega
      have x1 : decide ((j : Int) < (n : Int)) = false := decide_eq_false x0
      rw [hke] at HO
      have HT := Lib.hid (show total (zs.take j) = total zs from total_all zs (by rw [HZ.out]; omega))
      rw [HT.out]
      by_cases h0 : total zs = 0
      · have HR := Lib.hid (HNO.out fun h => by have := h.2.2; omega)
        rw [h0]
        clear HT h0 HO
        go_wp2_with (fail)
        refine bodyPost_ret (results_tmp rfl _ _ _) rfl ?_
        exact ⟨ret_i HR.out.symm, rfl⟩
      have hW : InW 1048576 zs := by
        have := HO.out
        rw [← HZ.out] at this
        exact this
      have hp : okP zs := by
        have h1 := (total_in (by omega) zs hW).1
        refine ⟨hW, ?_, by omega⟩
        rw [HZ.out]
        by_cases hn0 : n = 0
        · omega
        · exact H64.out (by omega)
      obtain ⟨e, t, hf⟩ := HFI.out hp
      have HPK := Lib.hid (HYE.out hp)
      rw [HZ.out] at hf
      have HF := Lib.hid hf
      generalize total zs = s at hf HF h0 ⊢
      have t0 : (s == 0) = false := beq_eq_false_iff_ne.2 h0
      have hs0 : 0 < s := hf.pos
      have ht := hf.tis
      have hn0 := hf.n0
      have hn64 := hf.n1
      clear hf hp hW HO HT H64 HNO HYE HFI hj hlt
      by_cases hneg : t < 0
      · have t3 : decide (t < 0) = true := decide_eq_true hneg
        have X5 := Lib.hid (HF.out.below hneg)
        clear hneg
        go_wp2_with (fail)
        go_loopw [7, 8] (fun l a wr => ∃ j : Nat, a = .int .i64 (j : Int) ∧ j < n ∧ l = .int .i64 (e - total (zs.take j)) ∧ w = wr ∧ ∀ i, i < j → total (zs.take (i + 1)) ≤ e) (fun _ a _ => match a with | .int _ k => n - k.toNat | _ => 0)
        case atStart => exact ⟨0, rfl, hn0, by rw [← start0, X5.out], rfl, fun i hi => absurd hi (by omega)⟩
        case round =>
          obtain ⟨j, rfl, hlt, rfl, rfl, hb⟩ := hrel
          have x2 : 0 ≤ (j : Int) := by omega
          have x0 : (j : Int) < (n : Int) := by omega
          have x1 : decide ((j : Int) < (n : Int)) = true := decide_eq_true x0
          obtain ⟨pa, oa, rfl, hc⟩ := HA.out.at (show j < zs.length by rw [HF.out.len]; exact hlt)
          by_cases hq : zs.getD j 0 ≤ e - total (zs.take j)
          · have t4 : decide (e - total (zs.take j) < zs.getD j 0) = false := decide_eq_false (by omega)
            have HON := Lib.hid (HF.out.on hlt hb hq)
            clear hq hb
            generalize zs.getD j 0 = z at hc t4 HON
            generalize total (zs.take j) = q at t4 HON
            have x3 := IntWalk.wrap64_in ((j : Int) + 1) (by omega)
            go_wp2_with (fail)
            exact ⟨⟨j + 1, rfl, HON.out.1, by rw [HON.out.2.2], by trivial, HON.out.2.1⟩, vc_less j n hlt⟩
          · have t4 : decide (e - total (zs.take j) < zs.getD j 0) = true := decide_eq_true (by omega)
            have HR := Lib.hid (HF.out.here hlt hb hq)
            clear hq hb
            generalize zs.getD j 0 = z at hc t4
            generalize total (zs.take j) = q at t4
            go_wp2_with (fail)
            refine bodyPost_ret (results_tmp rfl _ _ _) rfl ?_
            exact ⟨ret_i (HR.out.symm.trans HPK.out.symm), rfl⟩
      · have t3 : decide (t < 0) = false := decide_eq_false hneg
        have X5 := Lib.hid (HF.out.above hneg)
        rw [X5.out] at ht t3
        clear hneg
        go_wp2_with (fail)
        go_loopw [7, 8] (fun l a wr => ∃ j : Nat, a = .int .i64 (j : Int) ∧ j < n ∧ l = .int .i64 (e - total (zs.take j)) ∧ w = wr ∧ ∀ i, i < j → total (zs.take (i + 1)) ≤ e) (fun _ a _ => match a with | .int _ k => n - k.toNat | _ => 0)
        case atStart => exact ⟨0, rfl, hn0, by rw [← start0], rfl, fun i hi => absurd hi (by omega)⟩
        case round =>
          obtain ⟨j, rfl, hlt, rfl, rfl, hb⟩ := hrel
          have x2 : 0 ≤ (j : Int) := by omega
          have x0 : (j : Int) < (n : Int) := by omega
          have x1 : decide ((j : Int) < (n : Int)) = true := decide_eq_true x0
          obtain ⟨pa, oa, rfl, hc⟩ := HA.out.at (show j < zs.length by rw [HF.out.len]; exact hlt)
          by_cases hq : zs.getD j 0 ≤ e - total (zs.take j)
          · have t4 : decide (e - total (zs.take j) < zs.getD j 0) = false := decide_eq_false (by omega)
            have HON := Lib.hid (HF.out.on hlt hb hq)
            clear hq hb
            generalize zs.getD j 0 = z at hc t4 HON
            generalize total (zs.take j) = q at t4 HON
            have x3 := IntWalk.wrap64_in ((j : Int) + 1) (by omega)
            go_wp2_with (fail)
            exact ⟨⟨j + 1, rfl, HON.out.1, by rw [HON.out.2.2], by trivial, HON.out.2.1⟩, vc_less j n hlt⟩
          · have t4 : decide (e - total (zs.take j) < zs.getD j 0) = true := decide_eq_true (by omega)
            have HR := Lib.hid (HF.out.here hlt hb hq)
            clear hq hb
            generalize zs.getD j 0 = z at hc t4
            generalize total (zs.take j) = q at t4
            go_wp2_with (fail)
            refine bodyPost_ret (results_tmp rfl _ _ _) rfl ?_
            exact ⟨ret_i (HR.out.symm.trans HPK.out.symm), rfl⟩
end
end Go.Proofs.YtnfiojcfbohafaaDoor
namespace Go.Proofs.YtnfiojcfbohafaaDoor
open Go.ChangeShapes Go.WideShapes Go.ChangeAt Go.RowKit Nm Vc Sf

namespace Sf
theorem half_next (t j : Nat) : Int.tdiv ((t / 2 ^ j : Nat) : Int) 2 = ((t / 2 ^ (j + 1) : Nat) : Int) := by
  rw [← half_pow]
  rfl
theorem half_low {t j q : Nat} (h : t / 2 ^ j = 0) (hj : j ≤ q) : t / 2 ^ q = 0 := by
  have h1 : t / 2 ^ q ≤ t / 2 ^ j := Nat.div_le_div_left (Nat.pow_le_pow_right (show 0 < 2 by omega) hj) (Nat.two_pow_pos j)
  rw [h] at h1
  exact Nat.le_zero.1 h1
theorem half_le {t j : Nat} (h : t ≤ 65536) : t / 2 ^ j ≤ 65536 := Nat.le_trans (Nat.div_le_self _ _) h
def tabA : Array Value := #[.int .i64 65536, .int .i64 60097, .int .i64 55109, .int .i64 50535, .int .i64 46341, .int .i64 42495, .int .i64 38968, .int .i64 35734]
theorem tabA_at (r : Nat) (h : r < 8) : tabA[r]? = some (.int .i64 (tabN r : Nat)) := by
  rcases (show r = 0 ∨ r = 1 ∨ r = 2 ∨ r = 3 ∨ r = 4 ∨ r = 5 ∨ r = 6 ∨ r = 7 by omega) with rfl | rfl | rfl | rfl | rfl | rfl | rfl | rfl <;> rfl
theorem tab_get (r : Nat) (h : r < 8) (hp) : ([.int .i64 65536, .int .i64 60097, .int .i64 55109, .int .i64 50535, .int .i64 46341, .int .i64 42495, .int .i64 38968, .int .i64 35734] : List Value)[r]'hp = .int .i64 (tabN r : Nat) := by
  rcases (show r = 0 ∨ r = 1 ∨ r = 2 ∨ r = 3 ∨ r = 4 ∨ r = 5 ∨ r = 6 ∨ r = 7 by omega) with rfl | rfl | rfl | rfl | rfl | rfl | rfl | rfl <;> rfl
theorem tab_cell (w : World) (b r : Nat) (hb : w.heap.size = b) (h : r < 8) : (w.alloc (.cells tabA 87)).cell? ⟨b, r, none⟩ = some (.int .i64 (tabN r : Nat)) := by
  subst hb
  rw [cell_of_row _ _ _ _ _ _ (heap_alloc_new w _), tabA_at r h]
end Sf
set_option maxRecDepth 100000 in
set_option maxHeartbeats 1600000 in
theorem ref12_exp (d : Int) (w : World) (hd : d ≤ 9223372036854775807) :
    Calls Tryd.prog 37 #[.int .i64 d] w fun e w' => e = .returned (.int .i64 (expZ d)) ∧ Below w.heap.size w w' := by
  have HB0 := Lib.hid ((Below.refl w.heap.size w).alloc (Nat.le_refl _) (.cells tabA 87))
  unfold tabA at HB0
  by_cases h0 : d < 0
  · have t0 : decide (d < 0) = true := decide_eq_true h0
    have HE := Lib.hid (show expZ d = 65536 by rw [expZ_neg h0, expZ_zero])
    go_enter Tryd.func37, Tryd.ntmps37
    go_wp2_with (fail)
    go_loopw [4, 5] (fun x i wr => x = .int .i64 65536 ∧ i = .int .i64 0 ∧ Below w.heap.size w wr) (fun _ _ _ => 0)
    case atStart => exact ⟨rfl, rfl, HB0.out⟩
    case round =>
      clear HB0
      obtain ⟨rfl, rfl, hb⟩ := hrel
      have HB := Lib.hid hb
      clear hb
      go_wp2_with (fail)
      refine bodyPost_ret (results_tmp rfl _ _ _) rfl ?_
      exact ⟨ret_i HE.out.symm, HB.out⟩
  obtain ⟨n, rfl⟩ : ∃ n : Nat, d = n := ⟨d.toNat, by omega⟩
  obtain ⟨q, hq⟩ : ∃ q, q = n / 8 := ⟨_, rfl⟩
  obtain ⟨r, hr⟩ : ∃ r, r = n % 8 := ⟨_, rfl⟩
  have e1 : Int.tmod (n : Int) 8 = (r : Int) := by rw [hr]; rfl
  have e2 : Int.tdiv (n : Int) 8 = (q : Int) := by rw [hq]; rfl
  have e4 : wrap64 (q : Int) = (q : Int) := IntWalk.wrap64_in _ (by omega)
  have hr8 : r < 8 := by omega
  have hq2 : q ≤ 1152921504606846976 := by omega
  have HE := Lib.hid (show expZ (n : Int) = ((tabN r / 2 ^ q : Nat) : Int) by unfold expZ expN; rw [Int.toNat_natCast, ← hq, ← hr])
  have HT := Lib.hid (tabN_le r)
  clear hq hr hd h0
  go_enter Tryd.func37, Tryd.ntmps37
  go_wp2_with (fail)
  simp only [tab_get r hr8]
  generalize tabN r = t at HE HT ⊢
  clear e1 hr8
  have e3 : ((t : Nat) : Int) = ((t / 2 ^ 0 : Nat) : Int) := by rw [Nat.pow_zero, Nat.div_one]
  have HS := Lib.hid e3
  clear e3
  go_loopw [4, 5] (fun x i wr => ∃ j : Nat, i = .int .i64 (j : Int) ∧ j ≤ q ∧ x = .int .i64 ((t / 2 ^ j : Nat) : Int) ∧ Below w.heap.size w wr) (fun _ i _ => match i with | .int _ k => q - k.toNat | _ => 0)
  case atStart => exact ⟨0, rfl, Nat.zero_le _, by rw [HS.out], HB0.out⟩
  case round =>
    clear HB0 HS
    obtain ⟨j, rfl, hj, rfl, hb⟩ := hrel
    have HB := Lib.hid hb
    clear hb
    have x2 : 0 ≤ (j : Int) := by omega
    by_cases hlt : j < q
    · have x0 : (j : Int) < (q : Int) := by omega
      have x1 : decide ((j : Int) < (q : Int)) = true := decide_eq_true x0
      have HJ := Lib.hid (show j + 1 ≤ q by omega)
      have hz2 := half_le (j := j + 1) HT.out
      have HH := Lib.hid (half_next t j)
      have HLO := Lib.hid (fun h => half_low (t := t) (j := j) (q := q) h hj)
      generalize hz : t / 2 ^ j = z at HH HLO ⊢
      clear hz
      generalize hy : t / 2 ^ (j + 1) = y at hz2 HH
      have HY := Lib.hid hy
      have e5 : wrap64 (y : Int) = (y : Int) := IntWalk.wrap64_in _ (by omega)
      have e6 := HH.out
      clear hy
      by_cases h1 : 0 < z
      · have t1 : decide (0 < (z : Int)) = true := decide_eq_true (by omega)
        have x3 := IntWalk.wrap64_in ((j : Int) + 1) (by omega)
        go_wp2_with (fail)
        exact ⟨⟨j + 1, rfl, HJ.out, by rw [HY.out], HB.out⟩, vc_less j q hlt⟩
      · obtain rfl : z = 0 := by omega
        have HL := Lib.hid (HLO.out rfl)
        clear e6 e5 HH HLO
        go_wp2_with (fail)
        refine bodyPost_ret (results_tmp rfl _ _ _) rfl ?_
        exact ⟨ret_i (by rw [HE.out, HL.out]), HB.out⟩
    · have hke : j = q := by omega
      have x0 : ¬ (j : Int) < (q : Int) := by omega
      have x1 : decide ((j : Int) < (q : Int)) = false := decide_eq_false x0
      subst hke
      generalize t / 2 ^ j = z at HE ⊢
      go_wp2_with (fail)
      refine bodyPost_ret (results_tmp rfl _ _ _) rfl ?_
      exact ⟨ret_i HE.out.symm, HB.out⟩
end Go.Proofs.YtnfiojcfbohafaaDoor
namespace Go.Proofs.YtnfiojcfbohafaaDoor
open Go.ChangeShapes Go.WideShapes Go.ChangeAt Go.RowKit Nm Vc Sf

namespace Sf
/-- The greatest of the first k and of one more. -/
def hiK (l : List Int) (a : Int) (k : Nat) : Int := (l.take k).foldl (fun m x => max m (c30 x)) (c30 a)
theorem hiK_next (l : List Int) (a : Int) (k : Nat) (h : k < l.length) : hiK l a (k + 1) = max (hiK l a k) (c30 (l.getD k 0)) := by
  unfold hiK
  rw [List.take_succ_eq_append_getElem h, List.foldl_append, List.getD_eq_getElem?_getD, List.getElem?_eq_getElem h]
  rfl
theorem hiK_all (l : List Int) (i k : Nat) (h : i < l.length) (hk : l.length ≤ k) : hiK l (l.getD i 0) k = highL l := by
  unfold hiK
  rw [List.take_of_length_le hk, List.getD_eq_getElem?_getD, List.getElem?_eq_getElem h]
  exact high_start (List.getElem_mem h)
theorem ite_max (h y : Int) : (if h < y then y else h) = max h y := by split <;> omega
theorem high_sub' (l : List Int) (x : Int) : -2147483648 ≤ highL l - c30 x ∧ highL l - c30 x ≤ 2147483648 := by
  have h1 := high_in l
  have h2 := c30_in x
  omega
end Sf
section
variable (w : World) (A : Option Addr) (n c : Nat) (zs : List Int)
set_option maxRecDepth 100000 in
set_option maxHeartbeats 3200000 in
theorem ref12_weights (hz : zs.length = n) (hm : n ≤ 4096) (hA : KIn .i64 w A zs) :
    Calls Tryd.prog 20 #[.slice A n c] w (RowSays w (fun v => v) (weightsL zs)) := by
  have HA := Lib.hid hA
  have HZL := Lib.hid hz
  obtain ⟨i0, hi, hz0, hz1, hz2⟩ := info_parts info_int
  have HI := Lib.hid hi
  have HZ0 := Lib.hid hz0
  have HZ1 := Lib.hid hz1
  have HZ2 := Lib.hid hz2
  have HLR := Lib.hid ((weightsL_length zs).trans hz)
  have HAT := Lib.hid (fun i (h : i < n) => weightsL_at zs i (by omega))
  have HHS := Lib.hid (high_sub' zs)
  have HHA := Lib.hid (fun i (h : i < n) => hiK_all zs i n (by omega) (by omega))
  have HHN := Lib.hid (fun a k (h : k < n) => hiK_next zs a k (by omega))
  clear hA hi hz0 hz1 hz2 hz
  generalize weightsL zs = R at HLR HAT ⊢
  generalize highL zs = hh at HAT HHS HHA
  go_enter Tryd.func20, Tryd.ntmps20
  go_wp2_with (refine wpList_buildNone rfl 22 3 rfl i0 Tryd.underlying22 HI.out ?_)
  have HB0 := Lib.hid ((Below.refl w.heap.size w).alloc (Nat.le_refl _) (.cells #[] 3))
  have HO0 := Lib.hid (Own.new w w.heap.size (Nat.le_refl _))
  go_loopw [3, 4] (fun l i wr => ∃ (j : Nat) (G : Option Addr) (q : Nat), i = .int .i64 (j : Int) ∧ j ≤ n ∧ l = .slice G j q ∧ Own wr w.heap.size l (R.take j) ∧ Below w.heap.size w wr) (fun _ i _ => match i with | .int _ k => n - k.toNat | _ => 0)
  case atStart => exact ⟨0, _, 0, rfl, Nat.zero_le _, rfl, HO0.out, HB0.out⟩
  case round =>
    clear HB0 HO0
    obtain ⟨j, G, cg, rfl, hj, rfl, ho, hb⟩ := hrel
    have HO := Lib.hid ho
    have HB := Lib.hid hb
    clear ho hb
    have x2 : 0 ≤ (j : Int) := by omega
    by_cases hlt : j < n
    · have x0 : (j : Int) < (n : Int) := by omega
      have x1 : decide ((j : Int) < (n : Int)) = true := decide_eq_true x0
      have HJ := Lib.hid (show j + 1 ≤ n by omega)
      have HMJ := Lib.hid (app_small HJ.out hm)
      have HRN := Lib.hid (take_more R j (by rw [HLR.out]; exact hlt))
      have HXJ := Lib.hid (HAT.out j hlt)
      have HOL := Lib.hid (show (R.take j).length = j by rw [List.length_take, HLR.out]; omega)
      have HAB := Lib.hid (HA.out.below HB.out (Nat.le_refl _))
      have HHJ := Lib.hid (HHA.out j hlt)
      have HNJ := Lib.hid (HHN.out (zs.getD j 0))
      have HS0 := Lib.hid (show hiK zs (zs.getD j 0) 0 = c30 (zs.getD j 0) from rfl)
      obtain ⟨pa, oa, rfl, hc⟩ := HAB.out.at (show j < zs.length by rw [HZL.out]; exact hlt)
      generalize hzj : zs.getD j 0 = z at hc HHJ HNJ HS0
      have HZJ := Lib.hid hzj
      rw [hzj] at HXJ
      clear hzj
      generalize wr = wo at HO HB HAB hc ⊢
      go_wp2_with (fail)
      refine (ref12_clamp z wo).mono ?_
      rintro e w1 ⟨rfl, rfl⟩
      go_wp2_with (fail)
      go_loopw [5, 6] (fun h i wr => ∃ k : Nat, i = .int .i64 (k : Int) ∧ k ≤ n ∧ h = .int .i64 (hiK zs z k) ∧ wo = wr) (fun _ i _ => match i with | .int _ k => n - k.toNat | _ => 0)
      case atStart => exact ⟨0, rfl, Nat.zero_le _, by rw [HS0.out], rfl⟩
      case round =>
        clear HS0
        obtain ⟨k, rfl, hk, rfl, rfl⟩ := hrel
        have y2 : 0 ≤ (k : Int) := by omega
        by_cases hkn : k < n
        · have y0 : (k : Int) < (n : Int) := by omega
          have y1 : decide ((k : Int) < (n : Int)) = true := decide_eq_true y0
          have HK := Lib.hid (show k + 1 ≤ n by omega)
          obtain ⟨_, _, e2, hcq⟩ := HAB.out.at (show k < zs.length by rw [HZL.out]; exact hkn)
          injection e2 with e2
          injection e2 with e2 e3 _
          subst e2 e3
          have HKN := Lib.hid (HNJ.out k hkn)
          generalize zs.getD k 0 = z2 at hcq HKN
          generalize hiK zs z k = h at HKN ⊢
          have x3 := IntWalk.wrap64_in ((k : Int) + 1) (by omega)
          go_wp2_with (fail)
          refine (ref12_clamp z2 wo).mono ?_
          rintro e w1 ⟨rfl, rfl⟩
          generalize c30 z2 = y at HKN ⊢
          go_wp2_with (fail)
          exact ⟨⟨k + 1, rfl, HK.out, by rw [HKN.out, ite_max], by trivial⟩, vc_less k n hkn⟩
        · have hke : k = n := by omega
          have y0 : ¬ (k : Int) < (n : Int) := by omega
          have y1 : decide ((k : Int) < (n : Int)) = false := decide_eq_false y0
          rw [hke, HHJ.out]
          have hs := HHS.out z
          have W1 := Lib.hid (show wrap64 (hh - c30 z) = hh - c30 z from IntWalk.wrap64_in _ (by omega))
          have HEX := Lib.hid (ref12_exp (hh - c30 z) wo (by omega))
          have HCL := Lib.hid (ref12_clamp z wo)
          clear hs HNJ HHN HAT HHS HHA
          generalize c30 z = y at W1 HEX HXJ HCL
          go_wp2_with (fail)
          refine HCL.out.mono ?_
          rintro e w1 ⟨rfl, rfl⟩
          go_wp2_with (fail)
          rw [W1.out]
          refine HEX.out.mono ?_
          rintro e w4 ⟨rfl, b4⟩
          rw [← HXJ.out]
          have HB4 := Lib.hid (HB.out.trans (b4.mono HB.out.size))
          have HO4 := Lib.hid (HO.out.below b4 (Nat.le_refl _))
          have HW4 := Lib.hid (Own.at HO4.out HOL.out)
          clear b4 HB HO HCL HEX HXJ
          generalize R.getD j 0 = z at HRN ⊢
          go_wp2_with (at_builtin; refine wpList_append_lies _ rfl (.tmp 32) (.tmp 41) 22 rfl w.heap.size 3 i0 _ 1 8 Tryd.underlying22 HI.out HZ0.out HZ1.out HZ2.out rfl Nat.one_pos (.slice G j cg) j _ rfl (HW4.out.alloc _) ⟨w4.heap.size, 0, none⟩ 1 1 [.int .i64 z] rfl rfl (one_src w4 z) (one_one z) Nat.one_pos HMJ.out.1 HMJ.out.2 (base_le HB4.out rfl _) _ rfl ?_; intro gg cap wz hownz hgrow hat hltz)
          have HON := Lib.hid (Own.grew HOL.out hownz)
          have HBN := Lib.hid (below_grew HB4.out rfl HO4.out _ hgrow)
          rw [← HRN.out] at HON
          clear hownz hgrow hat hltz
          have x3 := IntWalk.wrap64_in ((j : Int) + 1) (by omega)
          go_wp2_with (fail)
          exact ⟨⟨j + 1, _, cap, rfl, HJ.out, rfl, HON.out, HBN.out⟩, vc_less j n hlt⟩
    · have hke : j = n := by omega
      have x0 : ¬ (j : Int) < (n : Int) := by omega
      have x1 : decide ((j : Int) < (n : Int)) = false := decide_eq_false x0
      have HT := Lib.hid (show R.take j = R from List.take_of_length_le (by rw [HLR.out]; omega))
      rw [HT.out] at HO
      go_wp2_with (fail)
      refine bodyPost_ret (results_tmp rfl _ _ _) rfl ?_
      refine ⟨G, cg, ?_, Own.kin HO.out, HB.out⟩
      rw [HLR.out, ← hke]
      rfl
end
end Go.Proofs.YtnfiojcfbohafaaDoor
