/-
  The reference of layer 12: Best, Choose. Conditions: the numbers are there.
-/
import Derived.Test.YtghlapaoebelpaaDoorSf3
namespace Go.Proofs.YtghlapaoebelpaaDoor
open Go.ChangeShapes Go.WideShapes Go.ChangeAt Go.RowKit Nm Vc Sf

section
variable (w : World) (d : Int) (A : Option Addr) (n c : Nat) (zs : List Int)
set_option maxRecDepth 100000 in
set_option maxHeartbeats 800000 in
theorem ref12_best (hz : zs.length = n) (hm : n ≤ 1000000) (hA : KIn .i64 w A zs) :
    Calls Tryd.prog 17 #[.slice A n c] w fun e w' => e = .returned (.int .i64 (bestL zs)) ∧ ∃ k, w' = w.drewN k := by
  have HA := Lib.hid hA
  have HZ := Lib.hid hz
  clear hA hz
  go_enter Tryd.func17, Tryd.ntmps17
  go_wp2_with (fail)
  go_loopw [3, 4] (fun b i wr => ∃ j d : Nat, i = .int .i64 (j : Int) ∧ j ≤ n ∧ b = .int .i64 (bestK zs j) ∧ wr = w.drewN d) (fun _ i _ => match i with | .int _ k => n - k.toNat | _ => 0)
  case atStart => exact ⟨0, 0, rfl, Nat.zero_le _, rfl, rfl⟩
  case round =>
    obtain ⟨j, d, rfl, hj, rfl, rfl⟩ := hrel
    have x2 : 0 ≤ (j : Int) := by omega
    by_cases hlt : j < n
    · have x0 : (j : Int) < (n : Int) := by omega
      have x1 : decide ((j : Int) < (n : Int)) = true := decide_eq_true x0
      have HJ := Lib.hid (show j + 1 ≤ n by omega)
      obtain ⟨pa, oa, rfl, hc⟩ := HA.out.at (show j < zs.length by rw [HZ.out]; exact hlt)
      have HN := Lib.hid (bestK_next zs j)
      have x3 := IntWalk.wrap64_in ((j : Int) + 1) (by omega)
      by_cases hb : bestK zs j < 0
      · have t1 : decide (bestK zs j < 0) = true := decide_eq_true hb
        have HB := Lib.hid (show bestK zs (j + 1) = (j : Int) by rw [HN.out, if_pos (.inl hb)])
        generalize bestK zs j = b at t1
        generalize zs.getD j 0 = z at hc
        clear HN hb
        go_wp2_with (fail)
        go_quiet (fail)
        go_wp2_with (fail)
        exact ⟨⟨j + 1, _, rfl, HJ.out, by rw [HB.out], rfl⟩, vc_less j n hlt⟩
      · have hlow := bestK_low zs j (by omega)
        have hc2 := fun (q : Nat) (hq : q < j) => HA.out.at (show q < zs.length by rw [HZ.out]; omega)
        have t1 : decide (bestK zs j < 0) = false := decide_eq_false hb
        obtain ⟨q, e, hq⟩ := hlow
        obtain ⟨_, _, e2, hcq⟩ := hc2 q hq
        injection e2 with e2
        injection e2 with e2 e3 _
        subst e2 e3
        rw [e] at hb t1 HN ⊢
        rw [Int.toNat_natCast] at HN
        have y2 : 0 ≤ (q : Int) := by omega
        have y3 : (q : Int) < (n : Int) := by omega
        by_cases hs : zs.getD q 0 < zs.getD j 0
        · have t2 : decide (zs.getD q 0 < zs.getD j 0) = true := decide_eq_true hs
          have HB := Lib.hid (show bestK zs (j + 1) = (j : Int) by rw [HN.out, if_pos (.inr hs)])
          generalize zs.getD j 0 = z at hc t2
          generalize zs.getD q 0 = z2 at hcq t2
          clear HN hs e hc2
          go_wp2_with (fail)
          go_quiet (fail)
          go_wp2_with (fail)
          exact ⟨⟨j + 1, _, rfl, HJ.out, by rw [HB.out], rfl⟩, vc_less j n hlt⟩
        · have t2 : decide (zs.getD q 0 < zs.getD j 0) = false := decide_eq_false hs
          have HB := Lib.hid (show bestK zs (j + 1) = (q : Int) by rw [HN.out, if_neg (fun h => h.elim hb hs)])
          generalize zs.getD j 0 = z at hc t2
          generalize zs.getD q 0 = z2 at hcq t2
          clear HN hs e hc2
          go_wp2_with (fail)
          go_quiet (fail)
          go_wp2_with (fail)
          exact ⟨⟨j + 1, _, rfl, HJ.out, by rw [HB.out], rfl⟩, vc_less j n hlt⟩
    · have hke : j = n := by omega
      have x0 : ¬ (j : Int) < (n : Int) := by omega
      have x1 : decide ((j : Int) < (n : Int)) = false := decide_eq_false x0
      go_wp2_with (fail)
      refine bodyPost_ret (results_tmp rfl _ _ _) rfl ?_
      exact ⟨ret_i (by unfold bestL; rw [HZ.out]), d, rfl⟩
set_option maxRecDepth 100000 in
set_option maxHeartbeats 3200000 in
theorem ref12_choose (hz : zs.length = n) (hm : n ≤ 1000000) (hA : KIn .i64 w A zs) :
    Calls Tryd.prog 15 #[.int .i64 d, .slice A n c] w fun e w' => e = .returned (.int .i64 (chooseL d zs)) ∧ w = w' := by
  have HA := Lib.hid hA
  have HZ := Lib.hid hz
  have HNO := Lib.hid (fun h => choose_not (d := d) (ws := zs) h)
  have HYE := Lib.hid (fun h => choose_ok (d := d) (ws := zs) h)
  have HFI := Lib.hid (fun h => find_of d (zs := zs) h)
  clear hA hz
  go_enter Tryd.func15, Tryd.ntmps15
  go_wp2_with (fail)
  go_loopw [5, 6] (fun b i wr => ∃ j : Nat, i = .int .i64 (j : Int) ∧ j ≤ n ∧ b = .int .i64 (total (zs.take j)) ∧ w = wr ∧ okTo 1048576 zs j ∧ (0 < j → n ≤ 64)) (fun _ i _ => match i with | .int _ k => n - k.toNat | _ => 0)
  case atStart => exact ⟨0, rfl, Nat.zero_le _, rfl, rfl, fun i hi => absurd hi (by omega), fun h => absurd h (by omega)⟩
  case round =>
    obtain ⟨j, rfl, hj, rfl, rfl, ho, h64⟩ := hrel
    have HO := Lib.hid ho
    have H64 := Lib.hid h64
    clear ho h64
    have x2 : 0 ≤ (j : Int) := by omega
    by_cases hlt : j < n
    · have x0 : (j : Int) < (n : Int) := by omega
      have x1 : decide ((j : Int) < (n : Int)) = true := decide_eq_true x0
      have HJ := Lib.hid (show j + 1 ≤ n by omega)
      have hl : j < zs.length := by rw [HZ.out]; exact hlt
      obtain ⟨pa, oa, rfl, hc⟩ := HA.out.at hl
      have HN := Lib.hid (total_next zs j hl)
      have hs := total_small (by omega) (by omega) HO.out (show j ≤ zs.length by omega) HZ.out (by omega)
      by_cases h1 : zs.getD j 0 < 0
      · have t1 : decide (zs.getD j 0 < 0) = true := decide_eq_true h1
        have HR := Lib.hid (HNO.out fun h => by have := h.1 j hl; omega)
        generalize zs.getD j 0 = z at hc t1
        clear HN hs h1 hl
        generalize total (zs.take j) = s
        go_wp2_with (fail)
        refine bodyPost_ret (results_tmp rfl _ _ _) rfl ?_
        exact ⟨ret_i HR.out.symm, rfl⟩
      have t1 : decide (zs.getD j 0 < 0) = false := decide_eq_false h1
      by_cases h2 : 1048576 < zs.getD j 0
      · have t2 : decide (1048576 < zs.getD j 0) = true := decide_eq_true h2
        have HR := Lib.hid (HNO.out fun h => by have := h.1 j hl; omega)
        generalize zs.getD j 0 = z at hc t1 t2
        clear HN hs h1 h2 hl
        generalize total (zs.take j) = s
        go_wp2_with (fail)
        refine bodyPost_ret (results_tmp rfl _ _ _) rfl ?_
        exact ⟨ret_i HR.out.symm, rfl⟩
      have t2 : decide (1048576 < zs.getD j 0) = false := decide_eq_false h2
      by_cases h3 : 64 < n
      · have t4 : 64 < (n : Int) := by omega
        have t3 : decide (64 < (n : Int)) = true := decide_eq_true t4
        have HR := Lib.hid (HNO.out fun h => by have h5 := h.2.1; have h6 := HZ.out; omega)
        generalize zs.getD j 0 = z at hc t1 t2
        clear HN hs h1 h2 hl
        generalize total (zs.take j) = s
        go_wp2_with (fail)
        refine bodyPost_ret (results_tmp rfl _ _ _) rfl ?_
        exact ⟨ret_i HR.out.symm, rfl⟩
      have t4 : ¬ 64 < (n : Int) := by omega
      have t3 : decide (64 < (n : Int)) = false := decide_eq_false t4
      have HON := Lib.hid (okTo_next HO.out h1 h2)
      have HL6 := Lib.hid (show n ≤ 64 by omega)
      have x4 := Lib.hid (show wrap64 (total (zs.take j) + zs.getD j 0) = total (zs.take j) + zs.getD j 0 from IntWalk.wrap64_in _ (by omega))
      clear hl hs h1 h2
      generalize zs.getD j 0 = z at hc t1 t2 x4 HN
      generalize total (zs.take j) = s at x4 HN
      have x3 := IntWalk.wrap64_in ((j : Int) + 1) (by omega)
      go_wp2_with (fail)
      exact ⟨⟨j + 1, rfl, HJ.out, by rw [HN.out, x4.out], by trivial, HON.out, fun _ => HL6.out⟩, vc_less j n hlt⟩
    · have hke : j = n := by omega
      have x0 : ¬ (j : Int) < (n : Int) := by omega
      have x1 : decide ((j : Int) < (n : Int)) = false := decide_eq_false x0
      rw [hke] at HO
      have HT := Lib.hid (show total (zs.take j) = total zs from total_all zs (by rw [HZ.out]; omega))
      rw [HT.out]
      by_cases h0 : total zs = 0
      · have HR := Lib.hid (HNO.out fun h => by have := h.2.2; omega)
        rw [h0]
        clear HT h0 HO
        go_wp2_with (fail)
        refine bodyPost_ret (results_tmp rfl _ _ _) rfl ?_
        exact ⟨ret_i HR.out.symm, rfl⟩
      have hW : InW 1048576 zs := by
        have := HO.out
        rw [← HZ.out] at this
        exact this
      have hp : okP zs := by
        have h1 := (total_in (by omega) zs hW).1
        refine ⟨hW, ?_, by omega⟩
        rw [HZ.out]
        by_cases hn0 : n = 0
        · omega
        · exact H64.out (by omega)
      obtain ⟨e, t, hf⟩ := HFI.out hp
      have HPK := Lib.hid (HYE.out hp)
      rw [HZ.out] at hf
      have HF := Lib.hid hf
      generalize total zs = s at hf HF h0 ⊢
      have t0 : (s == 0) = false := beq_eq_false_iff_ne.2 h0
      have hs0 : 0 < s := hf.pos
      have ht := hf.tis
      have hn0 := hf.n0
      have hn64 := hf.n1
      clear hf hp hW HO HT H64 HNO HYE HFI hj hlt
      by_cases hneg : t < 0
      · have t3 : decide (t < 0) = true := decide_eq_true hneg
        have X5 := Lib.hid (HF.out.below hneg)
        clear hneg
        go_wp2_with (fail)
        go_loopw [7, 8] (fun l a wr => ∃ j : Nat, a = .int .i64 (j : Int) ∧ j < n ∧ l = .int .i64 (e - total (zs.take j)) ∧ w = wr ∧ ∀ i, i < j → total (zs.take (i + 1)) ≤ e) (fun _ a _ => match a with | .int _ k => n - k.toNat | _ => 0)
        case atStart => exact ⟨0, rfl, hn0, by rw [← start0, X5.out], rfl, fun i hi => absurd hi (by omega)⟩
        case round =>
          obtain ⟨j, rfl, hlt, rfl, rfl, hb⟩ := hrel
          have x2 : 0 ≤ (j : Int) := by omega
          have x0 : (j : Int) < (n : Int) := by omega
          have x1 : decide ((j : Int) < (n : Int)) = true := decide_eq_true x0
          obtain ⟨pa, oa, rfl, hc⟩ := HA.out.at (show j < zs.length by rw [HF.out.len]; exact hlt)
          by_cases hq : zs.getD j 0 ≤ e - total (zs.take j)
          · have t4 : decide (e - total (zs.take j) < zs.getD j 0) = false := decide_eq_false (by omega)
            have HON := Lib.hid (HF.out.on hlt hb hq)
            clear hq hb
            generalize zs.getD j 0 = z at hc t4 HON
            generalize total (zs.take j) = q at t4 HON
            have x3 := IntWalk.wrap64_in ((j : Int) + 1) (by omega)
            go_wp2_with (fail)
            exact ⟨⟨j + 1, rfl, HON.out.1, by rw [HON.out.2.2], by trivial, HON.out.2.1⟩, vc_less j n hlt⟩
          · have t4 : decide (e - total (zs.take j) < zs.getD j 0) = true := decide_eq_true (by omega)
            have HR := Lib.hid (HF.out.here hlt hb hq)
            clear hq hb
            generalize zs.getD j 0 = z at hc t4
            generalize total (zs.take j) = q at t4
            go_wp2_with (fail)
            refine bodyPost_ret (results_tmp rfl _ _ _) rfl ?_
            exact ⟨ret_i (HR.out.symm.trans HPK.out.symm), rfl⟩
      · have t3 : decide (t < 0) = false := decide_eq_false hneg
        have X5 := Lib.hid (HF.out.above hneg)
        rw [X5.out] at ht t3
        clear hneg
        go_wp2_with (fail)
        go_loopw [7, 8] (fun l a wr => ∃ j : Nat, a = .int .i64 (j : Int) ∧ j < n ∧ l = .int .i64 (e - total (zs.take j)) ∧ w = wr ∧ ∀ i, i < j → total (zs.take (i + 1)) ≤ e) (fun _ a _ => match a with | .int _ k => n - k.toNat | _ => 0)
        case atStart => exact ⟨0, rfl, hn0, by rw [← start0], rfl, fun i hi => absurd hi (by omega)⟩
        case round =>
          obtain ⟨j, rfl, hlt, rfl, rfl, hb⟩ := hrel
          have x2 : 0 ≤ (j : Int) := by omega
          have x0 : (j : Int) < (n : Int) := by omega
          have x1 : decide ((j : Int) < (n : Int)) = true := decide_eq_true x0
          obtain ⟨pa, oa, rfl, hc⟩ := HA.out.at (show j < zs.length by rw [HF.out.len]; exact hlt)
          by_cases hq : zs.getD j 0 ≤ e - total (zs.take j)
          · have t4 : decide (e - total (zs.take j) < zs.getD j 0) = false := decide_eq_false (by omega)
            have HON := Lib.hid (HF.out.on hlt hb hq)
            clear hq hb
            generalize zs.getD j 0 = z at hc t4 HON
            generalize total (zs.take j) = q at t4 HON
            have x3 := IntWalk.wrap64_in ((j : Int) + 1) (by omega)
            go_wp2_with (fail)
            exact ⟨⟨j + 1, rfl, HON.out.1, by rw [HON.out.2.2], by trivial, HON.out.2.1⟩, vc_less j n hlt⟩
          · have t4 : decide (e - total (zs.take j) < zs.getD j 0) = true := decide_eq_true (by omega)
            have HR := Lib.hid (HF.out.here hlt hb hq)
            clear hq hb
            generalize zs.getD j 0 = z at hc t4
            generalize total (zs.take j) = q at t4
            go_wp2_with (fail)
            refine bodyPost_ret (results_tmp rfl _ _ _) rfl ?_
            exact ⟨ret_i (HR.out.symm.trans HPK.out.symm), rfl⟩
end
end Go.Proofs.YtghlapaoebelpaaDoor
