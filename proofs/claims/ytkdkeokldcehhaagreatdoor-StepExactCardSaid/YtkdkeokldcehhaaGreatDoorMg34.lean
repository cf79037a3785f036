/-
  The reference of layer 12: Mix. Conditions: the numbers are there.
  The reference of layer 12: Exp. No conditions.
  The reference of layer 12: Weights. Conditions: the numbers are there.
-/
import Derived.Test.YtkdkeokldcehhaaGreatDoorMg15
import Derived.Test.YtkdkeokldcehhaaGreatDoorMg17
set_option maxRecDepth 100000
namespace Go.Proofs.YtkdkeokldcehhaaGreatDoor
open Go.ChangeShapes Go.WideShapes Go.ChangeAt Go.RowKit Nm Vc Sf

namespace Sf
/-- What a step of the sum of products does: nothing wraps. -/
theorem numer_step {ws : List Int} {L : List (List Int)} {n : Nat} (hW : InW 65536 ws) (hl : ws.length = n) (hL : L.length = n) (hn : n ≤ 1000) (k : Nat) {j : Nat} (hj : j < n) :
    wrap64 (ws.getD j 0 * c30 ((L.getD j []).getD k 0)) = ws.getD j 0 * c30 ((L.getD j []).getD k 0) ∧
    wrap64 (numer (ws.take j) (L.take j) k + ws.getD j 0 * c30 ((L.getD j []).getD k 0)) = numer (ws.take (j + 1)) (L.take (j + 1)) k := by
  have hz := hW j (by omega)
  have hzx := term_in hz (c30_in ((L.getD j []).getD k 0))
  have hnx := numer_next ws L k j (by omega) (by omega)
  have hin := numer_in (m := 65536) (by omega) (ws.take (j + 1)) (L.take (j + 1)) k (inW_take hW _)
  rw [List.length_take] at hin
  have hjl : ((min (j + 1) ws.length : Nat) : Int) ≤ 1000 := by omega
  generalize ((min (j + 1) ws.length : Nat) : Int) = l at hin hjl
  rw [← hnx]
  exact ⟨IntWalk.wrap64_in _ (by omega), IntWalk.wrap64_in _ (by omega)⟩
theorem numer_quo {ws : List Int} {L : List (List Int)} {n : Nat} (hW : InW 65536 ws) (hl : ws.length = n) (hn : n ≤ 1000) (k : Nat) {s : Int} (hs : 0 < s) : wrap64 ((numer ws L k).tdiv s) = (numer ws L k).tdiv s := by
  have hin := numer_in (m := 65536) (by omega) ws L k hW
  exact IntWalk.wrap64_in _ (tdiv_fits' (by unfold Fits; omega) hs)
end Sf
section
variable (w : World) (A : Option Addr) (c : Nat) (zs : List Int) (E : Option Addr) (ce : Nat) (B : Nat → Option Addr) (C : Nat → Nat) (L : List (List Int)) (n q m : Nat)
set_option maxRecDepth 100000 in
set_option maxHeartbeats 1600000 in
theorem ref12_mix_len (hz : zs.length = n) (hL : L.length = q) (h : q = 0 ∨ n ≠ q) :
    Calls Tryz.prog 71 #[.slice A n c, .slice E q ce] w (RowSays w (fun v => v) (mixR zs L)) := by
  rw [mixR_not (fun hp => by have h1 := mixP_some hp; have h2 := hp.2.2.1; omega)]
  obtain ⟨i0, hi, hz0, hz1, hz2⟩ := info_parts info_int
  have HI := Lib.hid hi
  have HB0 := Lib.hid ((Below.refl w.heap.size w).alloc (Nat.le_refl _) (.cells #[] 3))
  by_cases h0 : q = 0
  · subst h0
    go_enter Tryz.func71, Tryz.ntmps71
    go_wp2_with (refine wpList_buildNone rfl 45 3 rfl i0 Tryz.underlying45 HI.out ?_)
    refine bodyPost_ret (results_tmp rfl _ _ _) rfl ?_
    exact ⟨_, 0, rfl, KIn.nil _ _ _, HB0.out⟩
  · have t0 : ((q : Int) == 0) = false := beq_eq_false_iff_ne.2 (by omega)
    have t1 : ((n : Int) != (q : Int)) = true := by
      rw [bne_iff_ne]
      omega
    go_enter Tryz.func71, Tryz.ntmps71
    go_wp2_with (refine wpList_buildNone rfl 45 3 rfl i0 Tryz.underlying45 HI.out ?_)
    refine bodyPost_ret (results_tmp rfl _ _ _) rfl ?_
    exact ⟨_, 0, rfl, KIn.nil _ _ _, HB0.out⟩
set_option maxRecDepth 100000 in
set_option maxHeartbeats 6400000 in
theorem ref12_mix_some (hz : zs.length = n) (hn : n ≤ 1000) (h0 : 0 < n) (hL : L.length = n) (hA : KIn .i64 w A zs) (hE : LIn w E B C L) (hm : (L.getD 0 []).length = m) (hm2 : m ≤ 4096) :
    Calls Tryz.prog 71 #[.slice A n c, .slice E n ce] w (RowSays w (fun v => v) (mixR zs L)) := by
  have HNO := Lib.hid (fun h => mixR_not (ws := zs) (L := L) h)
  have HYE := Lib.hid (fun h => (mixR_ok (ws := zs) (L := L) h).trans (by rw [hm]))
  have HLR := Lib.hid (mixL_length zs L m)
  have HAT := Lib.hid (mixL_at zs L m)
  have HZ := Lib.hid hz
  have HL := Lib.hid hL
  have HM := Lib.hid hm
  have HNS := Lib.hid (fun (hW : InW 65536 zs) k j (hj : j < n) => numer_step hW hz hL hn k hj)
  have HNQ := Lib.hid (fun (hW : InW 65536 zs) k (hs : 0 < total zs) => numer_quo (L := L) hW hz hn k hs)
  have HNA := Lib.hid (fun k => numer_all zs L k (i := n) (by omega) (by omega))
  generalize mixL zs L m = R at HYE HLR HAT
  generalize mixR zs L = T at HNO HYE ⊢
  obtain ⟨i0, hi, hz0, hz1, hz2⟩ := info_parts info_int
  have HI := Lib.hid hi
  have HZ0 := Lib.hid hz0
  have HZ1 := Lib.hid hz1
  have HZ2 := Lib.hid hz2
  obtain ⟨pe, oe, rfl, hc0, _⟩ := hE.at (show 0 < L.length by omega)
  rw [Nat.add_zero, hm] at hc0
  have HB0 := Lib.hid ((Below.refl w.heap.size w).alloc (Nat.le_refl _) (.cells #[] 3))
  have HO0 := Lib.hid (Own.new w w.heap.size (Nat.le_refl _))
  have HA1 := Lib.hid (hA.below HB0.out (Nat.le_refl _))
  have HE1 := Lib.hid (hE.below HB0.out (Nat.le_refl _))
  have HA := Lib.hid hA
  have HE := Lib.hid hE
  have hc1 : (w.alloc (.cells #[] 3)).cell? ⟨pe, oe, none⟩ = some (.slice (B 0) m (C 0)) := (HB0.out.cell (p := ⟨pe, oe, none⟩) (block_lt_of_cell hc0)).trans hc0
  have t0 : ((n : Int) == 0) = false := beq_eq_false_iff_ne.2 (by omega)
  have t1 : ((n : Int) != (n : Int)) = false := by simp
  have x0n : 0 < (n : Int) := by omega
  clear hi hz0 hz1 hz2 hz hL hm hA hE hc0
  go_enter Tryz.func71, Tryz.ntmps71
  go_wp2_with (refine wpList_buildNone rfl 45 3 rfl i0 Tryz.underlying45 HI.out ?_)
  have HO1 := Lib.hid (show Own (w.alloc (.cells #[] 3)) w.heap.size (.slice (some ⟨w.heap.size, 0, none⟩) 0 0) (R.take 0) from HO0.out)
  clear HO0
  generalize w.alloc (.cells #[] 3) = w1 at HB0 HO1 HA1 HE1 hc1 ⊢
  go_loopw [6, 7] (fun b i wr => ∃ j d : Nat, i = .int .i64 (j : Int) ∧ j ≤ n ∧ b = .int .i64 (total (zs.take j)) ∧ wr = w1.drewN d ∧ okTo 65536 zs j ∧ evenTo L j) (fun _ i _ => match i with | .int _ k => n - k.toNat | _ => 0)
  case atStart => exact ⟨0, 0, rfl, Nat.zero_le _, rfl, rfl, fun i hi => absurd hi (by omega), fun i hi => absurd hi (by omega)⟩
  case round =>
    obtain ⟨j, d, rfl, hj, rfl, rfl, ho, he⟩ := hrel
    have HO := Lib.hid ho
    have HEV := Lib.hid he
    clear ho he
    have x2 : 0 ≤ (j : Int) := by omega
    by_cases hlt : j < n
    · have x0 : (j : Int) < (n : Int) := by omega
      have x1 : decide ((j : Int) < (n : Int)) = true := decide_eq_true x0
      have HJ := Lib.hid (show j + 1 ≤ n by omega)
      have hl : j < zs.length := by rw [HZ.out]; exact hlt
      obtain ⟨pa, oa, rfl, hc⟩ := HA1.out.at hl
      obtain ⟨_, _, e2, hcl, _⟩ := HE1.out.at (show j < L.length by rw [HL.out]; exact hlt)
      injection e2 with e2
      injection e2 with e2 e3 _
      subst e2 e3
      have HN := Lib.hid (total_next zs j hl)
      have hs := total_small (by omega) (by omega) HO.out (show j ≤ zs.length by omega) HZ.out (by omega)
      have HB1 := Lib.hid (below_drewN HB0.out d)
      by_cases h0 : (L.getD j []).length = m
      · have HEN := Lib.hid (show evenTo L (j + 1) from fun i hi => by
          by_cases h : i = j
          · rw [h, h0, HM.out]
          · exact HEV.out i (by omega))
        rw [h0] at hcl
        have t2 : ((m : Int) != (m : Int)) = false := by simp
        by_cases h1 : zs.getD j 0 < 0
        · have t3 : decide (zs.getD j 0 < 0) = true := decide_eq_true h1
          have HR := Lib.hid (HNO.out fun h => by have := h.1 j hl; omega)
          generalize zs.getD j 0 = z at hc t3
          clear HN hs h1 h0 hl
          generalize total (zs.take j) = s
          go_wp2_with (fail)
          go_quiet (fail)
          go_wp2_with (fail)
          refine bodyPost_ret (results_tmp rfl _ _ _) rfl ?_
          exact ⟨_, 0, by rw [HR.out]; rfl, by rw [HR.out]; exact KIn.nil _ _ _, below_drewN HB1.out _⟩
        have t3 : decide (zs.getD j 0 < 0) = false := decide_eq_false h1
        by_cases h2 : 65536 < zs.getD j 0
        · have t4 : decide (65536 < zs.getD j 0) = true := decide_eq_true h2
          have HR := Lib.hid (HNO.out fun h => by have := h.1 j hl; omega)
          generalize zs.getD j 0 = z at hc t3 t4
          clear HN hs h1 h2 h0 hl
          generalize total (zs.take j) = s
          go_wp2_with (fail)
          go_quiet (fail)
          go_wp2_with (fail)
          refine bodyPost_ret (results_tmp rfl _ _ _) rfl ?_
          exact ⟨_, 0, by rw [HR.out]; rfl, by rw [HR.out]; exact KIn.nil _ _ _, below_drewN HB1.out _⟩
        have t4 : decide (65536 < zs.getD j 0) = false := decide_eq_false h2
        have HON := Lib.hid (okTo_next HO.out h1 h2)
        have W4 := Lib.hid (show wrap64 (total (zs.take j) + zs.getD j 0) = total (zs.take j) + zs.getD j 0 from IntWalk.wrap64_in _ (by omega))
        clear hl hs h1 h2 h0
        generalize zs.getD j 0 = z at hc t3 t4 W4 HN
        generalize total (zs.take j) = s at W4 HN
        have x3 := IntWalk.wrap64_in ((j : Int) + 1) (by omega)
        go_wp2_with (fail)
        go_quiet (fail)
        go_wp2_with (fail)
        exact ⟨⟨j + 1, _, rfl, HJ.out, by rw [HN.out, W4.out], rfl, HON.out, HEN.out⟩, vc_less j n hlt⟩
      · have t2 : (((L.getD j []).length : Int) != (m : Int)) = true := by
          rw [bne_iff_ne]
          omega
        have HR := Lib.hid (HNO.out fun h => by
          have h5 := h.2.2.2 j (by rw [HL.out]; exact hlt)
          rw [HM.out] at h5
          exact h0 h5)
        generalize (L.getD j []).length = l at hcl t2
        generalize zs.getD j 0 = z at hc
        clear HN hs h0 hl
        generalize total (zs.take j) = s
        go_wp2_with (fail)
        go_quiet (fail)
        go_wp2_with (fail)
        refine bodyPost_ret (results_tmp rfl _ _ _) rfl ?_
        exact ⟨_, 0, by rw [HR.out]; rfl, by rw [HR.out]; exact KIn.nil _ _ _, below_drewN HB1.out _⟩
    · have hke : j = n := by omega
      have x0 : ¬ (j : Int) < (n : Int) := by omega
      have x1 : decide ((j : Int) < (n : Int)) = false := decide_eq_false x0
      rw [hke] at HO HEV
      have HT := Lib.hid (show total (zs.take j) = total zs from total_all zs (by rw [HZ.out]; omega))
      rw [HT.out]
      have hW : InW 65536 zs := by
        have := HO.out
        rw [← HZ.out] at this
        exact this
      have hev : evenTo L L.length := by rw [HL.out]; exact HEV.out
      have hmr : ∀ i, i < n → (L.getD i []).length = m := fun i hi => (HEV.out i hi).trans HM.out
      have HMR := Lib.hid hmr
      have HB2 := Lib.hid (below_drewN HB0.out d)
      have HO2 : Hid (Own (w1.drewN d) w.heap.size (.slice (some ⟨w.heap.size, 0, none⟩) 0 0) (R.take 0)) := HO1
      by_cases hs : 0 < total zs
      · have t5 : decide (0 < total zs) = true := decide_eq_true hs
        have HR := Lib.hid (HYE.out ⟨hW, hs, by rw [HZ.out, HL.out], hev⟩)
        have HNS2 := Lib.hid (HNS.out hW)
        have HNQ2 := Lib.hid (fun k => HNQ.out hW k hs)
        clear HT HNO HYE HNS HNQ hW hev hmr HO HEV hke hlt x2 hj HB0 HO1 HA1 HE1 hc1
        generalize total zs = s at t5 HNQ2 HAT hs ⊢
        have hs0 : (s == 0) = false := beq_eq_false_iff_ne.2 (by omega)
        generalize w1.drewN d = w2 at HB2 HO2 ⊢
        go_wp2_with (fail)
        go_loopw [5, 8] (fun l i wr => ∃ (j : Nat) (G : Option Addr) (q : Nat), i = .int .i64 (j : Int) ∧ j ≤ m ∧ l = .slice G j q ∧ Own wr w.heap.size l (R.take j) ∧ Below w.heap.size w wr) (fun _ i _ => match i with | .int _ k => m - k.toNat | _ => 0)
        case atStart => exact ⟨0, _, 0, rfl, Nat.zero_le _, rfl, HO2.out, HB2.out⟩
        case round =>
          clear HB2 HO2
          obtain ⟨k, G, cg, rfl, hk, rfl, ho, hb⟩ := hrel
          have HO := Lib.hid ho
          have HB := Lib.hid hb
          clear ho hb
          have y2 : 0 ≤ (k : Int) := by omega
          have HEB := Lib.hid (HE.out.below HB.out (Nat.le_refl _))
          obtain ⟨_, _, e2, hcl, _⟩ := HEB.out.at (show 0 < L.length by rw [HL.out]; exact h0)
          injection e2 with e2
          injection e2 with e2 e3 _
          subst e2 e3
          rw [Nat.add_zero, HM.out] at hcl
          by_cases hkm : k < m
          · have y0 : (k : Int) < (m : Int) := by omega
            have y1 : decide ((k : Int) < (m : Int)) = true := decide_eq_true y0
            have HK := Lib.hid (show k + 1 ≤ m by omega)
            have HMK := Lib.hid (app_small HK.out hm2)
            have HRN := Lib.hid (take_more R k (by rw [HLR.out]; exact hkm))
            have HXK := Lib.hid (HAT.out k hkm)
            have HOL := Lib.hid (show (R.take k).length = k by rw [List.length_take, HLR.out]; omega)
            have HAB := Lib.hid (HA.out.below HB.out (Nat.le_refl _))
            have HNK := Lib.hid (HNS2.out k)
            generalize wr = wo at HO HB HAB HEB hcl ⊢
            go_wp2_with (fail)
            go_loopw [9, 10] (fun x i wr => ∃ j d : Nat, i = .int .i64 (j : Int) ∧ j ≤ n ∧ x = .int .i64 (numer (zs.take j) (L.take j) k) ∧ wr = wo.drewN d) (fun _ i _ => match i with | .int _ k => n - k.toNat | _ => 0)
            case atStart => exact ⟨0, 0, rfl, Nat.zero_le _, rfl, rfl⟩
            case round =>
              obtain ⟨j, d, rfl, hj, rfl, rfl⟩ := hrel
              have x2 : 0 ≤ (j : Int) := by omega
              by_cases hlt : j < n
              · have x0 : (j : Int) < (n : Int) := by omega
                have x1 : decide ((j : Int) < (n : Int)) = true := decide_eq_true x0
                have HJ := Lib.hid (show j + 1 ≤ n by omega)
                obtain ⟨pa, oa, rfl, hc⟩ := HAB.out.at (show j < zs.length by rw [HZ.out]; exact hlt)
                obtain ⟨_, _, e2, hcj, hkj⟩ := HEB.out.at (show j < L.length by rw [HL.out]; exact hlt)
                injection e2 with e2
                injection e2 with e2 e3 _
                subst e2 e3
                rw [HMR.out j hlt] at hcj
                obtain ⟨pc, oc, e, hx⟩ := hkj.at (show k < (L.getD j []).length by rw [HMR.out j hlt]; exact hkm)
                rw [e] at hcj
                have HST := Lib.hid (HNK.out j hlt)
                clear hkj e
                generalize zs.getD j 0 = z at hc HST
                generalize (L.getD j []).getD k 0 = x at hx HST
                generalize numer (zs.take j) (L.take j) k = a at HST ⊢
                have x3 := IntWalk.wrap64_in ((j : Int) + 1) (by omega)
                go_wp2_with (fail)
                go_quiet ((go_at_call 103; (first | exact quiet_here2 (ref12_clamp _ _) | exact quiet_here (ref12_clamp _ _))))
                go_wp2_with (fail)
                exact ⟨⟨j + 1, _, rfl, HJ.out, by rw [HST.out.1, HST.out.2], rfl⟩, vc_less j n hlt⟩
              · have hke : j = n := by omega
                have x0 : ¬ (j : Int) < (n : Int) := by omega
                have x1 : decide ((j : Int) < (n : Int)) = false := decide_eq_false x0
                rw [hke, HNA.out k]
                have W1 := Lib.hid (HNQ2.out k)
                generalize numer zs L k = a at W1 HXK ⊢
                have HB4 := Lib.hid (below_drewN HB.out d)
                have HO4 : Hid (Own (wo.drewN d) w.heap.size (.slice G k cg) (R.take k)) := HO
                have HW4 := Lib.hid (Own.at HO4.out HOL.out)
                clear HB HO HNK hke hlt HEB HAB hcl
                generalize wo.drewN d = w4 at HB4 HO4 HW4 ⊢
                go_wp2_with (fail)
                rw [W1.out]
                refine (rsat_any _ _).mono ?_
                rintro e w6 ⟨rfl, rfl⟩
                rw [← HXK.out]
                generalize R.getD k 0 = z at HRN ⊢
                go_wp2_with (at_builtin; refine wpList_append_lies _ rfl (.tmp 93) (.tmp 98) 45 rfl w.heap.size 3 i0 _ 1 8 Tryz.underlying45 HI.out HZ0.out HZ1.out HZ2.out rfl Nat.one_pos (.slice G k cg) k _ rfl (HW4.out.alloc _) ⟨w4.heap.size, 0, none⟩ 1 1 [.int .i64 z] rfl rfl (one_src w4 z) (one_one z) Nat.one_pos HMK.out.1 HMK.out.2 (base_le HB4.out rfl _) _ rfl ?_; intro gg cap wz hownz hgrow hat hltz)
                have HON := Lib.hid (Own.grew HOL.out hownz)
                have HBN := Lib.hid (below_grew HB4.out rfl HO4.out _ hgrow)
                rw [← HRN.out] at HON
                clear hownz hgrow hat hltz
                have x3 := IntWalk.wrap64_in ((k : Int) + 1) (by omega)
                go_wp2_with (fail)
                exact ⟨⟨k + 1, _, cap, rfl, HK.out, rfl, HON.out, HBN.out⟩, vc_less k m hkm⟩
          · have hke : k = m := by omega
            have y0 : ¬ (k : Int) < (m : Int) := by omega
            have y1 : decide ((k : Int) < (m : Int)) = false := decide_eq_false y0
            have HTT := Lib.hid (show R.take k = R from List.take_of_length_le (by rw [HLR.out]; omega))
            rw [HTT.out] at HO
            go_wp2_with (fail)
            refine bodyPost_ret (results_tmp rfl _ _ _) rfl ?_
            rw [HR.out]
            refine ⟨G, cg, ?_, Own.kin HO.out, HB.out⟩
            rw [HLR.out, ← hke]
            rfl
      · have t5 : decide (0 < total zs) = false := decide_eq_false hs
        have HR := Lib.hid (HNO.out fun h => hs h.2.1)
        clear HT HNO HYE HNS HNQ hW hev hmr HO HEV hke hlt x2 hj HB0 HA1 HE1 hc1
        generalize total zs = s at t5 ⊢
        generalize w1.drewN d = w2 at HB2 ⊢
        go_wp2_with (fail)
        go_loopw [5, 8] (fun l i wr => l = .slice (some ⟨w.heap.size, 0, none⟩) 0 0 ∧ i = .int .i64 0 ∧ w2 = wr) (fun _ _ _ => 0)
        case atStart => exact ⟨rfl, rfl, rfl⟩
        case round =>
          obtain ⟨rfl, rfl, rfl⟩ := hrel
          go_wp2_with (fail)
          refine bodyPost_ret (results_tmp rfl _ _ _) rfl ?_
          exact ⟨_, 0, by rw [HR.out]; rfl, by rw [HR.out]; exact KIn.nil _ _ _, HB2.out⟩
theorem ref12_mix (hz : zs.length = n) (hn : n ≤ 1000) (hL : L.length = q) (hA : KIn .i64 w A zs) (hE : LIn w E B C L) (hm : ∀ i, i < q → (L.getD i []).length ≤ 4096) :
    Calls Tryz.prog 71 #[.slice A n c, .slice E q ce] w (RowSays w (fun v => v) (mixR zs L)) := by
  by_cases h : q = 0 ∨ n ≠ q
  · exact ref12_mix_len w A c zs E ce L n q hz hL h
  · obtain rfl : n = q := by omega
    exact ref12_mix_some w A c zs E ce B C L n _ hz hn (by omega) hL hA hE rfl (hm 0 (by omega))
end
end Go.Proofs.YtkdkeokldcehhaaGreatDoor
namespace Go.Proofs.YtkdkeokldcehhaaGreatDoor
open Go.ChangeShapes Go.WideShapes Go.ChangeAt Go.RowKit Nm Vc Sf

namespace Sf
theorem half_next (t j : Nat) : Int.tdiv ((t / 2 ^ j : Nat) : Int) 2 = ((t / 2 ^ (j + 1) : Nat) : Int) := by
  rw [← half_pow]
  rfl
theorem half_low {t j q : Nat} (h : t / 2 ^ j = 0) (hj : j ≤ q) : t / 2 ^ q = 0 := by
  have h1 : t / 2 ^ q ≤ t / 2 ^ j := Nat.div_le_div_left (Nat.pow_le_pow_right (show 0 < 2 by omega) hj) (Nat.two_pow_pos j)
  rw [h] at h1
  exact Nat.le_zero.1 h1
theorem half_le {t j : Nat} (h : t ≤ 65536) : t / 2 ^ j ≤ 65536 := Nat.le_trans (Nat.div_le_self _ _) h
def tabA : Array Value := #[.int .i64 65536, .int .i64 60097, .int .i64 55109, .int .i64 50535, .int .i64 46341, .int .i64 42495, .int .i64 38968, .int .i64 35734]
theorem tabA_at (r : Nat) (h : r < 8) : tabA[r]? = some (.int .i64 (tabN r : Nat)) := by
  rcases (show r = 0 ∨ r = 1 ∨ r = 2 ∨ r = 3 ∨ r = 4 ∨ r = 5 ∨ r = 6 ∨ r = 7 by omega) with rfl | rfl | rfl | rfl | rfl | rfl | rfl | rfl <;> rfl
theorem tab_get (r : Nat) (h : r < 8) (hp) : ([.int .i64 65536, .int .i64 60097, .int .i64 55109, .int .i64 50535, .int .i64 46341, .int .i64 42495, .int .i64 38968, .int .i64 35734] : List Value)[r]'hp = .int .i64 (tabN r : Nat) := by
  rcases (show r = 0 ∨ r = 1 ∨ r = 2 ∨ r = 3 ∨ r = 4 ∨ r = 5 ∨ r = 6 ∨ r = 7 by omega) with rfl | rfl | rfl | rfl | rfl | rfl | rfl | rfl <;> rfl
theorem tab_cell (w : World) (b r : Nat) (hb : w.heap.size = b) (h : r < 8) : (w.alloc (.cells tabA 139)).cell? ⟨b, r, none⟩ = some (.int .i64 (tabN r : Nat)) := by
  subst hb
  rw [cell_of_row _ _ _ _ _ _ (heap_alloc_new w _), tabA_at r h]
end Sf
set_option maxRecDepth 100000 in
set_option maxHeartbeats 1600000 in
theorem ref12_exp (d : Int) (w : World) (hd : d ≤ 9223372036854775807) :
    Calls Tryz.prog 104 #[.int .i64 d] w fun e w' => e = .returned (.int .i64 (expZ d)) ∧ Below w.heap.size w w' := by
  have HB0 := Lib.hid ((Below.refl w.heap.size w).alloc (Nat.le_refl _) (.cells tabA 139))
  unfold tabA at HB0
  by_cases h0 : d < 0
  · have t0 : decide (d < 0) = true := decide_eq_true h0
    have HE := Lib.hid (show expZ d = 65536 by rw [expZ_neg h0, expZ_zero])
    go_enter Tryz.func104, Tryz.ntmps104
    go_wp2_with (fail)
    go_loopw [4, 5] (fun x i wr => x = .int .i64 65536 ∧ i = .int .i64 0 ∧ Below w.heap.size w wr) (fun _ _ _ => 0)
    case atStart => exact ⟨rfl, rfl, HB0.out⟩
    case round =>
      clear HB0
      obtain ⟨rfl, rfl, hb⟩ := hrel
      have HB := Lib.hid hb
      clear hb
      go_wp2_with (fail)
      refine bodyPost_ret (results_tmp rfl _ _ _) rfl ?_
      exact ⟨ret_i HE.out.symm, HB.out⟩
  obtain ⟨n, rfl⟩ : ∃ n : Nat, d = n := ⟨d.toNat, by omega⟩
  obtain ⟨q, hq⟩ : ∃ q, q = n / 8 := ⟨_, rfl⟩
  obtain ⟨r, hr⟩ : ∃ r, r = n % 8 := ⟨_, rfl⟩
  have e1 : Int.tmod (n : Int) 8 = (r : Int) := by rw [hr]; rfl
  have e2 : Int.tdiv (n : Int) 8 = (q : Int) := by rw [hq]; rfl
  have e4 : wrap64 (q : Int) = (q : Int) := IntWalk.wrap64_in _ (by omega)
  have hr8 : r < 8 := by omega
  have hq2 : q ≤ 1152921504606846976 := by omega
  have HE := Lib.hid (show expZ (n : Int) = ((tabN r / 2 ^ q : Nat) : Int) by unfold expZ expN; rw [Int.toNat_natCast, ← hq, ← hr])
  have HT := Lib.hid (tabN_le r)
  clear hq hr hd h0
  go_enter Tryz.func104, Tryz.ntmps104
  go_wp2_with (fail)
  simp only [tab_get r hr8]
  generalize tabN r = t at HE HT ⊢
  clear e1 hr8
  have e3 : ((t : Nat) : Int) = ((t / 2 ^ 0 : Nat) : Int) := by rw [Nat.pow_zero, Nat.div_one]
  have HS := Lib.hid e3
  clear e3
  go_loopw [4, 5] (fun x i wr => ∃ j : Nat, i = .int .i64 (j : Int) ∧ j ≤ q ∧ x = .int .i64 ((t / 2 ^ j : Nat) : Int) ∧ Below w.heap.size w wr) (fun _ i _ => match i with | .int _ k => q - k.toNat | _ => 0)
  case atStart => exact ⟨0, rfl, Nat.zero_le _, by rw [HS.out], HB0.out⟩
  case round =>
    clear HB0 HS
    obtain ⟨j, rfl, hj, rfl, hb⟩ := hrel
    have HB := Lib.hid hb
    clear hb
    have x2 : 0 ≤ (j : Int) := by omega
    by_cases hlt : j < q
    · have x0 : (j : Int) < (q : Int) := by omega
      have x1 : decide ((j : Int) < (q : Int)) = true := decide_eq_true x0
      have HJ := Lib.hid (show j + 1 ≤ q by omega)
      have hz2 := half_le (j := j + 1) HT.out
      have HH := Lib.hid (half_next t j)
      have HLO := Lib.hid (fun h => half_low (t := t) (j := j) (q := q) h hj)
      generalize hz : t / 2 ^ j = z at HH HLO ⊢
      clear hz
      generalize hy : t / 2 ^ (j + 1) = y at hz2 HH
      have HY := Lib.hid hy
      have e5 : wrap64 (y : Int) = (y : Int) := IntWalk.wrap64_in _ (by omega)
      have e6 := HH.out
      clear hy
      by_cases h1 : 0 < z
      · have t1 : decide (0 < (z : Int)) = true := decide_eq_true (by omega)
        have x3 := IntWalk.wrap64_in ((j : Int) + 1) (by omega)
        go_wp2_with (fail)
        exact ⟨⟨j + 1, rfl, HJ.out, by rw [HY.out], HB.out⟩, vc_less j q hlt⟩
      · obtain rfl : z = 0 := by omega
        have HL := Lib.hid (HLO.out rfl)
        clear e6 e5 HH HLO
        go_wp2_with (fail)
        refine bodyPost_ret (results_tmp rfl _ _ _) rfl ?_
        exact ⟨ret_i (by rw [HE.out, HL.out]), HB.out⟩
    · have hke : j = q := by omega
      have x0 : ¬ (j : Int) < (q : Int) := by omega
      have x1 : decide ((j : Int) < (q : Int)) = false := decide_eq_false x0
      subst hke
      generalize t / 2 ^ j = z at HE ⊢
      go_wp2_with (fail)
      refine bodyPost_ret (results_tmp rfl _ _ _) rfl ?_
      exact ⟨ret_i HE.out.symm, HB.out⟩
end Go.Proofs.YtkdkeokldcehhaaGreatDoor
namespace Go.Proofs.YtkdkeokldcehhaaGreatDoor
open Go.ChangeShapes Go.WideShapes Go.ChangeAt Go.RowKit Nm Vc Sf

namespace Sf
/-- The greatest of the first k and of one more. -/
def hiK (l : List Int) (a : Int) (k : Nat) : Int := (l.take k).foldl (fun m x => max m (c30 x)) (c30 a)
theorem hiK_next (l : List Int) (a : Int) (k : Nat) (h : k < l.length) : hiK l a (k + 1) = max (hiK l a k) (c30 (l.getD k 0)) := by
  unfold hiK
  rw [List.take_succ_eq_append_getElem h, List.foldl_append, List.getD_eq_getElem?_getD, List.getElem?_eq_getElem h]
  rfl
theorem hiK_all (l : List Int) (i k : Nat) (h : i < l.length) (hk : l.length ≤ k) : hiK l (l.getD i 0) k = highL l := by
  unfold hiK
  rw [List.take_of_length_le hk, List.getD_eq_getElem?_getD, List.getElem?_eq_getElem h]
  exact high_start (List.getElem_mem h)
theorem ite_max (h y : Int) : (if h < y then y else h) = max h y := by split <;> omega
theorem high_sub' (l : List Int) (x : Int) : -2147483648 ≤ highL l - c30 x ∧ highL l - c30 x ≤ 2147483648 := by
  have h1 := high_in l
  have h2 := c30_in x
  omega
end Sf
section
variable (w : World) (A : Option Addr) (n c : Nat) (zs : List Int)
set_option maxRecDepth 100000 in
set_option maxHeartbeats 3200000 in
theorem ref12_weights (hz : zs.length = n) (hm : n ≤ 4096) (hA : KIn .i64 w A zs) :
    Calls Tryz.prog 72 #[.slice A n c] w (RowSays w (fun v => v) (weightsL zs)) := by
  have HA := Lib.hid hA
  have HZL := Lib.hid hz
  obtain ⟨i0, hi, hz0, hz1, hz2⟩ := info_parts info_int
  have HI := Lib.hid hi
  have HZ0 := Lib.hid hz0
  have HZ1 := Lib.hid hz1
  have HZ2 := Lib.hid hz2
  have HLR := Lib.hid ((weightsL_length zs).trans hz)
  have HAT := Lib.hid (fun i (h : i < n) => weightsL_at zs i (by omega))
  have HHS := Lib.hid (high_sub' zs)
  have HHA := Lib.hid (fun i (h : i < n) => hiK_all zs i n (by omega) (by omega))
  have HHN := Lib.hid (fun a k (h : k < n) => hiK_next zs a k (by omega))
  clear hA hi hz0 hz1 hz2 hz
  generalize weightsL zs = R at HLR HAT ⊢
  generalize highL zs = hh at HAT HHS HHA
  go_enter Tryz.func72, Tryz.ntmps72
  go_wp2_with (refine wpList_buildNone rfl 45 3 rfl i0 Tryz.underlying45 HI.out ?_)
  have HB0 := Lib.hid ((Below.refl w.heap.size w).alloc (Nat.le_refl _) (.cells #[] 3))
  have HO0 := Lib.hid (Own.new w w.heap.size (Nat.le_refl _))
  go_loopw [3, 4] (fun l i wr => ∃ (j : Nat) (G : Option Addr) (q : Nat), i = .int .i64 (j : Int) ∧ j ≤ n ∧ l = .slice G j q ∧ Own wr w.heap.size l (R.take j) ∧ Below w.heap.size w wr) (fun _ i _ => match i with | .int _ k => n - k.toNat | _ => 0)
  case atStart => exact ⟨0, _, 0, rfl, Nat.zero_le _, rfl, HO0.out, HB0.out⟩
  case round =>
    clear HB0 HO0
    obtain ⟨j, G, cg, rfl, hj, rfl, ho, hb⟩ := hrel
    have HO := Lib.hid ho
    have HB := Lib.hid hb
    clear ho hb
    have x2 : 0 ≤ (j : Int) := by omega
    by_cases hlt : j < n
    · have x0 : (j : Int) < (n : Int) := by omega
      have x1 : decide ((j : Int) < (n : Int)) = true := decide_eq_true x0
      have HJ := Lib.hid (show j + 1 ≤ n by omega)
      have HMJ := Lib.hid (app_small HJ.out hm)
      have HRN := Lib.hid (take_more R j (by rw [HLR.out]; exact hlt))
      have HXJ := Lib.hid (HAT.out j hlt)
      have HOL := Lib.hid (show (R.take j).length = j by rw [List.length_take, HLR.out]; omega)
      have HAB := Lib.hid (HA.out.below HB.out (Nat.le_refl _))
      have HHJ := Lib.hid (HHA.out j hlt)
      have HNJ := Lib.hid (HHN.out (zs.getD j 0))
      have HS0 := Lib.hid (show hiK zs (zs.getD j 0) 0 = c30 (zs.getD j 0) from rfl)
      obtain ⟨pa, oa, rfl, hc⟩ := HAB.out.at (show j < zs.length by rw [HZL.out]; exact hlt)
      generalize hzj : zs.getD j 0 = z at hc HHJ HNJ HS0
      have HZJ := Lib.hid hzj
      rw [hzj] at HXJ
      clear hzj
      generalize wr = wo at HO HB HAB hc ⊢
      go_wp2_with (fail)
      refine (ref12_clamp z wo).mono ?_
      rintro e w1 ⟨rfl, rfl⟩
      go_wp2_with (fail)
      go_loopw [5, 6] (fun h i wr => ∃ k : Nat, i = .int .i64 (k : Int) ∧ k ≤ n ∧ h = .int .i64 (hiK zs z k) ∧ wo = wr) (fun _ i _ => match i with | .int _ k => n - k.toNat | _ => 0)
      case atStart => exact ⟨0, rfl, Nat.zero_le _, by rw [HS0.out], rfl⟩
      case round =>
        clear HS0
        obtain ⟨k, rfl, hk, rfl, rfl⟩ := hrel
        have y2 : 0 ≤ (k : Int) := by omega
        by_cases hkn : k < n
        · have y0 : (k : Int) < (n : Int) := by omega
          have y1 : decide ((k : Int) < (n : Int)) = true := decide_eq_true y0
          have HK := Lib.hid (show k + 1 ≤ n by omega)
          obtain ⟨_, _, e2, hcq⟩ := HAB.out.at (show k < zs.length by rw [HZL.out]; exact hkn)
          injection e2 with e2
          injection e2 with e2 e3 _
          subst e2 e3
          have HKN := Lib.hid (HNJ.out k hkn)
          generalize zs.getD k 0 = z2 at hcq HKN
          generalize hiK zs z k = h at HKN ⊢
          have x3 := IntWalk.wrap64_in ((k : Int) + 1) (by omega)
          go_wp2_with (fail)
          refine (ref12_clamp z2 wo).mono ?_
          rintro e w1 ⟨rfl, rfl⟩
          generalize c30 z2 = y at HKN ⊢
          go_wp2_with (fail)
          exact ⟨⟨k + 1, rfl, HK.out, by rw [HKN.out, ite_max], by trivial⟩, vc_less k n hkn⟩
        · have hke : k = n := by omega
          have y0 : ¬ (k : Int) < (n : Int) := by omega
          have y1 : decide ((k : Int) < (n : Int)) = false := decide_eq_false y0
          rw [hke, HHJ.out]
          have hs := HHS.out z
          have W1 := Lib.hid (show wrap64 (hh - c30 z) = hh - c30 z from IntWalk.wrap64_in _ (by omega))
          have HEX := Lib.hid (ref12_exp (hh - c30 z) wo (by omega))
          have HCL := Lib.hid (ref12_clamp z wo)
          clear hs HNJ HHN HAT HHS HHA
          generalize c30 z = y at W1 HEX HXJ HCL
          go_wp2_with (fail)
          refine HCL.out.mono ?_
          rintro e w1 ⟨rfl, rfl⟩
          go_wp2_with (fail)
          rw [W1.out]
          refine HEX.out.mono ?_
          rintro e w4 ⟨rfl, b4⟩
          rw [← HXJ.out]
          have HB4 := Lib.hid (HB.out.trans (b4.mono HB.out.size))
          have HO4 := Lib.hid (HO.out.below b4 (Nat.le_refl _))
          have HW4 := Lib.hid (Own.at HO4.out HOL.out)
          clear b4 HB HO HCL HEX HXJ
          generalize R.getD j 0 = z at HRN ⊢
          go_wp2_with (at_builtin; refine wpList_append_lies _ rfl (.tmp 32) (.tmp 41) 45 rfl w.heap.size 3 i0 _ 1 8 Tryz.underlying45 HI.out HZ0.out HZ1.out HZ2.out rfl Nat.one_pos (.slice G j cg) j _ rfl (HW4.out.alloc _) ⟨w4.heap.size, 0, none⟩ 1 1 [.int .i64 z] rfl rfl (one_src w4 z) (one_one z) Nat.one_pos HMJ.out.1 HMJ.out.2 (base_le HB4.out rfl _) _ rfl ?_; intro gg cap wz hownz hgrow hat hltz)
          have HON := Lib.hid (Own.grew HOL.out hownz)
          have HBN := Lib.hid (below_grew HB4.out rfl HO4.out _ hgrow)
          rw [← HRN.out] at HON
          clear hownz hgrow hat hltz
          have x3 := IntWalk.wrap64_in ((j : Int) + 1) (by omega)
          go_wp2_with (fail)
          exact ⟨⟨j + 1, _, cap, rfl, HJ.out, rfl, HON.out, HBN.out⟩, vc_less j n hlt⟩
    · have hke : j = n := by omega
      have x0 : ¬ (j : Int) < (n : Int) := by omega
      have x1 : decide ((j : Int) < (n : Int)) = false := decide_eq_false x0
      have HT := Lib.hid (show R.take j = R from List.take_of_length_le (by rw [HLR.out]; omega))
      rw [HT.out] at HO
      go_wp2_with (fail)
      refine bodyPost_ret (results_tmp rfl _ _ _) rfl ?_
      refine ⟨G, cg, ?_, Own.kin HO.out, HB.out⟩
      rw [HLR.out, ← hke]
      rfl
end
end Go.Proofs.YtkdkeokldcehhaaGreatDoor
