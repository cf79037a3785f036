/-
  Law 12's SoftOrder: it answers true, whatever the scores are. Conditions: the numbers are there; the table lies where the program looks.
-/
import Derived.Test.YtghlapaoebelpaaDoorSfAwake12
import Derived.Test.YtghlapaoebelpaaDoorVcRef3
namespace Go.Proofs.YtghlapaoebelpaaDoor.softOrder
open Go.ChangeShapes Go.WideShapes Go.ChangeAt Go.RowKit Nm Vc Sf

theorem all_one (zs : List Int) : ∀ u ∈ icells zs, u.oneCell' = true := fun u hu => by
  obtain ⟨z, _, rfl⟩ := List.mem_map.1 hu
  rfl
theorem row_src {w : World} {b o : Nat} {zs : List Int} (h : KIn .i64 w (some ⟨b, o, none⟩) zs) : ∀ j u, (icells zs)[j]? = some u → w.cell? ((⟨b, o, none⟩ : Addr).add j) = some u := fun j u hj => by
  by_cases hl : j < zs.length
  · rw [icells_at zs j hl] at hj
    injection hj with hj
    rw [Addr.add_lit, ← hj]
    exact h.holds j hl
  · rw [List.getElem?_eq_none (by rw [icells_length]; omega)] at hj
    cases hj
theorem own1 {w : World} {base n g cap : Nat} {zs : List Int} (hz : zs.length = n) (h : w.ownsRow base 3 1 (.slice (some ⟨g, 0, none⟩) (0 + n) cap) (0 + n) ([] ++ icells zs)) : Own w base (.slice (some ⟨g, 0, none⟩) n cap) zs := by
  rw [Nat.zero_add, List.nil_append] at h
  unfold Own
  rw [hz]
  exact h
theorem below1 {w0 w wz : World} {B : Nat} {v : Value} {L : List Int} (hb : Below B w0 w) (hB : w0.heap.size = B) (ho : Own w B v L) (hg : w.grownBy wz v.ownBlock) : Below B w0 wz :=
  hb.grown hg (by have := hb.size; omega) (fun i hi => (ho.lt i hi).1)
theorem kin_take {w : World} {b o n : Nat} {l R : List Int} (h : KIn .i64 w (some ⟨b, o, none⟩) l) (hl : l.length = n + 1) (hR : l.take n = R) : KIn .i64 w (some ⟨b, o, none⟩) R := fun h0 => by
  refine ⟨b, o, rfl, fun i hi => ?_⟩
  rw [← hR, List.length_take] at hi
  obtain ⟨_, _, e, hc⟩ := h.at (show i < l.length by omega)
  injection e with e
  injection e with e1 e2 _
  subst e1 e2
  rw [hc, ← hR, List.getD_eq_getElem?_getD, List.getD_eq_getElem?_getD, List.getElem?_take_of_lt (by omega)]
theorem best_at {zs : List Int} {n : Nat} (hz : zs.length = n) (h0 : 0 < n) : ∃ b : Nat, bestL zs = (b : Int) ∧ b < n ∧ (weightsL zs).getD b 0 = 65536 ∧ ∀ x, x ≤ zs.getD b 0 → (weightsL (zs ++ [x])).take n = weightsL zs := by
  have hne : zs ≠ [] := fun e => by rw [e] at hz; simp at hz; omega
  have h := best_counts hne
  refine ⟨(bestL zs).toNat, by omega, by omega, h.2.2, fun x hx => ?_⟩
  rw [← hz]
  exact weightsL_add (best_more hne hx)
set_option maxRecDepth 100000 in
set_option maxHeartbeats 6400000 in
theorem walk (w : World) (A : Option Addr) (n c : Nat) (zs : List Int) (more : Int) (hz : zs.length = n) (hA : KIn .i64 w A zs) (hp : POn w) :
    Calls Tryd.prog 5 #[.slice A n c, .int .i64 more] w fun e w' => e = .returned (.bool true) ∧ Below w.heap.size w w' := by
  have HA := Lib.hid hA
  have HP := Lib.hid hp
  have HZ := Lib.hid hz
  clear hA hp hz
  by_cases h20 : 20 < n
  · have t0 : 20 < (n : Int) := by omega
    have t1 : decide (20 < (n : Int)) = true := decide_eq_true t0
    go_enter Tryd.func5, Tryd.ntmps5
    go_wp2_with (fail)
    refine (awake12 _ HP.out).mono ?_
    rintro e w1 ⟨rfl, b1⟩
    have B1 := Lib.hid b1
    clear b1
    go_wp2_with (fail)
    refine bodyPost_ret (results_tmp rfl _ _ _) rfl ?_
    exact ⟨rfl, B1.out⟩
  have t0 : ¬ 20 < (n : Int) := by omega
  have t1 : decide (20 < (n : Int)) = false := decide_eq_false t0
  by_cases h0 : n = 0
  · subst h0
    go_enter Tryd.func5, Tryd.ntmps5
    go_wp2_with (fail)
    refine (awake12 _ HP.out).mono ?_
    rintro e w1 ⟨rfl, b1⟩
    have B1 := Lib.hid b1
    clear b1
    go_wp2_with (fail)
    refine bodyPost_ret (results_tmp rfl _ _ _) rfl ?_
    exact ⟨rfl, B1.out⟩
  have t2 : ((n : Int) == 0) = false := beq_eq_false_iff_ne.2 (by omega)
  have hn20 : n ≤ 20 := by omega
  have HM := Lib.hid (show n ≤ 1000000 by omega)
  obtain ⟨i0, hi, hz0, hz1, hz2⟩ := info_parts info_int
  have HI := Lib.hid hi
  have HZ0 := Lib.hid hz0
  have HZ1 := Lib.hid hz1
  have HZ2 := Lib.hid hz2
  clear hi hz0 hz1 hz2
  have HLR := Lib.hid ((weightsL_length zs).trans HZ.out)
  obtain ⟨b, hb1, hb2, hb3, hb4⟩ := best_at HZ.out (show 0 < n by omega)
  have HBS := Lib.hid (fun W h => hb1 ▸ soft_best W A n c zs HZ.out HM.out h)
  have HBX := Lib.hid hb4
  have HUP := Lib.hid (fun i k (hi : i < n) (hk : k < n) (h : zs.getD k 0 < zs.getD i 0) => weightsL_up (l := zs) (i := i) (k := k) (by rw [HZ.out]; exact hi) (by rw [HZ.out]; exact hk) (by omega))
  have HWE := Lib.hid (fun W h hp => soft_weights W A n c zs HZ.out HM.out h hp)
  have b0 : 0 ≤ (b : Int) := by omega
  have b1' : ¬ (b : Int) < 0 := by omega
  have b2' : decide ((b : Int) < 0) = false := decide_eq_false b1'
  have b3' : (b : Int) < (n : Int) := by omega
  clear h20 hb1 hb4
  generalize hwl : weightsL zs = R at hb3 HLR HBX HUP HWE
  have HWL := Lib.hid hwl
  have t3 : ((n : Int) != (n : Int)) = false := by simp
  clear hwl
  go_enter Tryd.func5, Tryd.ntmps5
  go_wp2_with (fail)
  refine (awake12 _ HP.out).mono ?_
  rintro e w1 ⟨rfl, b1⟩
  have B1 := Lib.hid b1
  have A1 := Lib.hid (HA.out.below b1 (Nat.le_refl _))
  have P1 := Lib.hid (HP.out.below b1 (Nat.le_refl _))
  clear b1 HA HP
  go_wp2_with (fail)
  refine (HWE.out w1 A1.out P1.out).mono ?_
  rintro e w2 ⟨Q, cq, rfl, k2, b2⟩
  have B2 := Lib.hid (B1.out.trans (b2.mono B1.out.size))
  have A2 := Lib.hid (A1.out.below b2 (Nat.le_refl _))
  have P2 := Lib.hid (P1.out.below b2 (Nat.le_refl _))
  have K2 := Lib.hid k2
  rw [HLR.out]
  clear b2 k2 B1 A1 P1 HWE
  go_wp2_with (fail)
  refine (HBS.out w2 A2.out).mono ?_
  rintro e w3 ⟨rfl, rfl⟩
  clear HBS
  obtain ⟨pa, oa, rfl, hcb⟩ := A2.out.at (show b < zs.length by rw [HZ.out]; exact hb2)
  obtain ⟨pq, oq, rfl, hqb⟩ := K2.out.at (show b < R.length by rw [HLR.out]; exact hb2)
  rw [hb3] at hqb
  clear hb3
  go_wp2_with (fail)
  go_loopw [7] (fun i wr => ∃ j d : Nat, i = .int .i64 (j : Int) ∧ j ≤ n ∧ wr = w2.drewN d) (fun i _ => match i with | .int _ k => n - k.toNat | _ => 0)
  case atStart => exact ⟨0, 0, rfl, Nat.zero_le _, rfl⟩
  case round =>
    obtain ⟨j, d, rfl, hj, rfl⟩ := hrel
    have x2 : 0 ≤ (j : Int) := by omega
    by_cases hlt : j < n
    · have x0 : (j : Int) < (n : Int) := by omega
      have x1 : decide ((j : Int) < (n : Int)) = true := decide_eq_true x0
      have HJ := Lib.hid (show j + 1 ≤ n by omega)
      obtain ⟨_, _, e2, hc1⟩ := A2.out.at (show j < zs.length by rw [HZ.out]; exact hlt)
      injection e2 with e2
      injection e2 with e2 e3 _
      subst e2 e3
      obtain ⟨_, _, e2, hq1⟩ := K2.out.at (show j < R.length by rw [HLR.out]; exact hlt)
      injection e2 with e2
      injection e2 with e2 e3 _
      subst e2 e3
      have HUJ := Lib.hid (fun k hk => HUP.out j k hlt hk)
      generalize zs.getD j 0 = z1 at hc1 HUJ
      generalize R.getD j 0 = y1 at hq1 HUJ
      go_wp2_with (fail)
      go_loopw [8] (fun i wr => ∃ k d : Nat, i = .int .i64 (k : Int) ∧ k ≤ n ∧ wr = w2.drewN d) (fun i _ => match i with | .int _ k => n - k.toNat | _ => 0)
      case atStart => exact ⟨0, d, rfl, Nat.zero_le _, rfl⟩
      case round =>
        obtain ⟨k, d, rfl, hk, rfl⟩ := hrel
        have y2 : 0 ≤ (k : Int) := by omega
        by_cases hkn : k < n
        · have y0 : (k : Int) < (n : Int) := by omega
          have y3 : decide ((k : Int) < (n : Int)) = true := decide_eq_true y0
          have HK := Lib.hid (show k + 1 ≤ n by omega)
          obtain ⟨_, _, e2, hc2⟩ := A2.out.at (show k < zs.length by rw [HZ.out]; exact hkn)
          injection e2 with e2
          injection e2 with e2 e3 _
          subst e2 e3
          obtain ⟨_, _, e2, hq2⟩ := K2.out.at (show k < R.length by rw [HLR.out]; exact hkn)
          injection e2 with e2
          injection e2 with e2 e3 _
          subst e2 e3
          have HUK := Lib.hid (HUJ.out k hkn)
          generalize zs.getD k 0 = z2 at hc2 HUK
          generalize R.getD k 0 = y2' at hq2 HUK
          have x3 := IntWalk.wrap64_in ((k : Int) + 1) (by omega)
          by_cases hz : z2 < z1
          · have u1 : decide (z2 < z1) = true := decide_eq_true hz
            have u2 : decide (y1 < y2') = false := decide_eq_false (by have := HUK.out hz; omega)
            go_wp2_with (fail)
            go_quiet (fail)
            go_wp2_with (fail)
            exact ⟨⟨k + 1, _, rfl, HK.out, rfl⟩, vc_less k n hkn⟩
          · have u1 : decide (z2 < z1) = false := decide_eq_false hz
            go_wp2_with (fail)
            go_quiet (fail)
            go_wp2_with (fail)
            exact ⟨⟨k + 1, _, rfl, HK.out, rfl⟩, vc_less k n hkn⟩
        · have hke : k = n := by omega
          have y0 : ¬ (k : Int) < (n : Int) := by omega
          have y3 : decide ((k : Int) < (n : Int)) = false := decide_eq_false y0
          have x3 := IntWalk.wrap64_in ((j : Int) + 1) (by omega)
          go_wp2_with (fail)
          exact ⟨⟨j + 1, _, rfl, HJ.out, rfl⟩, vc_less j n hlt⟩
    · have hke : j = n := by omega
      have x0 : ¬ (j : Int) < (n : Int) := by omega
      have x1 : decide ((j : Int) < (n : Int)) = false := decide_eq_false x0
      have HBX2 := Lib.hid (HBX.out more)
      generalize zs.getD b 0 = zb at hcb HBX2
      have B3 := Lib.hid (below_drewN B2.out d)
      have A3 : Hid (KIn .i64 (w2.drewN d) (some ⟨pa, oa, none⟩) zs) := A2
      have P3 : Hid (POn (w2.drewN d)) := P2
      have K3 : Hid (KIn .i64 (w2.drewN d) (some ⟨pq, oq, none⟩) R) := K2
      have hcb3 : (w2.drewN d).cell? ⟨pa, oa + b, none⟩ = some (.int .i64 zb) := hcb
      clear B2 A2 P2 K2 hcb hqb HBX HUP hke hlt
      generalize w2.drewN d = w3 at B3 A3 P3 K3 hcb3 ⊢
      by_cases hm : zb < more
      · have u1 : decide (zb < more) = true := decide_eq_true hm
        go_wp2_with (fail)
        refine bodyPost_ret (results_tmp rfl _ _ _) rfl ?_
        exact ⟨rfl, B3.out⟩
      have u1 : decide (zb < more) = false := decide_eq_false hm
      have HR2 := Lib.hid (HBX2.out (by omega))
      have HO0 := Lib.hid (Own.new w3 w3.heap.size (Nat.le_refl _))
      have B4 := Lib.hid ((Below.refl w3.heap.size w3).alloc (Nat.le_refl _) (.cells #[] 3))
      have A4 := Lib.hid (A3.out.alloc (.cells #[] 3))
      have HM1 := Lib.hid (show 0 + n ≤ maxLen ∧ (0 + n) * 8 ≤ 140737488355328 ∧ 0 < n by unfold maxLen; omega)
      have HM2 := Lib.hid (show n + 1 ≤ maxLen ∧ (n + 1) * 8 ≤ 140737488355328 by unfold maxLen; omega)
      have HN1 := Lib.hid (show n + 1 ≤ 1000000 by omega)
      have HZM := Lib.hid (show (zs ++ [more]).length = n + 1 by rw [List.length_append, HZ.out]; rfl)
      have HLM := Lib.hid ((weightsL_length (zs ++ [more])).trans HZM.out)
      have v0 := IntWalk.wrap64_in ((n : Int) + 1) (by omega)
      go_wp2_with (first
        | (refine wpList_buildNone rfl 22 3 rfl i0 Tryd.underlying22 HI.out ?_)
        | (at_builtin; refine wpList_append_lies _ rfl (.tmp 78) (.tmp 79) 22 rfl w3.heap.size 3 i0 _ 1 8 Tryd.underlying22 HI.out HZ0.out HZ1.out HZ2.out rfl Nat.one_pos (.slice (some ⟨w3.heap.size, 0, none⟩) 0 0) 0 [] rfl HO0.out ⟨pa, oa, none⟩ n c (icells zs) rfl (by rw [icells_length, HZ.out, Nat.mul_one]) (row_src A4.out) (all_one zs) HM1.out.2.2 HM1.out.1 HM1.out.2.1 B4.out.size _ rfl ?_; intro g1 cap1 wz1 hownz1 hgrow1 hat1 hltz1; have HOW1 := Lib.hid (own1 HZ.out hownz1); have B5 := Lib.hid (below1 B4.out rfl HO0.out hgrow1); clear hownz1 hgrow1 hat1 hltz1)
        | (at_builtin; refine wpList_append_lies _ rfl (.tmp 80) (.tmp 82) 22 rfl w3.heap.size 3 i0 _ 1 8 Tryd.underlying22 HI.out HZ0.out HZ1.out HZ2.out rfl Nat.one_pos (.slice (some ⟨g1, 0, none⟩) n cap1) n (icells zs) rfl ((Own.at HOW1.out HZ.out).alloc _) ⟨wz1.heap.size, 0, none⟩ 1 1 [.int .i64 more] rfl rfl (one_src wz1 more) (one_one more) Nat.one_pos HM2.out.1 HM2.out.2 (base_le B5.out rfl _) _ rfl ?_; intro g2 cap2 wz2 hownz2 hgrow2 hat2 hltz2; have HOW2 := Lib.hid (Own.grew HZ.out hownz2); have B6 := Lib.hid (below_grew B5.out rfl HOW1.out _ hgrow2); clear hownz2 hgrow2 hat2 hltz2))
      have K6 := Lib.hid (K3.out.below B6.out (Nat.le_refl _))
      have P6 := Lib.hid (P3.out.below B6.out (Nat.le_refl _))
      have B7 := Lib.hid (B3.out.trans (B6.out.mono B3.out.size))
      clear hcb3 B6 B5 B4 A4 A3 K3 P3 B3 HO0 HOW1
      refine (soft_weights_some wz2 _ (n + 1) cap2 (zs ++ [more]) HZM.out (Nat.succ_pos _) HN1.out (Own.kin HOW2.out) P6.out).mono ?_
      rintro e w8 ⟨X, rfl, k8, b8⟩
      have B8 := Lib.hid (B7.out.trans (b8.mono B7.out.size))
      have K8 := Lib.hid (K6.out.below b8 (Nat.le_refl _))
      obtain ⟨px, ox, rfl, _⟩ := k8.at (show 0 < (weightsL (zs ++ [more])).length by rw [HLM.out]; exact Nat.succ_pos _)
      have KX := Lib.hid (show KIn .i64 w8 (some ⟨px, ox, none⟩) R from kin_take k8 HLM.out HR2.out)
      clear k8 b8 B7 K6 P6 HOW2
      have v1 : ¬ n + 1 = n := by omega
      go_wp2_with (fail)
      refine (ints_same w8 (some ⟨px, ox, none⟩) n (n + 1) (some ⟨pq, oq, none⟩) cq R HLR.out HM.out KX.out K8.out).mono ?_
      rintro e w9 ⟨rfl, d9, rfl⟩
      go_wp2_with (fail)
      refine bodyPost_ret (results_tmp rfl _ _ _) rfl ?_
      exact ⟨rfl, below_drewN B8.out _⟩
end Go.Proofs.YtghlapaoebelpaaDoor.softOrder
