/-
  Law 13's NormTurns: it answers true, whatever the gains, the row and the turn are. Conditions: the numbers are there.
-/
import Derived.Test.YtgoeaepjffimgaaNrAwake13
import Derived.Test.YtgoeaepjffimgaaVcRef3
import Derived.Test.YtgoeaepjffimgaaAppAny
import Derived.Deep.RegionHeld3
namespace Go.Proofs.Ytgoeaepjffimgaa.normTurns
open Go.ChangeShapes Go.WideShapes Go.ChangeAt Go.RowKit Nm Vc Nr

theorem all_one (zs : List Int) : ∀ u ∈ icells zs, u.oneCell' = true := fun u hu => by
  obtain ⟨z, _, rfl⟩ := List.mem_map.1 hu
  rfl
theorem kin_src {w : World} {b o : Nat} {zs : List Int} (h : KIn .i64 w (some ⟨b, o, none⟩) zs) : ∀ j u, (icells zs)[j]? = some u → w.cell? ((⟨b, o, none⟩ : Addr).add j) = some u := fun j u hj => by
  by_cases hl : j < zs.length
  · rw [icells_at zs j hl] at hj
    injection hj with hj
    rw [Addr.add_lit, ← hj]
    exact h.holds j hl
  · rw [List.getElem?_eq_none (by rw [icells_length]; omega)] at hj
    cases hj
theorem kin_drop {w : World} {b o k : Nat} {zs : List Int} (h : KIn .i64 w (some ⟨b, o, none⟩) zs) : KIn .i64 w (some ⟨b, o + k, none⟩) (zs.drop k) := fun h0 => by
  refine ⟨b, o + k, rfl, fun i hi => ?_⟩
  rw [List.length_drop] at hi
  rw [Nat.add_assoc, h.holds (k + i) (by omega), List.getD_eq_getElem?_getD, List.getD_eq_getElem?_getD, List.getElem?_drop]
theorem kin_take {w : World} {b o k : Nat} {zs : List Int} (h : KIn .i64 w (some ⟨b, o, none⟩) zs) : KIn .i64 w (some ⟨b, o, none⟩) (zs.take k) := fun h0 => by
  refine ⟨b, o, rfl, fun i hi => ?_⟩
  rw [List.length_take] at hi
  rw [h.holds i (by omega), List.getD_eq_getElem?_getD, List.getD_eq_getElem?_getD, List.getElem?_take_of_lt (by omega)]
theorem below1 {w0 w wz : World} {B : Nat} {v : Value} {L : List Int} (hb : Below B w0 w) (hB : w0.heap.size = B) (ho : Own w B v L) (hg : w.grownBy wz v.ownBlock) : Below B w0 wz :=
  hb.grown hg (by have := hb.size; omega) (fun i hi => (ho.lt i hi).1)
theorem own_nil {w : World} {base g N cap : Nat} {l : List Int} (hl : l.length = N) (h : w.ownsRow base 3 1 (.slice (some ⟨g, 0, none⟩) N cap) N ([] ++ icells l)) : Own w base (.slice (some ⟨g, 0, none⟩) N cap) l := by
  rw [List.nil_append] at h
  unfold Own
  rw [hl]
  exact h
theorem own_two {w : World} {base g N cap : Nat} {l m : List Int} (hl : (l ++ m).length = N) (h : w.ownsRow base 3 1 (.slice (some ⟨g, 0, none⟩) N cap) N (icells l ++ icells m)) : Own w base (.slice (some ⟨g, 0, none⟩) N cap) (l ++ m) := by
  unfold Own
  rw [hl, show icells (l ++ m) = icells l ++ icells m from List.map_append]
  exact h
/-- Where the row is parted. -/
theorem turn_at (turn : Int) (n : Nat) (h0 : 0 < n) (hn : n ≤ 40) : ∃ k : Nat, wrap64 ((IntKind.u64.wrap turn).tmod (n : Int)) = (k : Int) ∧ k < n := by
  have h1 : 0 ≤ IntKind.u64.wrap turn := by rw [IntKind.wrap_u64]; omega
  rw [Int.tmod_eq_emod_of_nonneg h1]
  have h2 := Int.emod_nonneg (IntKind.u64.wrap turn) (show (n : Int) ≠ 0 by omega)
  have h3 := Int.emod_lt_of_pos (IntKind.u64.wrap turn) (show 0 < (n : Int) by omega)
  generalize IntKind.u64.wrap turn % (n : Int) = x at h2 h3
  exact ⟨x.toNat, by rw [IntWalk.wrap64_in _ ⟨by omega, by omega⟩]; omega, by omega⟩
set_option maxRecDepth 100000 in
set_option maxHeartbeats 800000 in
theorem walk_out (w : World) (G : Option Addr) (m d : Nat) (A : Option Addr) (n c : Nat) (turn : Int) (h : 40 < n ∨ m ≠ n ∨ n = 0) :
    Calls Try.prog 4 #[.slice G m d, .slice A n c, .int .i64 turn] w fun e w' => e = .returned (.bool true) ∧ Below w.heap.size w w' := by
  by_cases h1 : 40 < n
  · have t0 : 40 < (n : Int) := by omega
    have t1 : decide (40 < (n : Int)) = true := decide_eq_true t0
    clear h
    go_enter Try.func4, Try.ntmps4
    go_wp2_with (fail)
    refine (awake13 _).mono ?_
    rintro e w1 ⟨rfl, b1⟩
    have B1 := Lib.hid b1
    clear b1
    go_wp2_with (fail)
    refine bodyPost_ret (results_tmp rfl _ _ _) rfl ?_
    exact ⟨rfl, B1.out⟩
  have t0 : ¬ 40 < (n : Int) := by omega
  have t1 : decide (40 < (n : Int)) = false := decide_eq_false t0
  by_cases h2 : m = n
  · subst h2
    obtain rfl : m = 0 := by omega
    clear h h1
    go_enter Try.func4, Try.ntmps4
    go_wp2_with (fail)
    refine (awake13 _).mono ?_
    rintro e w1 ⟨rfl, b1⟩
    have B1 := Lib.hid b1
    clear b1
    go_wp2_with (fail)
    refine bodyPost_ret (results_tmp rfl _ _ _) rfl ?_
    exact ⟨rfl, B1.out⟩
  have t3 : ((m : Int) != (n : Int)) = true := by
    rw [bne_iff_ne]
    omega
  clear h h1 h2
  go_enter Try.func4, Try.ntmps4
  go_wp2_with (fail)
  refine (awake13 _).mono ?_
  rintro e w1 ⟨rfl, b1⟩
  have B1 := Lib.hid b1
  clear b1
  go_wp2_with (fail)
  refine bodyPost_ret (results_tmp rfl _ _ _) rfl ?_
  exact ⟨rfl, B1.out⟩
set_option maxRecDepth 100000 in
set_option maxHeartbeats 6400000 in
theorem walk_in (w : World) (G : Option Addr) (d : Nat) (gs : List Int) (A : Option Addr) (n c : Nat) (zs : List Int) (turn : Int) (hg : gs.length = n) (hz : zs.length = n) (hG : KIn .i64 w G gs) (hA : KIn .i64 w A zs) (h0 : 0 < n) (hn : n ≤ 40) (hcap : n ≤ c) :
    Calls Try.prog 4 #[.slice G n d, .slice A n c, .int .i64 turn] w fun e w' => e = .returned (.bool true) ∧ Below w.heap.size w w' := by
  have HA := Lib.hid hA
  have HG := Lib.hid hG
  have HZ := Lib.hid hz
  have HGL := Lib.hid hg
  obtain ⟨i0, hi, hz0, hz1, hz2⟩ := info_parts info_int
  have HI := Lib.hid hi
  have HZ0 := Lib.hid hz0
  have HZ1 := Lib.hid hz1
  have HZ2 := Lib.hid hz2
  have HNM := Lib.hid (show n ≤ 40 ∧ 0 < n from ⟨hn, h0⟩)
  have HNL := Lib.hid ((negL_length zs).trans hz)
  have HNA := Lib.hid (fun j (h : j < n) => negL_at zs j (by omega))
  clear hi hz0 hz1 hz2 hA hG hg hz
  have t0 : ¬ 40 < (n : Int) := by omega
  have t1 : decide (40 < (n : Int)) = false := decide_eq_false t0
  have t2 : ((n : Int) != (n : Int)) = false := by simp
  have t3 : ((n : Int) == 0) = false := beq_eq_false_iff_ne.2 (by omega)
  go_enter Try.func4, Try.ntmps4
  go_wp2_with (fail)
  refine (awake13 _).mono ?_
  rintro e w1 ⟨rfl, b1⟩
  have B1 := Lib.hid b1
  have A1 := Lib.hid (HA.out.below b1 (Nat.le_refl _))
  have G1 := Lib.hid (HG.out.below b1 (Nat.le_refl _))
  clear b1 HA HG
  have HO0 := Lib.hid (show Own (w1.alloc (.cells #[] 3)) w1.heap.size (.slice (some ⟨w1.heap.size, 0, none⟩) 0 0) ((negL zs).take 0) from Own.new w1 w1.heap.size (Nat.le_refl _))
  have HB0 := Lib.hid ((Below.refl w1.heap.size w1).alloc (Nat.le_refl _) (.cells #[] 3))
  go_wp2_with (refine wpList_buildNone rfl 22 3 rfl i0 Try.underlying22 HI.out ?_)
  go_loopw [8, 9] (fun l i wr => ∃ (j : Nat) (X : Option Addr) (q : Nat), i = .int .i64 (j : Int) ∧ j ≤ n ∧ l = .slice X j q ∧ Own wr w1.heap.size l ((negL zs).take j) ∧ Below w1.heap.size w1 wr) (fun _ i _ => match i with | .int _ k => n - k.toNat | _ => 0)
  case atStart => exact ⟨0, _, 0, rfl, Nat.zero_le _, rfl, HO0.out, HB0.out⟩
  case round =>
    clear HO0 HB0 t0 t1 t3
    obtain ⟨j, X, cx, rfl, hj, rfl, ho, hb⟩ := hrel
    have HO := Lib.hid ho
    have HB := Lib.hid hb
    clear ho hb
    have x2 : 0 ≤ (j : Int) := by omega
    by_cases hlt : j < n
    · have x0 : (j : Int) < (n : Int) := by omega
      have x1 : decide ((j : Int) < (n : Int)) = true := decide_eq_true x0
      have HJ := Lib.hid (show j + 1 ≤ n by omega)
      have HRN := Lib.hid (take_more (negL zs) j (by rw [HNL.out]; exact hlt))
      have HNJ := Lib.hid (HNA.out j hlt)
      rw [HNJ.out] at HRN
      have HOL := Lib.hid (show ((negL zs).take j).length = j by rw [List.length_take, HNL.out]; omega)
      have HMJ := Lib.hid (app_small HJ.out (show n ≤ 4096 by omega))
      obtain ⟨pa, oa, rfl, hc⟩ := (A1.out.below HB.out (Nat.le_refl _)).at (show j < zs.length by rw [HZ.out]; exact hlt)
      generalize zs.getD j 0 = z at hc HRN
      by_cases h1 : 32767 < z
      · have u1 : decide (32767 < z) = true := decide_eq_true h1
        go_wp2_with (fail)
        refine bodyPost_ret (results_tmp rfl _ _ _) rfl ?_
        exact ⟨rfl, B1.out.trans (HB.out.mono B1.out.size)⟩
      have u1 : decide (32767 < z) = false := decide_eq_false h1
      by_cases h2 : z < -32767
      · have u2 : decide (z < -32767) = true := decide_eq_true h2
        go_wp2_with (fail)
        refine bodyPost_ret (results_tmp rfl _ _ _) rfl ?_
        exact ⟨rfl, B1.out.trans (HB.out.mono B1.out.size)⟩
      have u2 : decide (z < -32767) = false := decide_eq_false h2
      have HW4 := Lib.hid (Own.at HO.out HOL.out)
      have x3 := IntWalk.wrap64_in ((j : Int) + 1) (by omega)
      go_wp2_with (at_builtin; refine wpList_append_lies _ rfl (.tmp 50) (.tmp 56) 22 rfl w1.heap.size 3 i0 _ 1 8 Try.underlying22 HI.out HZ0.out HZ1.out HZ2.out rfl Nat.one_pos (.slice X j cx) j _ rfl (HW4.out.alloc _) ⟨wr.heap.size, 0, none⟩ 1 1 [.int .i64 (-z)] rfl rfl (one_src wr _) (one_one _) Nat.one_pos HMJ.out.1 HMJ.out.2 (base_le HB.out rfl _) _ rfl ?_; intro gg cap wz hownz hgrow hat hltz)
      have HON := Lib.hid (Own.grew HOL.out hownz)
      have HBN := Lib.hid (below_grew HB.out rfl HO.out _ hgrow)
      rw [← HRN.out] at HON
      clear hownz hgrow hat hltz
      go_wp2_with (fail)
      exact ⟨⟨j + 1, _, cap, rfl, HJ.out, rfl, HON.out, HBN.out⟩, vc_less j n hlt⟩
    · have hke : n = j := by omega
      have x0 : ¬ (j : Int) < (n : Int) := by omega
      have x1 : decide ((j : Int) < (n : Int)) = false := decide_eq_false x0
      subst hke
      have HT : (negL zs).take n = negL zs := List.take_of_length_le (by rw [HNL.out]; exact Nat.le_refl _)
      rw [HT] at HO
      have A3 := Lib.hid (A1.out.below HB.out (Nat.le_refl _))
      have G3 := Lib.hid (G1.out.below HB.out (Nat.le_refl _))
      have D3 := Lib.hid (Own.kin HO.out)
      have B3 := Lib.hid (B1.out.trans (HB.out.mono B1.out.size))
      clear HT HO HB A1 G1 B1
      generalize wr = wo at A3 G3 D3 B3 ⊢
      go_wp2_with (fail)
      refine (norm_of_same wo G d gs A n c zs HGL.out HZ.out (by have := HNM.out; omega) G3.out A3.out).mono ?_
      rintro e w4 ⟨R4, c4, rfl, k4, b4⟩
      have B4 := Lib.hid (B3.out.trans (b4.mono B3.out.size))
      have A4 := Lib.hid (A3.out.below b4 (Nat.le_refl _))
      have G4 := Lib.hid (G3.out.below b4 (Nat.le_refl _))
      have D4 := Lib.hid (D3.out.below b4 (Nat.le_refl _))
      rw [ofL_same (by rw [HGL.out, HZ.out])] at k4
      rw [show (ofL gs zs).length = n by rw [ofL_same (by rw [HGL.out, HZ.out]), normL_length, HZ.out]]
      have K4 := Lib.hid k4
      clear k4 b4 B3 A3 G3 D3
      go_wp2_with (fail)
      refine (norm_of_same w4 G d gs X n cx (negL zs) HGL.out HNL.out (by have := HNM.out; omega) G4.out D4.out).mono ?_
      rintro e w5 ⟨R5, c5, rfl, k5, b5⟩
      have B5 := Lib.hid (B4.out.trans (b5.mono B4.out.size))
      have A5 := Lib.hid (A4.out.below b5 (Nat.le_refl _))
      have D5 := Lib.hid (D4.out.below b5 (Nat.le_refl _))
      have K45 := Lib.hid (K4.out.below b5 (Nat.le_refl _))
      rw [ofL_same (by rw [HGL.out, HNL.out])] at k5
      rw [show (ofL gs (negL zs)).length = n by rw [ofL_same (by rw [HGL.out, HNL.out]), normL_length, HNL.out]]
      have K5 := Lib.hid k5
      clear k5 b5 B4 A4 G4 D4 K4
      go_wp2_with (fail)
      refine (norm_plain w5 A n c zs HZ.out (by have := HNM.out; omega) A5.out).mono ?_
      rintro e w6 ⟨R6, c6, rfl, k6, b6⟩
      have B6 := Lib.hid (B5.out.trans (b6.mono B5.out.size))
      have A6 := Lib.hid (A5.out.below b6 (Nat.le_refl _))
      have D6 := Lib.hid (D5.out.below b6 (Nat.le_refl _))
      have K46 := Lib.hid (K45.out.below b6 (Nat.le_refl _))
      have K56 := Lib.hid (K5.out.below b6 (Nat.le_refl _))
      have HPN := Lib.hid ((plain_length zs).trans HZ.out)
      rw [HPN.out]
      have K6 := Lib.hid k6
      clear k6 b6 B5 A5 D5 K45 K5
      have HNG := Lib.hid (fun j (h : j < n) => norm_neg gs zs j (by rw [HZ.out]; exact h))
      have HAT := Lib.hid (fun j (h : j < n) => normL_at gs zs j (by rw [HZ.out]; exact h))
      have HMO := Lib.hid (fun i k (hi : i < n) (hk : k < n) (h : zs.getD k 0 < zs.getD i 0) => show (plain zs).getD k 0 ≤ (plain zs).getD i 0 from by
        rw [plain_at _ k (by rw [HZ.out]; exact hk), plain_at _ i (by rw [HZ.out]; exact hi)]
        exact one_mono (root_in zs (by rw [HZ.out]; have := HNM.out; omega)).1 (by omega))
      have HLA := Lib.hid ((normL_length gs zs).trans HZ.out)
      have HLB := Lib.hid ((normL_length gs (negL zs)).trans HNL.out)
      have HIN := Lib.hid (fun j (h : j < n) => show -32767 ≤ (normL gs zs).getD j 0 ∧ (normL gs zs).getD j 0 ≤ 32767 from by
        rw [HAT.out j h]
        exact sat_in _)
      clear HAT
      generalize plain zs = P at HPN K6 HMO
      generalize normL gs zs = Y at K46 HNG HLA HIN
      generalize normL gs (negL zs) = V at K56 HNG HLB
      obtain ⟨pa, oa, rfl, _⟩ := A6.out.at (show 0 < zs.length by rw [HZ.out]; exact HNM.out.2)
      obtain ⟨py, oy, rfl, _⟩ := K46.out.at (show 0 < Y.length by rw [HLA.out]; exact HNM.out.2)
      obtain ⟨pv, ov, rfl, _⟩ := K56.out.at (show 0 < V.length by rw [HLB.out]; exact HNM.out.2)
      obtain ⟨pp, op, rfl, _⟩ := K6.out.at (show 0 < P.length by rw [HPN.out]; exact HNM.out.2)
      go_wp2_with (fail)
      go_loopw [13] (fun i wr => ∃ j d : Nat, i = .int .i64 (j : Int) ∧ j ≤ n ∧ wr = w6.drewN d) (fun i _ => match i with | .int _ k => n - k.toNat | _ => 0)
      case atStart => exact ⟨0, 0, rfl, Nat.zero_le _, rfl⟩
      case round =>
        obtain ⟨j, d, rfl, hj, rfl⟩ := hrel
        have x2 : 0 ≤ (j : Int) := by omega
        by_cases hlt : j < n
        · have x0 : (j : Int) < (n : Int) := by omega
          have x1 : decide ((j : Int) < (n : Int)) = true := decide_eq_true x0
          have HJ := Lib.hid (show j + 1 ≤ n by omega)
          have hc1 := A6.out.holds j (by rw [HZ.out]; exact hlt)
          have hy1 := K46.out.holds j (by rw [HLA.out]; exact hlt)
          have hv1 := K56.out.holds j (by rw [HLB.out]; exact hlt)
          have hp1 := K6.out.holds j (by rw [HPN.out]; exact hlt)
          rw [HNG.out j hlt] at hv1
          have HUJ := Lib.hid (fun k hk => HMO.out j k hlt hk)
          have hyi := HIN.out j hlt
          generalize zs.getD j 0 = z1 at hc1 HUJ
          generalize Y.getD j 0 = y1 at hy1 hv1 hyi
          generalize P.getD j 0 = p1 at hp1 HUJ
          have u0 : (y1 != wrap64 y1) = false := by rw [IntWalk.wrap64_in _ (by omega)]; simp
          clear hyi
          go_wp2_with (fail)
          go_quiet (fail)
          go_wp2_with (fail)
          go_loopw [14] (fun i wr => ∃ k d : Nat, i = .int .i64 (k : Int) ∧ k ≤ n ∧ wr = w6.drewN d) (fun i _ => match i with | .int _ k => n - k.toNat | _ => 0)
          case atStart => exact ⟨0, d + nq, rfl, Nat.zero_le _, by rw [World.drewN_drewN]⟩
          case round =>
            obtain ⟨k, d, rfl, hk, rfl⟩ := hrel
            have y2 : 0 ≤ (k : Int) := by omega
            by_cases hkn : k < n
            · have y0 : (k : Int) < (n : Int) := by omega
              have y3 : decide ((k : Int) < (n : Int)) = true := decide_eq_true y0
              have HK := Lib.hid (show k + 1 ≤ n by omega)
              have hc2 := A6.out.holds k (by rw [HZ.out]; exact hkn)
              have hp2 := K6.out.holds k (by rw [HPN.out]; exact hkn)
              have HUK := Lib.hid (HUJ.out k hkn)
              generalize zs.getD k 0 = z2 at hc2 HUK
              generalize P.getD k 0 = p2 at hp2 HUK
              have x3 := IntWalk.wrap64_in ((k : Int) + 1) (by omega)
              by_cases hz : z2 < z1
              · have u1 : decide (z2 < z1) = true := decide_eq_true hz
                have u2 : decide (p1 < p2) = false := decide_eq_false (by have := HUK.out hz; omega)
                go_wp2_with (fail)
                go_quiet (fail)
                go_wp2_with (fail)
                exact ⟨⟨k + 1, _, rfl, HK.out, rfl⟩, vc_less k n hkn⟩
              · have u1 : decide (z2 < z1) = false := decide_eq_false hz
                go_wp2_with (fail)
                go_quiet (fail)
                go_wp2_with (fail)
                exact ⟨⟨k + 1, _, rfl, HK.out, rfl⟩, vc_less k n hkn⟩
            · have hke : k = n := by omega
              have y0 : ¬ (k : Int) < (n : Int) := by omega
              have y3 : decide ((k : Int) < (n : Int)) = false := decide_eq_false y0
              have x3 := IntWalk.wrap64_in ((j : Int) + 1) (by omega)
              go_wp2_with (fail)
              exact ⟨⟨j + 1, _, rfl, HJ.out, rfl⟩, vc_less j n hlt⟩
        · have hke : j = n := by omega
          have x0 : ¬ (j : Int) < (n : Int) := by omega
          have x1 : decide ((j : Int) < (n : Int)) = false := decide_eq_false x0
          have B7 := Lib.hid (below_drewN B6.out d)
          have A7 : Hid (KIn .i64 (w6.drewN d) (some ⟨pa, oa, none⟩) zs) := A6
          have D7 : Hid (KIn .i64 (w6.drewN d) X (negL zs)) := D6
          clear B6 A6 D6 K46 K56 K6 HMO HNG HIN HLA HLB HPN hke hlt
          generalize w6.drewN d = w7 at B7 A7 D7 ⊢
          obtain ⟨k, hk, hkn⟩ := turn_at turn n HNM.out.2 HNM.out.1
          have e0 : wrap64 ((IntKind.u64.wrap turn).tmod (n : Int)) = (k : Int) := hk
          go_wp2_with (fail)
          clear e0 hk
          have HK := Lib.hid hkn
          have k0 : 0 ≤ (k : Int) := by omega
          have k1 : (k : Int) ≤ (n : Int) := by omega
          have k2 : (k : Int) ≤ (c : Int) := by omega
          have k3 : ¬ c = k := by omega
          have HB8 := Lib.hid ((Below.refl w7.heap.size w7).alloc (Nat.le_refl _) (.cells #[] 3))
          have HO8 := Lib.hid (Own.new w7 w7.heap.size (Nat.le_refl _))
          have HR := Lib.hid (root_turn zs k (by rw [HZ.out]; omega))
          have HRN := Lib.hid (root_neg zs)
          have HLD := Lib.hid (show (icells (zs.drop k)).length = (n - k) * 1 by rw [icells_length, List.length_drop, HZ.out]; omega)
          have HLT := Lib.hid (show (icells (zs.take k)).length = k * 1 by rw [icells_length, List.length_take, HZ.out]; omega)
          have HL1 := Lib.hid (show (zs.drop k).length = 0 + (n - k) by rw [List.length_drop, HZ.out]; omega)
          have HL2 := Lib.hid (show (zs.drop k ++ zs.take k).length = 0 + (n - k) + k by rw [List.length_append, List.length_drop, List.length_take, HZ.out]; omega)
          have HMX := Lib.hid (show 0 + (n - k) ≤ maxLen ∧ (0 + (n - k)) * 8 ≤ 140737488355328 ∧ 0 + (n - k) + k ≤ maxLen ∧ (0 + (n - k) + k) * 8 ≤ 140737488355328 ∧ 0 + (n - k) + k ≤ 1000000 ∧ n ≤ 1000000 by unfold maxLen; omega)
          have A8 := Lib.hid (A7.out.alloc (.cells #[] 3))
          have HRT1 := Lib.hid (fun (N : Nat) (hN : 0 + (n - k) + k = N) (W : World) (g cg : Nat) (h : KIn .i64 W (some ⟨g, 0, none⟩) (zs.drop k ++ zs.take k)) =>
            show Calls Try.prog 7 #[.slice (some ⟨g, 0, none⟩) N cg] W (fun e w' => e = .returned (.int .i64 (rootL zs)) ∧ Below W.heap.size W w') from by
              subst hN
              have := norm_root W (some ⟨g, 0, none⟩) (0 + (n - k) + k) cg (zs.drop k ++ zs.take k) HL2.out HMX.out.2.2.2.2.1 h
              rw [HR.out] at this
              exact this)
          have HRT2 := Lib.hid (fun (W : World) (h : KIn .i64 W (some ⟨pa, oa, none⟩) zs) => norm_root W (some ⟨pa, oa, none⟩) n c zs HZ.out HMX.out.2.2.2.2.2 h)
          have HRT3 := Lib.hid (fun (W : World) (h : KIn .i64 W X (negL zs)) =>
            show Calls Try.prog 7 #[.slice X n cx] W (fun e w' => e = .returned (.int .i64 (rootL zs)) ∧ Below W.heap.size W w') from by
              have := norm_root W X n cx (negL zs) HNL.out HMX.out.2.2.2.2.2 h
              rw [HRN.out] at this
              exact this)
          have HRTa := Lib.hid (HRT1.out (n - k + k) (by omega))
          have HRTb := Lib.hid (HRT1.out n (by omega))
          clear HR HRN
          generalize rootL zs = r at HRT1 HRT2 HRT3 HRTa HRTb
          have r0 : (r == r) = true := beq_self_eq_true _
          go_region_held3 (fun _ : World => True) (first | exact trivial) (first
            | ((refine step_append_any (by rfl) _ _ _ (by rfl) w7.heap.size 3 i0 _ 1 8 Try.underlying22 HI.out HZ0.out HZ1.out HZ2.out rfl (by omega) w7.heap.size 0 0 [] (by rfl) HO8.out ⟨pa, oa + k, none⟩ (n - k) _ (icells (zs.drop k)) (by rfl) HLD.out (kin_src (kin_drop A8.out)) (all_one _) HMX.out.1 HMX.out.2.1 HB8.out.size ?_; intro g1 cap1 wz1 hown1 hgrow1; have B9 := Lib.hid (below1 (below_drewN HB8.out 1) rfl HO8.out hgrow1); have O9 := Lib.hid (own_nil HL1.out hown1); clear hown1 hgrow1))
            | ((refine step_append_any (by rfl) _ _ _ (by rfl) w7.heap.size 3 i0 _ 1 8 Try.underlying22 HI.out HZ0.out HZ1.out HZ2.out rfl (by omega) g1 (0 + (n - k)) cap1 (icells (zs.drop k)) (by rfl) (Own.at O9.out HL1.out) ⟨pa, oa, none⟩ k _ (icells (zs.take k)) (by rfl) HLT.out (kin_src (kin_take (A7.out.below B9.out (Nat.le_refl _)))) (all_one _) HMX.out.2.2.1 HMX.out.2.2.2.1 B9.out.size ?_; intro g2 cap2 wz2 hown2 hgrow2; have B10 := Lib.hid (below1 B9.out rfl O9.out hgrow2); have K10 := Lib.hid (Own.kin (own_two HL2.out hown2)); clear hown2 hgrow2))
            | (go_at_call 7; (with_reducible refine (HRTa.out _ _ _ K10.out).mono ?_); rintro e w9 ⟨rfl, b9⟩; have B11 := Lib.hid (B10.out.trans (b9.mono B10.out.size)); clear b9)
            | (go_at_call 7; (with_reducible refine (HRTb.out _ _ _ K10.out).mono ?_); rintro e w9 ⟨rfl, b9⟩; have B11 := Lib.hid (B10.out.trans (b9.mono B10.out.size)); clear b9)
            | (go_at_call 7; (with_reducible refine (HRT2.out _ (A7.out.below B11.out (Nat.le_refl _))).mono ?_); rintro e w10 ⟨rfl, b10⟩; have B12 := Lib.hid (B11.out.trans (b10.mono B11.out.size)); clear b10)
            | (go_at_call 7; (with_reducible refine (HRT3.out _ (D7.out.below B12.out (Nat.le_refl _))).mono ?_); rintro e w11 ⟨rfl, b11⟩; have B13 := Lib.hid (B12.out.trans (b11.mono B12.out.size)); clear b11)
            | (go_at_call 7; (with_reducible refine (HRT2.out _ (A7.out.below B13.out (Nat.le_refl _))).mono ?_); rintro e w12 ⟨rfl, b12⟩; have B14 := Lib.hid (B13.out.trans (b12.mono B13.out.size)); clear b12))
          go_wp2_with (fail)
          refine bodyPost_ret (results_tmp rfl _ _ _) rfl ?_
          exact ⟨rfl, B7.out.trans (B14.out.mono B7.out.size)⟩
theorem walk (w : World) (G : Option Addr) (m d : Nat) (gs : List Int) (A : Option Addr) (n c : Nat) (zs : List Int) (turn : Int) (hg : gs.length = m) (hz : zs.length = n) (hG : KIn .i64 w G gs) (hA : KIn .i64 w A zs) (hcap : n ≤ c) :
    Calls Try.prog 4 #[.slice G m d, .slice A n c, .int .i64 turn] w fun e w' => e = .returned (.bool true) ∧ Below w.heap.size w w' := by
  by_cases h : 40 < n ∨ m ≠ n ∨ n = 0
  · exact walk_out w G m d A n c turn h
  · obtain rfl : m = n := by omega
    exact walk_in w G d gs A m c zs turn hg hz hG hA (by omega) (by omega) hcap
end Go.Proofs.Ytgoeaepjffimgaa.normTurns
