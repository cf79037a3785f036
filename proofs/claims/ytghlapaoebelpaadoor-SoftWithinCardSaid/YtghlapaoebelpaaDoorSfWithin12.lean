/-
  Law 12's SoftWithin: it answers true, whatever the weights and rows are. Conditions: the numbers are there; the table lies where the program looks.
-/
import Derived.Test.YtghlapaoebelpaaDoorSfWiM12
import Derived.Test.YtghlapaoebelpaaDoorSfAwake12
import Derived.Deep.RegionHeld3
namespace Go.Proofs.YtghlapaoebelpaaDoor.softWithin
open Go.ChangeShapes Go.WideShapes Go.ChangeAt Go.RowKit Nm Vc Sf

set_option maxRecDepth 100000 in
set_option maxHeartbeats 800000 in
theorem walk_out (w : World) (A : Option Addr) (n c : Nat) (E : Option Addr) (q ce : Nat) (hp : POn w) (h : 10 < q ∨ q = 0 ∨ n ≠ q) :
    Calls Tryd.prog 6 #[.slice A n c, .slice E q ce] w fun e w' => e = .returned (.bool true) ∧ Below w.heap.size w w' := by
  have HP := Lib.hid hp
  clear hp
  by_cases h1 : 10 < q
  · have t0 : 10 < (q : Int) := by omega
    have t1 : decide (10 < (q : Int)) = true := decide_eq_true t0
    clear h
    go_enter Tryd.func6, Tryd.ntmps6
    go_wp2_with (fail)
    refine (awake12 _ HP.out).mono ?_
    rintro e w1 ⟨rfl, b1⟩
    have B1 := Lib.hid b1
    clear b1
    go_wp2_with (fail)
    refine bodyPost_ret (results_tmp rfl _ _ _) rfl ?_
    exact ⟨rfl, B1.out⟩
  by_cases h2 : q = 0
  · subst h2
    clear h h1
    go_enter Tryd.func6, Tryd.ntmps6
    go_wp2_with (fail)
    refine (awake12 _ HP.out).mono ?_
    rintro e w1 ⟨rfl, b1⟩
    have B1 := Lib.hid b1
    clear b1
    go_wp2_with (fail)
    refine bodyPost_ret (results_tmp rfl _ _ _) rfl ?_
    exact ⟨rfl, B1.out⟩
  have h3 : n ≠ q := by omega
  have t0 : ¬ 10 < (q : Int) := by omega
  have t1 : decide (10 < (q : Int)) = false := decide_eq_false t0
  have t2 : ((q : Int) == 0) = false := beq_eq_false_iff_ne.2 (by omega)
  have t3 : ((n : Int) != (q : Int)) = true := by
    rw [bne_iff_ne]
    omega
  clear h h1 h2 h3
  go_enter Tryd.func6, Tryd.ntmps6
  go_wp2_with (fail)
  refine (awake12 _ HP.out).mono ?_
  rintro e w1 ⟨rfl, b1⟩
  have B1 := Lib.hid b1
  clear b1
  go_wp2_with (fail)
  refine bodyPost_ret (results_tmp rfl _ _ _) rfl ?_
  exact ⟨rfl, B1.out⟩
set_option maxRecDepth 100000 in
set_option maxHeartbeats 6400000 in
theorem walk_in (w : World) (A : Option Addr) (n c : Nat) (zs : List Int) (E : Option Addr) (ce : Nat) (B : Nat → Option Addr) (C : Nat → Nat) (L : List (List Int)) (m : Nat) (hz : zs.length = n) (hA : KIn .i64 w A zs) (hL : L.length = n) (hE : LIn w E B C L) (hp : POn w) (h0 : 0 < n) (hn : n ≤ 10) (hm : (L.getD 0 []).length = m) :
    Calls Tryd.prog 6 #[.slice A n c, .slice E n ce] w fun e w' => e = .returned (.bool true) ∧ Below w.heap.size w w' := by
  have HA := Lib.hid hA
  have HP := Lib.hid hp
  have HZ := Lib.hid hz
  have HE := Lib.hid hE
  have HL := Lib.hid hL
  have HM := Lib.hid hm
  obtain ⟨i0, hi, hz0, hz1, hz2⟩ := info_parts info_int
  have HI := Lib.hid hi
  have HZ0 := Lib.hid hz0
  have HZ1 := Lib.hid hz1
  have HZ2 := Lib.hid hz2
  clear hi hz0 hz1 hz2 hA hp hz hL
  obtain ⟨pe, oe, rfl, hc0, _⟩ := hE.at (show 0 < L.length by rw [HL.out]; exact h0)
  rw [Nat.add_zero, hm] at hc0
  clear hE hm
  have t0 : ¬ 10 < (n : Int) := by omega
  have t1 : decide (10 < (n : Int)) = false := decide_eq_false t0
  have t2 : ((n : Int) == 0) = false := beq_eq_false_iff_ne.2 (by omega)
  have t3 : ((n : Int) != (n : Int)) = false := by simp
  have t6 : 0 < (n : Int) := by omega
  go_enter Tryd.func6, Tryd.ntmps6
  go_wp2_with (fail)
  refine (awake12 _ HP.out).mono ?_
  rintro e w1 ⟨rfl, b1⟩
  have B1 := Lib.hid b1
  have A1 := Lib.hid (HA.out.below b1 (Nat.le_refl _))
  have E1 := Lib.hid (HE.out.below b1 (Nat.le_refl _))
  have hc1 : w1.cell? ⟨pe, oe, none⟩ = some (.slice (B 0) m (C 0)) := (b1.cell (p := ⟨pe, oe, none⟩) (block_lt_of_cell hc0)).trans hc0
  clear b1 hc0 HA HE HP
  by_cases hm10 : 10 < m
  · have t4 : 10 < (m : Int) := by omega
    have t5 : decide (10 < (m : Int)) = true := decide_eq_true t4
    go_wp2_with (fail)
    refine bodyPost_ret (results_tmp rfl _ _ _) rfl ?_
    exact ⟨rfl, B1.out⟩
  have t4 : ¬ 10 < (m : Int) := by omega
  have t5 : decide (10 < (m : Int)) = false := decide_eq_false t4
  have hm2 : m ≤ 10 := by omega
  have HNM := Lib.hid (show n ≤ 10 ∧ 0 < n ∧ m ≤ 10 from ⟨hn, h0, hm2⟩)
  clear hm10
  have HO0 := Lib.hid (show Own (w1.alloc (.cells #[] 3)) w1.heap.size (.slice (some ⟨w1.heap.size, 0, none⟩) 0 0) ((dbl zs).take 0) from Own.new w1 w1.heap.size (Nat.le_refl _))
  have HB0 := Lib.hid ((Below.refl w1.heap.size w1).alloc (Nat.le_refl _) (.cells #[] 3))
  go_wp2_with (refine wpList_buildNone rfl 22 3 rfl i0 Tryd.underlying22 HI.out ?_)
  go_loopw [5, 6] (fun l i wr => ∃ (j : Nat) (G : Option Addr) (q : Nat), i = .int .i64 (j : Int) ∧ j ≤ n ∧ l = .slice G j q ∧ Own wr w1.heap.size l ((dbl zs).take j) ∧ Below w1.heap.size w1 wr ∧ okTo 32768 zs j ∧ evenTo L j ∧ actTo L m j) (fun _ i _ => match i with | .int _ k => n - k.toNat | _ => 0)
  case atStart => exact ⟨0, _, 0, rfl, Nat.zero_le _, rfl, HO0.out, HB0.out, fun i hi => absurd hi (by omega), fun i hi => absurd hi (by omega), fun i hi => absurd hi (by omega)⟩
  case round =>
    clear HO0 HB0 t0 t1 t2 t3 t4 t5
    obtain ⟨j, G, cg, rfl, hj, rfl, ho, hb, hok, hev, hac⟩ := hrel
    have HO := Lib.hid ho
    have HB := Lib.hid hb
    have HOK := Lib.hid hok
    have HEV := Lib.hid hev
    have HAC := Lib.hid hac
    clear ho hb hok hev hac
    have x2 : 0 ≤ (j : Int) := by omega
    by_cases hlt : j < n
    · have x0 : (j : Int) < (n : Int) := by omega
      have x1 : decide ((j : Int) < (n : Int)) = true := decide_eq_true x0
      have HJ := Lib.hid (show j + 1 ≤ n by omega)
      have hl : j < zs.length := by rw [HZ.out]; exact hlt
      have E2 := Lib.hid (E1.out.below HB.out (Nat.le_refl _))
      have hc2 : wr.cell? ⟨pe, oe, none⟩ = some (.slice (B 0) m (C 0)) := (HB.out.cell (p := ⟨pe, oe, none⟩) (block_lt_of_cell hc1)).trans hc1
      obtain ⟨pa, oa, rfl, hc⟩ := (A1.out.below HB.out (Nat.le_refl _)).at hl
      obtain ⟨_, _, e2, hcl, hkj⟩ := E2.out.at (show j < L.length by rw [HL.out]; exact hlt)
      injection e2 with e2
      injection e2 with e2 e3 _
      subst e2 e3
      generalize wr = wo at HO HB E2 hc2 hc hcl hkj ⊢
      by_cases h1 : (L.getD j []).length = m
      · have u0 : ((m : Int) != (m : Int)) = false := by simp
        have HEN := Lib.hid (show evenTo L (j + 1) from fun i hi => by
          by_cases h : i = j
          · rw [h, h1, HM.out]
          · exact HEV.out i (by omega))
        rw [h1] at hcl
        by_cases h2 : zs.getD j 0 < 0
        · have u1 : decide (zs.getD j 0 < 0) = true := decide_eq_true h2
          clear h1 hkj hl
          generalize zs.getD j 0 = z at hc u1
          go_wp2_with (fail)
          go_quiet (fail)
          go_wp2_with (fail)
          refine bodyPost_ret (results_tmp rfl _ _ _) rfl ?_
          exact ⟨rfl, below_drewN (B1.out.trans (HB.out.mono B1.out.size)) _⟩
        have u1 : decide (zs.getD j 0 < 0) = false := decide_eq_false h2
        by_cases h3 : 32768 < zs.getD j 0
        · have u2 : decide (32768 < zs.getD j 0) = true := decide_eq_true h3
          clear h1 hkj hl
          generalize zs.getD j 0 = z at hc u1 u2
          go_wp2_with (fail)
          go_quiet (fail)
          go_wp2_with (fail)
          refine bodyPost_ret (results_tmp rfl _ _ _) rfl ?_
          exact ⟨rfl, below_drewN (B1.out.trans (HB.out.mono B1.out.size)) _⟩
        have u2 : decide (32768 < zs.getD j 0) = false := decide_eq_false h3
        have HON := Lib.hid (okTo_next HOK.out h2 h3)
        have HRN := Lib.hid (take_more (dbl zs) j (by rw [dbl_length]; exact hl))
        have HDZ := Lib.hid (dbl_at zs j hl)
        have HOL := Lib.hid (show ((dbl zs).take j).length = j by rw [List.length_take, dbl_length, HZ.out]; omega)
        have HMJ := Lib.hid (app_small HJ.out (show n ≤ 4096 by omega))
        have W1 := Lib.hid (show wrap64 (2 * zs.getD j 0) = 2 * zs.getD j 0 from IntWalk.wrap64_in _ (by omega))
        have HAN := Lib.hid (fun h => actTo_next (j := j) HAC.out h)
        clear h2 h3 hl
        generalize zs.getD j 0 = z at hc u1 u2 HDZ W1
        go_wp2_with (fail)
        go_quiet (fail)
        generalize hwd : wo.drewN _ = wd
        have hO : Own wd w1.heap.size (.slice G j cg) ((dbl zs).take j) := hwd ▸ HO.out
        have hB : Below w1.heap.size w1 wd := hwd ▸ below_drewN HB.out _
        have hcz : wd.cell? ⟨pa, oa + j, none⟩ = some (.int .i64 z) := hwd ▸ hc
        have HO4 := Lib.hid hO
        have HB4 := Lib.hid hB
        have HW4 := Lib.hid (Own.at hO HOL.out)
        clear hwd hO hB hc hcl hkj hc2 E2 HO HB h1
        go_wp2_with (at_builtin; refine wpList_append_lies _ rfl (.tmp 68) (.tmp 74) 22 rfl w1.heap.size 3 i0 _ 1 8 Tryd.underlying22 HI.out HZ0.out HZ1.out HZ2.out rfl Nat.one_pos (.slice G j cg) j _ rfl (HW4.out.alloc _) ⟨wd.heap.size, 0, none⟩ 1 1 [.int .i64 (wrap64 (2 * z))] rfl rfl (one_src wd _) (one_one _) Nat.one_pos HMJ.out.1 HMJ.out.2 (base_le HB4.out rfl _) _ rfl ?_; intro gg cap wz hownz hgrow hat hltz)
        have HON2 := Lib.hid (Own.grew HOL.out hownz)
        have HBN := Lib.hid (below_grew HB4.out rfl HO4.out _ hgrow)
        rw [W1.out, ← HDZ.out, ← HRN.out] at HON2
        clear hownz hgrow hat hltz hcz HO4 HB4 HW4
        have E3 := Lib.hid (E1.out.below HBN.out (Nat.le_refl _))
        obtain ⟨_, _, e2, hcl, hkj⟩ := E3.out.at (show j < L.length by rw [HL.out]; exact hlt)
        injection e2 with e2
        injection e2 with e2 e3 _
        subst e2 e3
        rw [HEN.out j (Nat.lt_succ_self j), HM.out] at hcl
        have hrow : (L.getD j []).length = m := (HEN.out j (Nat.lt_succ_self j)).trans HM.out
        have HKJ := Lib.hid hkj
        have HROW := Lib.hid hrow
        clear hkj hrow E3
        go_loopw [7] (fun i wr => ∃ k : Nat, i = .int .i64 (k : Int) ∧ k ≤ m ∧ wz = wr ∧ ∀ i, i < k → -32767 ≤ (L.getD j []).getD i 0 ∧ (L.getD j []).getD i 0 ≤ 32767) (fun i _ => match i with | .int _ k => m - k.toNat | _ => 0)
        case atStart => exact ⟨0, rfl, Nat.zero_le _, rfl, fun i hi => absurd hi (by omega)⟩
        case round =>
          obtain ⟨k, rfl, hk, rfl, hs⟩ := hrel
          have HS := Lib.hid hs
          clear hs
          have y2 : 0 ≤ (k : Int) := by omega
          by_cases hkm : k < m
          · have y0 : (k : Int) < (m : Int) := by omega
            have y1 : decide ((k : Int) < (m : Int)) = true := decide_eq_true y0
            have HK := Lib.hid (show k + 1 ≤ m by omega)
            obtain ⟨px, ox, e, hx⟩ := HKJ.out.at (show k < (L.getD j []).length by rw [HROW.out]; exact hkm)
            rw [e] at hcl
            have HSN := Lib.hid (fun (h : -32767 ≤ (L.getD j []).getD k 0 ∧ (L.getD j []).getD k 0 ≤ 32767) => show ∀ i, i < k + 1 → -32767 ≤ (L.getD j []).getD i 0 ∧ (L.getD j []).getD i 0 ≤ 32767 from fun i hi => by
              by_cases q : i = k
              · rw [q]; exact h
              · exact HS.out i (by omega))
            clear HS e
            generalize (L.getD j []).getD k 0 = x at hx HSN
            by_cases h4 : 32767 < x
            · have u3 : decide (32767 < x) = true := decide_eq_true h4
              go_wp2_with (fail)
              refine bodyPost_ret (results_tmp rfl _ _ _) rfl ?_
              exact ⟨rfl, B1.out.trans (HBN.out.mono B1.out.size)⟩
            have u3 : decide (32767 < x) = false := decide_eq_false h4
            by_cases h5 : x < -32767
            · have u4 : decide (x < -32767) = true := decide_eq_true h5
              go_wp2_with (fail)
              refine bodyPost_ret (results_tmp rfl _ _ _) rfl ?_
              exact ⟨rfl, B1.out.trans (HBN.out.mono B1.out.size)⟩
            have u4 : decide (x < -32767) = false := decide_eq_false h5
            have HSX := Lib.hid (HSN.out (by omega))
            clear HSN h4 h5
            have x3 := IntWalk.wrap64_in ((k : Int) + 1) (by omega)
            go_wp2_with (fail)
            exact ⟨⟨k + 1, rfl, HK.out, by trivial, HSX.out⟩, vc_less k m hkm⟩
          · have hke : m = k := by omega
            have y0 : ¬ (k : Int) < (m : Int) := by omega
            have y1 : decide ((k : Int) < (m : Int)) = false := decide_eq_false y0
            have HAA := Lib.hid (HAN.out (by rw [hke]; exact HS.out))
            have x3 := IntWalk.wrap64_in ((j : Int) + 1) (by omega)
            clear HAN HS hke hkm
            go_wp2_with (fail)
            exact ⟨⟨j + 1, _, cap, rfl, HJ.out, rfl, HON2.out, HBN.out, HON.out, HEN.out, HAA.out⟩, vc_less j n hlt⟩
      · have u0 : (((L.getD j []).length : Int) != (m : Int)) = true := by
          rw [bne_iff_ne]
          omega
        generalize (L.getD j []).length = l at hcl u0
        generalize zs.getD j 0 = z at hc
        clear h1 hl
        go_wp2_with (fail)
        go_quiet (fail)
        go_wp2_with (fail)
        refine bodyPost_ret (results_tmp rfl _ _ _) rfl ?_
        exact ⟨rfl, below_drewN (B1.out.trans (HB.out.mono B1.out.size)) _⟩
    · have hke : n = j := by omega
      have x0 : ¬ (j : Int) < (n : Int) := by omega
      have x1 : decide ((j : Int) < (n : Int)) = false := decide_eq_false x0
      subst hke
      have HT : (dbl zs).take n = dbl zs := List.take_of_length_le (by rw [dbl_length, HZ.out]; exact Nat.le_refl _)
      rw [HT] at HO
      have hW : InW 32768 zs := by
        have := HOK.out
        rw [← HZ.out] at this
        exact this
      have hmr : ∀ i, i < n → (L.getD i []).length = m := fun i hi => (HEV.out i hi).trans HM.out
      obtain ⟨l, hl, hlm, hwi⟩ := within_all HZ.out HL.out h0 HM.out HAC.out
      have A3 := Lib.hid (A1.out.below HB.out (Nat.le_refl _))
      have E3 := Lib.hid (E1.out.below HB.out (Nat.le_refl _))
      have D3 := Lib.hid (Own.kin HO.out)
      have B3 := Lib.hid (B1.out.trans (HB.out.mono B1.out.size))
      clear HT HO HB A1 E1 B1 HOK hc1
      generalize wr = wo at A3 E3 D3 B3 ⊢
      have HM0 := Lib.hid (soft_mix wo A c zs _ ce B C L n n HZ.out (by omega) HL.out (by omega) A3.out E3.out (fun i hi => by rw [hmr i hi]; omega))
      have HM1 := Lib.hid (fun W (hB : Below wo.heap.size wo W) cg (hD : KIn .i64 W G (dbl zs)) => mix_twice W G cg zs _ ce B C L n m l HZ.out hn HL.out hW hD (E3.out.below hB (Nat.le_refl _)) hmr hm2 hl)
      have HWI := Lib.hid hwi
      have HLM := Lib.hid hlm
      have HACM := Lib.hid HAC.out
      have HMR := Lib.hid hmr
      have HR0 := Lib.hid (hmr 0 h0)
      have HA0 := Lib.hid (HAC.out 0 h0)
      obtain ⟨_, _, e2, hc3, hk3⟩ := E3.out.at (show 0 < L.length by rw [HL.out]; exact h0)
      injection e2 with e2
      injection e2 with e2 e3 _
      subst e2 e3
      rw [Nat.add_zero, hmr 0 h0] at hc3
      have K3 := Lib.hid hk3
      have HL0 := Lib.hid hl
      clear hwi hlm hW hmr HAC HEV hk3 hl
      generalize mixR zs L = R at HM0 HM1 HWI HL0
      go_wp2_with (fail)
      refine HM0.out.mono ?_
      rintro e w2 ⟨M, cm, rfl, km, b2⟩
      rw [HL0.out]
      have B2 := Lib.hid b2
      have KM := Lib.hid km
      have D2 := Lib.hid (D3.out.below b2 (Nat.le_refl _))
      have K2 := Lib.hid (K3.out.below b2 (Nat.le_refl _))
      have hc2 : w2.cell? ⟨pe, oe, none⟩ = some (.slice (B 0) m (C 0)) := (b2.cell (p := ⟨pe, oe, none⟩) (block_lt_of_cell hc3)).trans hc3
      have E2 := Lib.hid (E3.out.below b2 (Nat.le_refl _))
      have BW := Lib.hid (B3.out.trans (b2.mono B3.out.size))
      clear b2 km hc3 K3 D3 HM0 A3
      have HK := Lib.hid (fun W (h : Below w2.heap.size w2 W) => (h.cell (p := ⟨pe, oe, none⟩) (block_lt_of_cell hc2)).trans hc2)
      have HX1 := Lib.hid (fun W (h : Below w2.heap.size w2 W) => HM1.out W (B2.out.trans (h.mono B2.out.size)) cg (D2.out.below h (Nat.le_refl _)))
      have HI1 := Lib.hid (fun W (h : Below w2.heap.size w2 W) X cx (hX : KIn .i64 W X R) => ints_same W M l cm X cx R HL0.out (Nat.le_trans HLM.out (by omega)) (KM.out.below h (Nat.le_refl _)) hX)
      have HX2 := Lib.hid (fun W (h : Below w2.heap.size w2 W) => mix_alone W W.heap.size rfl (B 0) (C 0) (L.getD 0 []) m HR0.out hm2 (K2.out.below h (Nat.le_refl _)) HA0.out)
      have HX3 := Lib.hid (fun W (h : Below w2.heap.size w2 W) => mix_alone2 W W.heap.size rfl (B 0) (C 0) (L.getD 0 []) m HR0.out hm2 (K2.out.below h (Nat.le_refl _)) HA0.out)
      have HI2 := Lib.hid (fun W (h : Below w2.heap.size w2 W) X cx (hX : KIn .i64 W X (L.getD 0 [])) => ints_same W X m cx (B 0) (C 0) (L.getD 0 []) HR0.out (by omega) hX (K2.out.below h (Nat.le_refl _)))
      have B4 := Lib.hid (show Below w2.heap.size w2 w2.drew from below_drewN (Below.refl _ _) 1)
      have k0 := HK.out _ B4.out
      clear HM1 HR0 HA0
      go_wp2_with (fail)
      go_region_held3 (fun W : World => W.cell? ⟨pe, oe, none⟩ = some (.slice (B 0) m (C 0))) (first | exact k0 | assumption | exact HK.out _ (B6.out.alloc B6.out.size _) | exact HK.out _ ((B6.out.alloc B6.out.size _).alloc (base_le B6.out rfl _) _)) (first
        | (go_at_call 18; (with_reducible refine (HX1.out _ B4.out).mono ?_); rintro e w5 ⟨X, cx, rfl, kx, b5⟩; have B5 := Lib.hid (B4.out.trans (b5.mono B4.out.size)); have hs5 := HK.out _ B5.out; have KX := Lib.hid kx; clear kx b5)
        | (go_at_call 11; (with_reducible refine (HI1.out _ B5.out _ _ KX.out).mono ?_); rintro e w6 ⟨rfl, d6, hw6⟩; have B6 := Lib.hid (show Below w2.heap.size w2 w6 from hw6 ▸ below_drewN B5.out d6); have hs6 := HK.out _ B6.out; clear hw6)
        | (go_at_call 18; (with_reducible refine (HX2.out _ B6.out).mono ?_); rintro e w7 ⟨Y, cy, rfl, ky, b7⟩; have B7 := Lib.hid (B6.out.trans (b7.mono B6.out.size)); have hs7 := HK.out _ B7.out; have KY := Lib.hid ky; clear ky b7)
        | (go_at_call 18; (with_reducible refine (HX3.out _ B6.out).mono ?_); rintro e w7 ⟨Y, cy, rfl, ky, b7⟩; have B7 := Lib.hid (B6.out.trans (b7.mono B6.out.size)); have hs7 := HK.out _ B7.out; have KY := Lib.hid ky; clear ky b7)
        | (go_at_call 11; (with_reducible refine (HI2.out _ B7.out _ _ KY.out).mono ?_); rintro e w8 ⟨rfl, d8, hw8⟩; have B8 := Lib.hid (show Below w2.heap.size w2 w8 from hw8 ▸ below_drewN B7.out d8); have hs8 := HK.out _ B8.out; clear hw8))
      all_goals (
        rename_i hHeld
        clear hHeld
        have K8 := Lib.hid (KM.out.below B8.out (Nat.le_refl _))
        have E8 := Lib.hid (E2.out.below B8.out (Nat.le_refl _))
        have B9 := Lib.hid (BW.out.trans (B8.out.mono BW.out.size))
        clear KM E2 BW B8 B7 KY B6 KX B5 B4 k0 hs5 hs6 hs7 hs8 HX1 HX2 HX3 HI1 HI2 HK D2 K2 hc2 B2 B3 E3 x0 x1 hj hlt x2
        go_wp2_with (fail)
        go_loopw [9] (fun i wr => ∃ k : Nat, i = .int .i64 (k : Int) ∧ k ≤ l ∧ w8 = wr) (fun i _ => match i with | .int _ k => l - k.toNat | _ => 0)
        case atStart => exact ⟨0, rfl, Nat.zero_le _, rfl⟩
        case round =>
          obtain ⟨k, rfl, hk, rfl⟩ := hrel
          have x2 : 0 ≤ (k : Int) := by omega
          by_cases hkl : k < l
          · have x0 : (k : Int) < (l : Int) := by omega
            have x1 : decide ((k : Int) < (l : Int)) = true := decide_eq_true x0
            have hkm : k < m := Nat.lt_of_lt_of_le hkl HLM.out
            have y0 : (k : Int) < (m : Int) := by omega
            have HJ := Lib.hid (show k + 1 ≤ l by omega)
            obtain ⟨pm, om, rfl, hcm⟩ := K8.out.at (show k < R.length by rw [HL0.out]; exact hkl)
            have hwk := HWI.out k hkl
            generalize R.getD k 0 = y at hcm hwk
            obtain ⟨_, _, e2, hc0, hk0⟩ := E8.out.at (show 0 < L.length by rw [HL.out]; exact h0)
            injection e2 with e2
            injection e2 with e2 e3 _
            subst e2 e3
            obtain ⟨px, ox, e, hx0⟩ := hk0.at (show k < (L.getD 0 []).length by rw [HM.out]; exact hkm)
            rw [Nat.add_zero, HM.out, e] at hc0
            have HLO := Lib.hid (show lowK L k 0 = (L.getD 0 []).getD k 0 from rfl)
            have HHI := Lib.hid (show topK L k 0 = (L.getD 0 []).getD k 0 from rfl)
            have HWK := Lib.hid hwk
            clear hk0 e hwk
            generalize (L.getD 0 []).getD k 0 = x at hx0 HLO HHI
            go_wp2_with (fail)
            go_loopw [10, 11, 12] (fun lo hi i wr => ∃ j : Nat, i = .int .i64 (j : Int) ∧ j ≤ n ∧ lo = .int .i64 (lowK L k j) ∧ hi = .int .i64 (topK L k j) ∧ w8 = wr) (fun _ _ i _ => match i with | .int _ k => n - k.toNat | _ => 0)
            case atStart => exact ⟨0, rfl, Nat.zero_le _, by rw [HLO.out], by rw [HHI.out], rfl⟩
            case round =>
              clear HLO HHI
              obtain ⟨j, rfl, hj, rfl, rfl, rfl⟩ := hrel
              have z2 : 0 ≤ (j : Int) := by omega
              by_cases hjn : j < n
              · have z0 : (j : Int) < (n : Int) := by omega
                have z1 : decide ((j : Int) < (n : Int)) = true := decide_eq_true z0
                have HJN := Lib.hid (show j + 1 ≤ n by omega)
                obtain ⟨_, _, e2, hcj, hkj⟩ := E8.out.at (show j < L.length by rw [HL.out]; exact hjn)
                injection e2 with e2
                injection e2 with e2 e3 _
                subst e2 e3
                obtain ⟨pj, oj, e, hxj⟩ := hkj.at (show k < (L.getD j []).length by rw [HMR.out j hjn]; exact hkm)
                rw [HMR.out j hjn, e] at hcj
                have HLN := Lib.hid (lowK_next L k j)
                have HTN := Lib.hid (topK_next L k j)
                clear hkj e
                generalize (L.getD j []).getD k 0 = xj at hxj HLN HTN
                generalize lowK L k j = lo at HLN ⊢
                generalize topK L k j = hi at HTN ⊢
                have x3 := IntWalk.wrap64_in ((j : Int) + 1) (by omega)
                go_wp2_with (fail)
                exact ⟨⟨j + 1, rfl, HJN.out, by rw [HLN.out, ite_min], by rw [HTN.out, ite_max], by trivial⟩, vc_less j n hjn⟩
              · have hke : j = n := by omega
                have z0 : ¬ (j : Int) < (n : Int) := by omega
                have z1 : decide ((j : Int) < (n : Int)) = false := decide_eq_false z0
                rw [hke]
                have v1 : decide (y < lowK L k n) = false := decide_eq_false (by have := HWK.out; omega)
                have v2 : decide (topK L k n < y) = false := decide_eq_false (by have := HWK.out; omega)
                generalize lowK L k n = lo at v1 ⊢
                generalize topK L k n = hi at v2 ⊢
                have x3 := IntWalk.wrap64_in ((k : Int) + 1) (by omega)
                go_wp2_with (fail)
                exact ⟨⟨k + 1, rfl, HJ.out, by trivial⟩, vc_less k l hkl⟩
          · have hke : k = l := by omega
            have x0 : ¬ (k : Int) < (l : Int) := by omega
            have x1 : decide ((k : Int) < (l : Int)) = false := decide_eq_false x0
            go_wp2_with (fail)
            refine bodyPost_ret (results_tmp rfl _ _ _) rfl ?_
            exact ⟨rfl, B9.out⟩)
theorem walk (w : World) (A : Option Addr) (n c : Nat) (zs : List Int) (E : Option Addr) (q ce : Nat) (B : Nat → Option Addr) (C : Nat → Nat) (L : List (List Int)) (hz : zs.length = n) (hA : KIn .i64 w A zs) (hL : L.length = q) (hE : LIn w E B C L) (hp : POn w) :
    Calls Tryd.prog 6 #[.slice A n c, .slice E q ce] w fun e w' => e = .returned (.bool true) ∧ Below w.heap.size w w' := by
  by_cases h : 10 < q ∨ q = 0 ∨ n ≠ q
  · exact walk_out w A n c E q ce hp h
  · obtain rfl : n = q := by omega
    exact walk_in w A n c zs E ce B C L _ hz hA hL hE hp (by omega) (by omega) rfl
end Go.Proofs.YtghlapaoebelpaaDoor.softWithin
