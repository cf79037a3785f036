/-
  Law 11's VecsLinear: it answers true, whatever the table and the rows are. No conditions but that the numbers are there.
-/
import Derived.Test.YtclobdeaocjnoaaVcAwake11
import Derived.Test.YtclobdeaocjnoaaVcLin
namespace Go.Proofs.Ytclobdeaocjnoaa.vecsLinear
open Go.ChangeShapes Go.WideShapes Go.ChangeAt Go.RowKit Nm Vc

theorem small7 {x : Int} : ¬ 7 < x → ¬ x < -7 → -7 ≤ x ∧ x ≤ 7 := fun h1 h2 => by omega
theorem plus2 (w : World) (b : Nat) (hb : w.heap.size = b) (V U : Option Addr) (cv cu q : Nat) (l1 l2 R : List Int) (h1 : l1.length = q) (h2 : l2.length = q) (hq : q ≤ 4096) (hV : KIn .i64 w V l1) (hU : KIn .i64 w U l2) (hR : plusL [l1, l2] q = R) (hl : R.length = q) :
    Calls Try.prog 17 #[.slice (some ⟨b, 0, none⟩) 2 2] (w.alloc (.cells #[.slice V q cv, .slice U q cu] 30)) fun e w' => ∃ A c, e = .returned (.tuple #[.slice A q c, .int .i64 0]) ∧ KIn .i64 w' A R ∧ Below w.heap.size w w' := by
  have he : evenTo [l1, l2] 2 := even2 (h2.trans h1.symm)
  have := vecs_plus (w.alloc (.cells #[.slice V q cv, .slice U q cu] 30)) (some ⟨b, 0, none⟩) 2 (two V U) (two cv cu) [l1, l2] 2 q h1 rfl (by omega) (by omega) hq (lin2 b hb h1 h2 hV hU) he
  rw [hR] at this
  refine this.mono ?_
  rintro e w' ⟨A, c, rfl, hk, hb'⟩
  rw [hl]
  have b0 := (Below.refl w.heap.size w).alloc (Nat.le_refl _) (.cells #[.slice V q cv, .slice U q cu] 30)
  exact ⟨A, c, rfl, hk, b0.trans (hb'.mono b0.size)⟩
set_option maxRecDepth 100000 in
set_option maxHeartbeats 6400000 in
theorem walk (w : World) (x y : Int) (A : Option Addr) (n c : Nat) (D : List Int) (V : Option Addr) (m cv : Nat) (zs : List Int) (U : Option Addr) (k cu : Nat) (us : List Int)
    (hD : D.length = n) (hA : KIn .i8 w A D) (hI : I8 D) (hz : zs.length = m) (hV : KIn .i64 w V zs) (hu : us.length = k) (hU : KIn .i64 w U us) :
    Calls Try.prog 5 #[tbV x y A n c, .slice V m cv, .slice U k cu] w fun e w' => e = .returned (.bool true) ∧ Below w.heap.size w w' := by
  have HA0 := Lib.hid (Tb.new (Below.refl w.heap.size w) hA x y n c)
  have HDL := Lib.hid hD
  have HI8 := Lib.hid hI
  have HZ := Lib.hid hz
  have HU := Lib.hid hu
  have HV := Lib.hid hV
  have HW := Lib.hid hU
  have HGD := Lib.hid (fun W => vecs_good x y A n c W)
  clear hA hD hI hz hV hu hU
  unfold tbV tbA at HGD ⊢
  generalize hgd : goodB x y n = gd at HGD
  have HGE := Lib.hid hgd
  clear hgd
  go_enter Try.func5, Try.ntmps5
  go_wp2_with (fail)
  refine (awake11 _).mono ?_
  rintro e w1 ⟨rfl, b1⟩
  have HT1 := Lib.hid (HA0.out.step b1)
  clear HA0 b1
  have d0 := tb0 HT1.out.blk
  have d1 := tb1 HT1.out.blk
  have d2 := tb2 HT1.out.blk
  go_wp2_with (fail)
  refine (HGD.out w1).mono ?_
  rintro e w2 ⟨rfl, b2⟩
  have HT2 := Lib.hid (HT1.out.step b2)
  clear b2 HT1 d0 d1 d2 HGD
  have d1 := tb1 HT2.out.blk
  cases gd with
  | false =>
    go_wp2_with (fail)
    refine bodyPost_ret (results_tmp rfl _ _ _) rfl ?_
    exact ⟨rfl, HT2.out.below⟩
  | true =>
    have hg := HGE.out
    clear HGE
    by_cases hm : (m : Int) = y
    · have t1 : ((m : Int) == y) = true := beq_iff_eq.2 hm
      by_cases hk : (k : Int) = y
      · have t2 : ((k : Int) == y) = true := beq_iff_eq.2 hk
        subst hm
        obtain rfl : k = m := by omega
        clear hk t1
        by_cases hy : (16 : Int) < (k : Int)
        · have t3 : decide ((16 : Int) < (k : Int)) = true := decide_eq_true hy
          go_wp2_with (fail)
          refine bodyPost_ret (results_tmp rfl _ _ _) rfl ?_
          exact ⟨rfl, HT2.out.below⟩
        · have t3 : decide ((16 : Int) < (k : Int)) = false := decide_eq_false hy
          obtain ⟨rx, rfl⟩ : ∃ rx : Nat, x = (rx : Int) := ⟨x.toNat, by have := (goodB_iff.1 hg).1; omega⟩
          have hm1 : k ≤ 16 := by omega
          have hx1 : rx ≤ 64 := by have := (goodB_iff.1 hg).1; omega
          have HG := Lib.hid hg
          clear hg
          go_wp2_with (fail)
          go_loopw [7] (fun i wr => ∃ j : Nat, i = .int .i64 (j : Int) ∧ j ≤ k ∧ w2 = wr ∧ ∀ i, i < j → (-7 ≤ zs.getD i 0 ∧ zs.getD i 0 ≤ 7) ∧ (-7 ≤ us.getD i 0 ∧ us.getD i 0 ≤ 7)) (fun i _ => match i with | .int _ j => k - j.toNat | _ => 0)
          case atStart => exact ⟨0, rfl, Nat.zero_le _, rfl, fun i hi => absurd hi (by omega)⟩
          case round =>
            obtain ⟨j, rfl, hj, rfl, hs⟩ := hrel
            have HS := Lib.hid hs
            clear hs
            have x2 : 0 ≤ (j : Int) := by omega
            by_cases hlt : j < k
            · have x0 : (j : Int) < (k : Int) := by omega
              have x1 : decide ((j : Int) < (k : Int)) = true := decide_eq_true x0
              have HJ := Lib.hid (show j + 1 ≤ k by omega)
              obtain ⟨pa, oa, rfl, hc1⟩ := (HV.out.below HT2.out.below (Nat.le_refl _)).at (show j < zs.length by rw [HZ.out]; exact hlt)
              obtain ⟨pb, ob, rfl, hc2⟩ := (HW.out.below HT2.out.below (Nat.le_refl _)).at (show j < us.length by rw [HU.out]; exact hlt)
              have HSN := Lib.hid (fun (h1 : -7 ≤ zs.getD j 0 ∧ zs.getD j 0 ≤ 7) (h2 : -7 ≤ us.getD j 0 ∧ us.getD j 0 ≤ 7) => show ∀ i, i < j + 1 → (-7 ≤ zs.getD i 0 ∧ zs.getD i 0 ≤ 7) ∧ (-7 ≤ us.getD i 0 ∧ us.getD i 0 ≤ 7) from fun i hi => by
                by_cases h : i = j
                · rw [h]; exact ⟨h1, h2⟩
                · exact HS.out i (by omega))
              clear HS
              generalize hzj : zs.getD j 0 = z1 at hc1 HSN
              generalize huj : us.getD j 0 = z2 at hc2 HSN
              clear hzj huj
              by_cases u1 : 7 < z1
              · have v1 : decide (7 < z1) = true := decide_eq_true u1
                go_wp2_with (fail)
                refine bodyPost_ret (results_tmp rfl _ _ _) rfl ?_
                exact ⟨rfl, HT2.out.below⟩
              have v1 : decide (7 < z1) = false := decide_eq_false u1
              by_cases u2 : z1 < -7
              · have v2 : decide (z1 < -7) = true := decide_eq_true u2
                go_wp2_with (fail)
                refine bodyPost_ret (results_tmp rfl _ _ _) rfl ?_
                exact ⟨rfl, HT2.out.below⟩
              have v2 : decide (z1 < -7) = false := decide_eq_false u2
              by_cases u3 : 7 < z2
              · have v3 : decide (7 < z2) = true := decide_eq_true u3
                go_wp2_with (fail)
                refine bodyPost_ret (results_tmp rfl _ _ _) rfl ?_
                exact ⟨rfl, HT2.out.below⟩
              have v3 : decide (7 < z2) = false := decide_eq_false u3
              by_cases u4 : z2 < -7
              · have v4 : decide (z2 < -7) = true := decide_eq_true u4
                go_wp2_with (fail)
                refine bodyPost_ret (results_tmp rfl _ _ _) rfl ?_
                exact ⟨rfl, HT2.out.below⟩
              have v4 : decide (z2 < -7) = false := decide_eq_false u4
              have HSM := Lib.hid (HSN.out (small7 u1 u2) (small7 u3 u4))
              clear HSN
              have x3 := IntWalk.wrap64_in ((j : Int) + 1) (by omega)
              go_wp2_with (fail)
              exact ⟨⟨j + 1, rfl, HJ.out, by trivial, HSM.out⟩, vc_less j k hlt⟩
            · have hke : j = k := by omega
              have x0 : ¬ (j : Int) < (k : Int) := by omega
              have x1 : decide ((j : Int) < (k : Int)) = false := decide_eq_false x0
              rw [hke] at HS
              clear hke hlt hj x2
              have sz : Small zs := fun i hi => (HS.out i (by rw [HZ.out] at hi; exact hi)).1
              have su : Small us := fun i hi => (HS.out i (by rw [HU.out] at hi; exact hi)).2
              have HLI := Lib.hid (linear HI8.out rx hm1 HZ.out HU.out sz su)
              have HTM := Lib.hid (fun W a ca V cv (l : List Int) (hl : l.length = k) (h : KIn .i8 W a D) (hv : KIn .i64 W V l) => table_times W rx k 0 a n ca D V cv l HG.out HDL.out h HI8.out hl hv)
              have HPL := Lib.hid (plusL_length [zs, us] k)
              have HTL := Lib.hid (timesL_length D rx k)
              clear HS sz su
              generalize hps : plusL [zs, us] k = ss at HLI HPL
              have HPS := Lib.hid hps
              clear hps
              generalize htx : timesL D rx k = tx at HLI HTM HTL
              clear htx
              unfold tbV tbA at HTM
              have HV2 := Lib.hid (HV.out.below HT2.out.below (Nat.le_refl _))
              have HW2 := Lib.hid (HW.out.below HT2.out.below (Nat.le_refl _))
              go_wp2_with (fail)
              refine (plus2 w2 _ rfl V U cv cu k zs us ss HZ.out HU.out (Nat.le_trans hm1 (by omega)) HV2.out HW2.out HPS.out HPL.out).mono ?_
              rintro e w3 ⟨S, cs, rfl, ks, b3⟩
              have HT3 := Lib.hid (HT2.out.step b3)
              have HV3 := Lib.hid (HV2.out.below b3 (Nat.le_refl _))
              have HW3 := Lib.hid (HW2.out.below b3 (Nat.le_refl _))
              have KS3 := Lib.hid ks
              clear b3 ks HT2 HV2 HW2 d1
              have d0 := tb0 HT3.out.blk
              have d1 := tb1 HT3.out.blk
              have d2 := tb2 HT3.out.blk
              go_wp2_with (fail)
              refine (HTM.out w3 A c V cv zs HZ.out HT3.out.nums HV3.out).mono ?_
              rintro e w4 ⟨X, cx, rfl, kx, b4⟩
              rw [HTL.out]
              have HT4 := Lib.hid (HT3.out.step b4)
              have HW4 := Lib.hid (HW3.out.below b4 (Nat.le_refl _))
              have KS4 := Lib.hid (KS3.out.below b4 (Nat.le_refl _))
              have KX4 := Lib.hid kx
              clear b4 kx HT3 HV3 HW3 KS3 d0 d1 d2
              have d0 := tb0 HT4.out.blk
              have d1 := tb1 HT4.out.blk
              have d2 := tb2 HT4.out.blk
              go_wp2_with (fail)
              refine (HTM.out w4 A c U cu us HU.out HT4.out.nums HW4.out).mono ?_
              rintro e w5 ⟨Y, cy, rfl, ky, b5⟩
              rw [HTL.out]
              have HT5 := Lib.hid (HT4.out.step b5)
              have KS5 := Lib.hid (KS4.out.below b5 (Nat.le_refl _))
              have KX5 := Lib.hid (KX4.out.below b5 (Nat.le_refl _))
              have KY5 := Lib.hid ky
              clear b5 ky HT4 HW4 KS4 KX4 d0 d1 d2
              have d0 := tb0 HT5.out.blk
              have d1 := tb1 HT5.out.blk
              have d2 := tb2 HT5.out.blk
              go_wp2_with (fail)
              refine (HTM.out w5 A c S cs ss HPL.out HT5.out.nums KS5.out).mono ?_
              rintro e w6 ⟨Z, cz, rfl, kz, b6⟩
              rw [HTL.out]
              have HT6 := Lib.hid (HT5.out.step b6)
              have KX6 := Lib.hid (KX5.out.below b6 (Nat.le_refl _))
              have KY6 := Lib.hid (KY5.out.below b6 (Nat.le_refl _))
              have KZ6 := Lib.hid kz
              clear b6 kz HT5 KS5 KX5 KY5 d0 d1 d2
              have hx4 : rx ≤ 4096 := Nat.le_trans hx1 (by omega)
              have hx6 : rx ≤ 1000000 := Nat.le_trans hx1 (by omega)
              go_wp2_with (fail)
              refine (plus2 w6 _ rfl X Y cx cy rx _ _ (tx ss 0) (HTL.out _ _) (HTL.out _ _) hx4 KX6.out KY6.out HLI.out.1 (HTL.out _ _)).mono ?_
              rintro e w7 ⟨P, cp, rfl, kp, b7⟩
              have HT7 := Lib.hid (HT6.out.step b7)
              have KX7 := Lib.hid (KX6.out.below b7 (Nat.le_refl _))
              have KY7 := Lib.hid (KY6.out.below b7 (Nat.le_refl _))
              have KZ7 := Lib.hid (KZ6.out.below b7 (Nat.le_refl _))
              have KP7 := Lib.hid kp
              clear b7 kp HT6 KX6 KY6 KZ6
              go_wp2_with (fail)
              refine (plus2 w7 _ rfl Y X cy cx rx _ _ (tx ss 0) (HTL.out _ _) (HTL.out _ _) hx4 KY7.out KX7.out HLI.out.2 (HTL.out _ _)).mono ?_
              rintro e w8 ⟨Q, cq, rfl, kq, b8⟩
              have HT8 := Lib.hid (HT7.out.step b8)
              have KZ8 := Lib.hid (KZ7.out.below b8 (Nat.le_refl _))
              have KP8 := Lib.hid (KP7.out.below b8 (Nat.le_refl _))
              have KQ8 := Lib.hid kq
              clear b8 kq HT7 KX7 KY7 KZ7 KP7
              go_wp2_with (fail)
              refine (ints_same w8 P rx cp Z cz (tx ss 0) (HTL.out _ _) hx6 KP8.out KZ8.out).mono ?_
              rintro e w9 ⟨rfl, q9, rfl⟩
              go_wp2_with (fail)
              refine (ints_same (w8.drewN q9) Q rx cq Z cz (tx ss 0) (HTL.out _ _) hx6 KQ8.out KZ8.out).mono ?_
              rintro e w10 ⟨rfl, q10, rfl⟩
              go_wp2_with (fail)
              refine bodyPost_ret (results_tmp rfl _ _ _) rfl ?_
              exact ⟨rfl, below_drewN HT8.out.below _⟩
      · have t2 : ((k : Int) == y) = false := beq_eq_false_iff_ne.2 hk
        go_wp2_with (fail)
        refine bodyPost_ret (results_tmp rfl _ _ _) rfl ?_
        exact ⟨rfl, HT2.out.below⟩
    · have t1 : ((m : Int) == y) = false := beq_eq_false_iff_ne.2 hm
      go_wp2_with (fail)
      refine bodyPost_ret (results_tmp rfl _ _ _) rfl ?_
      exact ⟨rfl, HT2.out.below⟩
end Go.Proofs.Ytclobdeaocjnoaa.vecsLinear
