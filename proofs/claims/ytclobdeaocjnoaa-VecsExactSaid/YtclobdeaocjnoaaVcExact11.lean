/-
  Law 11's VecsExact: it answers true, whatever the table, the rows and the numbers are. No conditions but that the numbers are there.
-/
import Derived.Test.YtclobdeaocjnoaaVcAwake11
import Derived.Test.YtclobdeaocjnoaaVc6
import Derived.Test.YtclobdeaocjnoaaVcRef4
import Derived.Deep.RegionHeld3
import Derived.Test.YtclobdeaocjnoaaTakeAt
import Derived.StillTailTactics
namespace Go.Proofs.Ytclobdeaocjnoaa.vecsExact
open Go.ChangeShapes Go.WideShapes Go.ChangeAt Go.RowKit Nm Vc

section
variable {x y : Int} {n m : Nat} (hg : goodB x y n = true) (hm : (m : Int) = y)
include hg hm
theorem side : ∃ rx : Nat, x = (rx : Int) ∧ y = (m : Int) ∧ x.toNat = rx ∧ rx ≤ 64 := by
  have := (goodB_iff.1 hg).1
  exact ⟨x.toNat, by omega, hm.symm, rfl, by omega⟩
theorem times_ok {w : World} {sh : Int} {A : Option Addr} {c : Nat} {D : List Int} {V : Option Addr} {cv : Nat} {zs : List Int} (hD : D.length = n) (hA : KIn .i8 w A D) (hI : I8 D) (hz : zs.length = m) (hV : KIn .i64 w V zs) :
    Calls Try.prog 12 #[tbV x y A n c, .slice V m cv, .int .i64 sh] w (RowSays w (fun v => .tuple #[v, .int .i64 0]) (timesL D x.toNat m zs sh)) := by
  obtain ⟨rx, h1, h2, h3, _⟩ := side hg hm
  rw [h3]
  subst h1 h2
  exact table_times w rx m sh A n c D V cv zs hg hD hA hI hz hV
theorem rtimes_ok {w : World} {sh : Int} {A : Option Addr} {c : Nat} {D : List Int} {V : Option Addr} {cv : Nat} {zs : List Int} (hD : D.length = n) (hA : KIn .i8 w A D) (hI : I8 D) (hz : zs.length = m) (hV : KIn .i64 w V zs) :
    Calls Try.prog 13 #[.int .i64 x, .int .i64 y, .slice A n c, .slice V m cv, .int .i64 sh] w (RowSays w (fun v => .tuple #[v, .bool true]) (timesL D x.toNat m zs sh)) := by
  obtain ⟨rx, h1, h2, h3, _⟩ := side hg hm
  rw [h3]
  subst h1 h2
  exact ref11_times w rx m sh A n c D V cv zs hg hD hA hI hz hV
end
theorem undrew {w w' : World} (h : Below w.drew.heap.size w.drew w') : Below w.heap.size w w' := ⟨h.os, h.tape, h.output, h.size, h.block⟩
theorem undrewN {w w' : World} {k : Nat} (h : Below (w.drewN k).heap.size (w.drewN k) w') : Below w.heap.size w w' := ⟨h.os, h.tape, h.output, h.size, h.block⟩
set_option maxRecDepth 100000 in
set_option maxHeartbeats 6400000 in
theorem walk (w : World) (x y p sh : Int) (A : Option Addr) (n c : Nat) (D : List Int) (G : Option Addr) (k cg : Nat) (B : Nat → Option Addr) (C : Nat → Nat) (L : List (List Int))
    (hD : D.length = n) (hA : KIn .i8 w A D) (hI : I8 D) (hL : L.length = k) (hG : LIn w G B C L) :
    Calls Try.prog 4 #[tbV x y A n c, .slice G k cg, .int .i64 p, .int .i64 sh] w fun e w' => e = .returned (.bool true) ∧ Below w.heap.size w w' := by
  have HA0 := Lib.hid (Tb.new (Below.refl w.heap.size w) hA x y n c)
  have HDL := Lib.hid hD
  have HI8 := Lib.hid hI
  have HLL := Lib.hid hL
  have HG := Lib.hid hG
  clear hA hD hI hL hG
  unfold tbV tbA
  go_enter Try.func4, Try.ntmps4
  go_wp2_with (fail)
  refine (awake11 _).mono ?_
  rintro e w1 ⟨rfl, b1⟩
  have HT1 := Lib.hid (HA0.out.step b1)
  clear HA0 b1
  have d2 := tb2 HT1.out.blk
  by_cases hn : 1024 < n
  · have t1 : (1024 : Int) < (n : Int) := by omega
    have t2 : decide ((1024 : Int) < (n : Int)) = true := decide_eq_true t1
    go_wp2_with (fail)
    refine bodyPost_ret (results_tmp rfl _ _ _) rfl ?_
    exact ⟨rfl, HT1.out.below⟩
  have t1 : ¬ (1024 : Int) < (n : Int) := by omega
  have t2 : decide ((1024 : Int) < (n : Int)) = false := decide_eq_false t1
  by_cases hk1 : 10 < k
  · have t3 : (10 : Int) < (k : Int) := by omega
    have t4 : decide ((10 : Int) < (k : Int)) = true := decide_eq_true t3
    go_wp2_with (fail)
    refine bodyPost_ret (results_tmp rfl _ _ _) rfl ?_
    exact ⟨rfl, HT1.out.below⟩
  have t3 : ¬ (10 : Int) < (k : Int) := by omega
  have t4 : decide ((10 : Int) < (k : Int)) = false := decide_eq_false t3
  have hk2 : k ≤ 10 := by omega
  go_wp2_with (fail)
  go_loopw [9] (fun i wr => ∃ j : Nat, i = .int .i64 (j : Int) ∧ j ≤ k ∧ Tb w wr w.heap.size x y A n c D ∧ ∀ i, i < j → (L.getD i []).length ≤ 64) (fun i _ => match i with | .int _ j => k - j.toNat | _ => 0)
  case atStart => exact ⟨0, rfl, Nat.zero_le _, HT1.out, fun i hi => absurd hi (by omega)⟩
  case round =>
    clear HT1 d2
    obtain ⟨j, rfl, hj, ht, hs⟩ := hrel
    have HT := Lib.hid ht
    have HS := Lib.hid hs
    clear ht hs
    have x2 : 0 ≤ (j : Int) := by omega
    by_cases hlt : j < k
    · have x0 : (j : Int) < (k : Int) := by omega
      have x1 : decide ((j : Int) < (k : Int)) = true := decide_eq_true x0
      have HJ := Lib.hid (show j + 1 ≤ k by omega)
      obtain ⟨pb, po, rfl, hcell, hkin⟩ := (HG.out.below HT.out.below (Nat.le_refl _)).at (show j < L.length by rw [HLL.out]; exact hlt)
      have HV := Lib.hid hkin
      clear hkin
      generalize hzs : L.getD j [] = zs at hcell HV
      have HZS := Lib.hid hzs
      clear hzs
      generalize B j = V at hcell HV
      generalize C j = cv at hcell
      by_cases hl : 64 < zs.length
      · have u1 : (64 : Int) < (zs.length : Int) := by omega
        have u2 : decide ((64 : Int) < (zs.length : Int)) = true := decide_eq_true u1
        go_wp2_with (fail)
        refine bodyPost_ret (results_tmp rfl _ _ _) rfl ?_
        exact ⟨rfl, HT.out.below⟩
      · have u1 : ¬ (64 : Int) < (zs.length : Int) := by omega
        have u2 : decide ((64 : Int) < (zs.length : Int)) = false := decide_eq_false u1
        have HSN := Lib.hid (show ∀ i, i < j + 1 → (L.getD i []).length ≤ 64 from fun i hi => by
          by_cases h : i = j
          · rw [h, HZS.out]; omega
          · exact HS.out i (by omega))
        have hl2 : zs.length ≤ 64 := by omega
        have d0 := tb0 HT.out.blk
        have d1 := tb1 HT.out.blk
        have d2 := tb2 HT.out.blk
        clear HS HZS
        by_cases hok : goodB x y n = true ∧ (zs.length : Int) = y
        · have HTM := Lib.hid (fun W ha hv => times_ok (w := W) (sh := sh) (A := A) (c := c) (V := V) (cv := cv) hok.1 hok.2 HDL.out ha HI8.out (rfl : zs.length = zs.length) hv)
          have HRT := Lib.hid (fun W ha hv => rtimes_ok (w := W) (sh := sh) (A := A) (c := c) (V := V) (cv := cv) hok.1 hok.2 HDL.out ha HI8.out (rfl : zs.length = zs.length) hv)
          have HRL := Lib.hid (show (timesL D x.toNat zs.length zs sh).length ≤ 64 by rw [timesL_length]; obtain ⟨rx, _, _, h3, h4⟩ := side hok.1 hok.2; omega)
          clear hok
          generalize timesL D x.toNat zs.length zs sh = R at HTM HRT HRL
          unfold tbV tbA at HTM
          go_wp2_with (fail)
          have k0 := And.intro d0 (And.intro d1 (And.intro d2 hcell))
          have hnd : KIn .i8 wr.drew A D := HT.out.nums
          have hvd : KIn .i64 wr.drew V zs := HV.out
          go_region_held3 (fun W : World => W.cell? ⟨w.heap.size, 0, none⟩ = some (.int .i64 x) ∧ W.cell? ⟨w.heap.size, 1, none⟩ = some (.int .i64 y) ∧ W.cell? ⟨w.heap.size, 2, none⟩ = some (.slice A n c) ∧ W.cell? ⟨pb, po + j, none⟩ = some (.slice V zs.length cv)) (first | exact k0 | assumption) (first
            | (go_at_call 12; (with_reducible refine (HTM.out wr.drew hnd hvd).mono ?_); rintro e w3 ⟨V1, c1, rfl, k1, b3⟩; have b3' := undrew b3; have HT3 := Lib.hid (HT.out.step b3'); have s3 := And.intro (tb0 HT3.out.blk) (And.intro (tb1 HT3.out.blk) (And.intro (tb2 HT3.out.blk) ((b3'.cell (p := ⟨pb, po + j, none⟩) (block_lt_of_cell hcell)).trans hcell)))))
          have K1 := Lib.hid k1
          have HV3 := Lib.hid (HV.out.below b3' (Nat.le_refl _))
          clear b3 b3' k1 k0 hnd hvd HTM HT HV d0 d1 d2 hcell
          obtain ⟨d0, d1, d2, hcell⟩ := s3
          go_wp2_with (fail)
          have k0 := And.intro d0 (And.intro d1 (And.intro d2 hcell))
          have hnd : KIn .i8 w3.drew A D := HT3.out.nums
          have hvd : KIn .i64 w3.drew V zs := HV3.out
          go_region_held3 (fun W : World => W.cell? ⟨w.heap.size, 0, none⟩ = some (.int .i64 x) ∧ W.cell? ⟨w.heap.size, 1, none⟩ = some (.int .i64 y) ∧ W.cell? ⟨w.heap.size, 2, none⟩ = some (.slice A n c) ∧ W.cell? ⟨pb, po + j, none⟩ = some (.slice V zs.length cv)) (first | exact k0 | assumption) (first
            | (go_at_call 13; (with_reducible refine (HRT.out w3.drew hnd hvd).mono ?_); rintro e w4 ⟨V2, c2, rfl, k2, b4⟩; have b4' := undrew b4; have HT4 := Lib.hid (HT3.out.step b4'); have s4 := And.intro (tb0 HT4.out.blk) (And.intro (tb1 HT4.out.blk) (And.intro (tb2 HT4.out.blk) ((b4'.cell (p := ⟨pb, po + j, none⟩) (block_lt_of_cell hcell)).trans hcell)))))
          have K2 := Lib.hid k2
          have K3 := Lib.hid (K1.out.below b4' (Nat.le_refl _))
          have HV4 := Lib.hid (HV3.out.below b4' (Nat.le_refl _))
          clear b4 b4' k2 k0 hnd hvd HRT HT3 HV3 K1
          replace hcell := s4.2.2.2
          clear s4 d0 d1 d2
          go_wp2_with (fail)
          have HSC := Lib.hid (fun W hv => vecs_scale W p sh V zs.length cv zs rfl (Nat.le_trans hl2 (by omega)) hv)
          have HRS := Lib.hid (fun W hv => ref11_scale W p sh V zs.length cv zs rfl (Nat.le_trans hl2 (by omega)) hv)
          have HSL := Lib.hid (show (scaleL zs p sh).length ≤ 1000000 by rw [scaleL_length]; omega)
          generalize scaleL zs p sh = Q at HSC HRS HSL
          have hk1d : KIn .i64 w4.drew (V1) (R) := K3.out
          have hk2d : KIn .i64 w4.drew (V2) (R) := K2.out
          have k0 : w4.drew.cell? ⟨pb, po + j, none⟩ = some (.slice V zs.length cv) := hcell
          have k1 : ∀ k, (w4.drew.drewN k).cell? ⟨pb, po + j, none⟩ = some (.slice V zs.length cv) := fun _ => hcell
          have hRL : (R : List Int).length ≤ 1000000 := Nat.le_trans HRL.out (by omega)
          refine wp_region_noPanic ?_
          refine wp_region_held_drew (S := fun W : World => W.cell? ⟨pb, po + j, none⟩ = some (.slice V zs.length cv)) (by kernel_rfl) k0 (fun hHeld => ?_)
          refine wpAnyH_takeAt (i := 0) (v := .bool true) 66 rfl rfl (by kernel_rfl) (by kernel_rfl) (by kernel_rfl) (fun _ _ _ h => h) (Or.inl ⟨by rfl, ?_⟩) hHeld ?_
          · intro W hW
            go_simp
          simp only [Act.put, List.setIfInBounds_toArray, List.set_cons_succ, List.set_cons_zero]
          refine wpAnyH_takeAt (i := 1) (v := .int .i64 0) 67 rfl rfl (by kernel_rfl) (by kernel_rfl) (by kernel_rfl) (fun _ _ _ h => h) (Or.inl ⟨by rfl, ?_⟩) hHeld ?_
          · intro W hW
            go_simp
          simp only [Act.put, List.setIfInBounds_toArray, List.set_cons_succ, List.set_cons_zero]
          refine wpAnyH_takeAt (i := 2) (v := .bool true) 68 rfl rfl (by kernel_rfl) (by kernel_rfl) (by kernel_rfl) (fun _ _ _ h => h) (Or.inl ⟨by rfl, ?_⟩) hHeld ?_
          · intro W hW
            go_simp
          simp only [Act.put, List.setIfInBounds_toArray, List.set_cons_succ, List.set_cons_zero]
          refine wpAnyH_takeAt (i := 3) (v := .bool false) 69 rfl rfl (by kernel_rfl) (by kernel_rfl) (by kernel_rfl) (fun _ _ _ h => h) (Or.inl ⟨by rfl, ?_⟩) hHeld ?_
          · intro W hW
            go_simp
          simp only [Act.put, List.setIfInBounds_toArray, List.set_cons_succ, List.set_cons_zero]
          refine wpAnyH_takeAt (i := 4) (v := .bool false) 70 rfl rfl (by kernel_rfl) (by kernel_rfl) (by kernel_rfl) (fun _ _ _ h => h) (Or.inl ⟨by rfl, ?_⟩) hHeld ?_
          · intro W hW
            go_simp
          simp only [Act.put, List.setIfInBounds_toArray, List.set_cons_succ, List.set_cons_zero]
          refine wpAnyH_takeAt (i := 5) (v := .bool true) 71 rfl rfl (by kernel_rfl) (by kernel_rfl) (by kernel_rfl) (fun _ _ _ h => h) (Or.inl ⟨by rfl, ?_⟩) hHeld ?_
          · intro W hW
            go_simp
          simp only [Act.put, List.setIfInBounds_toArray, List.set_cons_succ, List.set_cons_zero]
          refine wpAnyH_takeAt (i := 6) (v := .bool false) 72 rfl rfl (by kernel_rfl) (by kernel_rfl) (by kernel_rfl) (fun _ _ _ h => h) (Or.inl ⟨by rfl, ?_⟩) hHeld ?_
          · intro W hW
            go_simp
          simp only [Act.put, List.setIfInBounds_toArray, List.set_cons_succ, List.set_cons_zero]
          refine wpAnyH_takeAt (i := 7) (v := .bool false) 73 rfl rfl (by kernel_rfl) (by kernel_rfl) (by kernel_rfl) (fun _ _ _ h => h) (Or.inl ⟨by rfl, ?_⟩) hHeld ?_
          · intro W hW
            go_simp
          simp only [Act.put, List.setIfInBounds_toArray, List.set_cons_succ, List.set_cons_zero]
          refine wpAnyH_takeAt (i := 8) (v := undef) 74 rfl rfl (by kernel_rfl) (by kernel_rfl) (by kernel_rfl) (fun _ _ _ h => h) (Or.inr ⟨by rfl, rfl⟩) hHeld ?_
          simp only [Act.put, List.setIfInBounds_toArray, List.set_cons_succ, List.set_cons_zero]
          refine wpAnyH_takeAt (i := 9) (v := undef) 75 rfl rfl (by kernel_rfl) (by kernel_rfl) (by kernel_rfl) (fun _ _ _ h => h) (Or.inr ⟨by rfl, rfl⟩) hHeld ?_
          simp only [Act.put, List.setIfInBounds_toArray, List.set_cons_succ, List.set_cons_zero]
          refine wpAnyH_takeAt (i := 10) (v := .bool false) 76 rfl rfl (by kernel_rfl) (by kernel_rfl) (by kernel_rfl) (fun _ _ _ h => h) (Or.inl ⟨by rfl, ?_⟩) hHeld ?_
          · intro W hW
            go_simp
          simp only [Act.put, List.setIfInBounds_toArray, List.set_cons_succ, List.set_cons_zero]
          refine wpAnyH_takeAt (i := 11) (v := .bool false) 77 rfl rfl (by kernel_rfl) (by kernel_rfl) (by kernel_rfl) (fun _ _ _ h => h) (Or.inl ⟨by rfl, ?_⟩) hHeld ?_
          · intro W hW
            go_simp
          simp only [Act.put, List.setIfInBounds_toArray, List.set_cons_succ, List.set_cons_zero]
          refine wpAnyH_takeAt (i := 12) (v := .bool false) 78 rfl rfl (by kernel_rfl) (by kernel_rfl) (by kernel_rfl) (fun _ _ _ h => h) (Or.inl ⟨by rfl, ?_⟩) hHeld ?_
          · intro W hW
            go_simp
          simp only [Act.put, List.setIfInBounds_toArray, List.set_cons_succ, List.set_cons_zero]
          refine wpAnyH_takeAt (i := 13) (v := .slice V1 R.length c1) 79 rfl rfl (by kernel_rfl) (by kernel_rfl) (by kernel_rfl) (fun _ _ _ h => h) (Or.inl ⟨by rfl, ?_⟩) hHeld ?_
          · intro W hW
            go_simp
          simp only [Act.put, List.setIfInBounds_toArray, List.set_cons_succ, List.set_cons_zero]
          refine wpAnyH_takeAt (i := 14) (v := .slice V2 R.length c2) 80 rfl rfl (by kernel_rfl) (by kernel_rfl) (by kernel_rfl) (fun _ _ _ h => h) (Or.inl ⟨by rfl, ?_⟩) hHeld ?_
          · intro W hW
            go_simp
          simp only [Act.put, List.setIfInBounds_toArray, List.set_cons_succ, List.set_cons_zero]
          refine wpAnyH_ready (rs := [15]) (by kernel_rfl) (by simp) ?_
          refine AllReadyH.cons rfl (fun K hK => ?_) AllReadyH.nil
          go_simp
          refine (ints_same w4.drew V1 _ c1 V2 c2 R rfl hRL hk1d hk2d).mono ?_
          rintro e w5 ⟨rfl, q5, rfl⟩
          refine hK.out _ _ (k1 q5) (fun hHeld2 => ?_)
          clear hK K hHeld
          have hHeld := hHeld2
          clear hHeld2
          refine wpAnyH_takeAt (i := 16) (v := .bool false) 82 rfl rfl (by kernel_rfl) (by kernel_rfl) (by kernel_rfl) (fun _ _ _ h => h) (Or.inl ⟨by rfl, ?_⟩) hHeld ?_
          · intro W hW
            go_simp
          simp only [Act.put, List.setIfInBounds_toArray, List.set_cons_succ, List.set_cons_zero]
          refine wpAnyH_takeAt (i := 17) (v := .bool false) 83 rfl rfl (by kernel_rfl) (by kernel_rfl) (by kernel_rfl) (fun _ _ _ h => h) (Or.inl ⟨by rfl, ?_⟩) hHeld ?_
          · intro W hW
            go_simp
          simp only [Act.put, List.setIfInBounds_toArray, List.set_cons_succ, List.set_cons_zero]
          refine wpAnyH_takeAt (i := 18) (v := .bool false) 84 rfl rfl (by kernel_rfl) (by kernel_rfl) (by kernel_rfl) (fun _ _ _ h => h) (Or.inl ⟨by rfl, ?_⟩) hHeld ?_
          · intro W hW
            go_simp
          simp only [Act.put, List.setIfInBounds_toArray, List.set_cons_succ, List.set_cons_zero]
          refine wpAnyH_takeAt (i := 19) (v := .slice (some ⟨pb, po, none⟩) k cg) 85 rfl rfl (by kernel_rfl) (by kernel_rfl) (by kernel_rfl) (fun _ _ _ h => h) (Or.inl ⟨by rfl, ?_⟩) hHeld ?_
          · intro W hW
            go_simp
          simp only [Act.put, List.setIfInBounds_toArray, List.set_cons_succ, List.set_cons_zero]
          refine wpAnyH_takeAt (i := 20) (v := .int .i64 (j : Int)) 86 rfl rfl (by kernel_rfl) (by kernel_rfl) (by kernel_rfl) (fun _ _ _ h => h) (Or.inl ⟨by rfl, ?_⟩) hHeld ?_
          · intro W hW
            go_simp
          simp only [Act.put, List.setIfInBounds_toArray, List.set_cons_succ, List.set_cons_zero]
          refine wpAnyH_takeAt (i := 21) (v := .pointer (some ⟨pb, po + j, none⟩)) 87 rfl rfl (by kernel_rfl) (by kernel_rfl) (by kernel_rfl) (fun _ _ _ h => h) (Or.inl ⟨by rfl, ?_⟩) hHeld ?_
          · intro W hW
            go_simp
          simp only [Act.put, List.setIfInBounds_toArray, List.set_cons_succ, List.set_cons_zero]
          refine wpAnyH_takeAt (i := 22) (v := .slice V zs.length cv) 88 rfl rfl (by kernel_rfl) (by kernel_rfl) (by kernel_rfl) (fun _ _ _ h => h) (Or.inl ⟨by rfl, ?_⟩) hHeld ?_
          · intro W hW
            go_simp
          simp only [Act.put, List.setIfInBounds_toArray, List.set_cons_succ, List.set_cons_zero]
          refine wpAnyH_takeAt (i := 23) (v := .int .i64 p) 89 rfl rfl (by kernel_rfl) (by kernel_rfl) (by kernel_rfl) (fun _ _ _ h => h) (Or.inl ⟨by rfl, ?_⟩) hHeld ?_
          · intro W hW
            go_simp
          simp only [Act.put, List.setIfInBounds_toArray, List.set_cons_succ, List.set_cons_zero]
          refine wpAnyH_takeAt (i := 24) (v := .int .i64 sh) 90 rfl rfl (by kernel_rfl) (by kernel_rfl) (by kernel_rfl) (fun _ _ _ h => h) (Or.inl ⟨by rfl, ?_⟩) hHeld ?_
          · intro W hW
            go_simp
          simp only [Act.put, List.setIfInBounds_toArray, List.set_cons_succ, List.set_cons_zero]
          refine wpAnyH_takeAt (i := 26) (v := .slice (some ⟨pb, po, none⟩) k cg) 92 rfl rfl (by kernel_rfl) (by kernel_rfl) (by kernel_rfl) (fun _ _ _ h => h) (Or.inl ⟨by rfl, ?_⟩) hHeld ?_
          · intro W hW
            go_simp
          simp only [Act.put, List.setIfInBounds_toArray, List.set_cons_succ, List.set_cons_zero]
          refine wpAnyH_takeAt (i := 27) (v := .int .i64 (j : Int)) 93 rfl rfl (by kernel_rfl) (by kernel_rfl) (by kernel_rfl) (fun _ _ _ h => h) (Or.inl ⟨by rfl, ?_⟩) hHeld ?_
          · intro W hW
            go_simp
          simp only [Act.put, List.setIfInBounds_toArray, List.set_cons_succ, List.set_cons_zero]
          refine wpAnyH_takeAt (i := 28) (v := .pointer (some ⟨pb, po + j, none⟩)) 94 rfl rfl (by kernel_rfl) (by kernel_rfl) (by kernel_rfl) (fun _ _ _ h => h) (Or.inl ⟨by rfl, ?_⟩) hHeld ?_
          · intro W hW
            go_simp
          simp only [Act.put, List.setIfInBounds_toArray, List.set_cons_succ, List.set_cons_zero]
          refine wpAnyH_takeAt (i := 29) (v := .slice V zs.length cv) 95 rfl rfl (by kernel_rfl) (by kernel_rfl) (by kernel_rfl) (fun _ _ _ h => h) (Or.inl ⟨by rfl, ?_⟩) hHeld ?_
          · intro W hW
            go_simp
          simp only [Act.put, List.setIfInBounds_toArray, List.set_cons_succ, List.set_cons_zero]
          refine wpAnyH_takeAt (i := 30) (v := .int .i64 p) 96 rfl rfl (by kernel_rfl) (by kernel_rfl) (by kernel_rfl) (fun _ _ _ h => h) (Or.inl ⟨by rfl, ?_⟩) hHeld ?_
          · intro W hW
            go_simp
          simp only [Act.put, List.setIfInBounds_toArray, List.set_cons_succ, List.set_cons_zero]
          refine wpAnyH_takeAt (i := 31) (v := .int .i64 sh) 97 rfl rfl (by kernel_rfl) (by kernel_rfl) (by kernel_rfl) (fun _ _ _ h => h) (Or.inl ⟨by rfl, ?_⟩) hHeld ?_
          · intro W hW
            go_simp
          simp only [Act.put, List.setIfInBounds_toArray, List.set_cons_succ, List.set_cons_zero]
          refine wpAnyH_ready (rs := [25]) (by kernel_rfl) (by simp) ?_
          refine AllReadyH.cons rfl (fun K hK => ?_) AllReadyH.nil
          go_simp
          refine (HSC.out (w4.drewN (1 + q5)) (show KIn .i64 (w4.drewN (1 + q5)) V zs from HV4.out)).mono ?_
          rintro e w6 ⟨V6, c6, rfl, k6, b6⟩
          have b6' := undrewN b6
          have HT6 := Lib.hid (HT4.out.step b6')
          have hv6 := HV4.out.below b6' (Nat.le_refl _)
          have s6 := (b6'.cell (p := ⟨pb, po + j, none⟩) (block_lt_of_cell hcell)).trans hcell
          refine hK.out _ _ s6 (fun hHeld2 => ?_)
          clear hK K hHeld
          have hHeld := hHeld2
          clear hHeld2
          refine wpAnyH_ready (rs := [32]) (by kernel_rfl) (by simp) ?_
          refine AllReadyH.cons rfl (fun K hK => ?_) AllReadyH.nil
          go_simp
          refine (HRS.out w6 hv6).mono ?_
          rintro e w7 ⟨V7, c7, rfl, k7, b7⟩
          have HT7 := Lib.hid (HT6.out.step b7)
          have k67 := k6.below b7 (Nat.le_refl _)
          have s7 := (b7.cell (p := ⟨pb, po + j, none⟩) (block_lt_of_cell s6)).trans s6
          refine hK.out _ _ s7 (fun hHeld2 => ?_)
          clear hK K hHeld
          have hHeld := hHeld2
          clear hHeld2
          refine wpAnyH_ready (rs := [33]) (by kernel_rfl) (by simp) ?_
          refine AllReadyH.cons rfl (fun K hK => ?_) AllReadyH.nil
          go_simp
          refine (ints_same w7 V6 _ c6 V7 c7 Q rfl HSL.out k67 k7).mono ?_
          rintro e w8 ⟨rfl, q8, rfl⟩
          refine hK.out _ _ s7 (fun hHeld2 => ?_)
          clear hK K hHeld
          have hHeld := hHeld2
          clear hHeld2
          refine wpAnyH_takeAt (i := 34) (v := .bool false) 100 rfl rfl (by kernel_rfl) (by kernel_rfl) (by kernel_rfl) (fun _ _ _ h => h) (Or.inl ⟨by rfl, ?_⟩) hHeld ?_
          · intro W hW
            go_simp
          simp only [Act.put, List.setIfInBounds_toArray, List.set_cons_succ, List.set_cons_zero]
          refine wpAnyH_takeAt (i := 35) (v := .bool false) 101 rfl rfl (by kernel_rfl) (by kernel_rfl) (by kernel_rfl) (fun _ _ _ h => h) (Or.inl ⟨by rfl, ?_⟩) hHeld ?_
          · intro W hW
            go_simp
          simp only [Act.put, List.setIfInBounds_toArray, List.set_cons_succ, List.set_cons_zero]
          refine wpAnyH_done (by kernel_rfl) ?_ _
          refine NoPanic.normal ?_
          have HT8 := Lib.hid (HT7.out.drewN q8)
          clear HT7 HT6 HT4 K2 K3 HV4 k0 k1 hk1d hk2d k6 k7 k67 b6 b7 s6 s7 hHeld hcell HSC HRS
          have x3 := IntWalk.wrap64_in ((j : Int) + 1) (by omega)
          go_wp2_with (fail)
          exact ⟨⟨j + 1, rfl, HJ.out, HT8.out, HSN.out⟩, vc_less j k hlt⟩
        · have hnot : goodB x y n = false ∨ (zs.length : Int) ≠ y := by
            by_cases h : goodB x y n = true
            · exact .inr fun e => hok ⟨h, e⟩
            · exact .inl (by simpa using h)
          have HTM := Lib.hid (fun W => table_times_not W x y sh A n c V zs.length cv hnot)
          have HRT := Lib.hid (fun W => ref11_times_not W x y sh A n c V zs.length cv hnot)
          have HRL := Lib.hid (show ([] : List Int).length ≤ 64 from Nat.zero_le _)
          clear hok hnot
          unfold tbV tbA at HTM
          go_wp2_with (fail)
          have k0 := And.intro d0 (And.intro d1 (And.intro d2 hcell))
          go_region_held3 (fun W : World => W.cell? ⟨w.heap.size, 0, none⟩ = some (.int .i64 x) ∧ W.cell? ⟨w.heap.size, 1, none⟩ = some (.int .i64 y) ∧ W.cell? ⟨w.heap.size, 2, none⟩ = some (.slice A n c) ∧ W.cell? ⟨pb, po + j, none⟩ = some (.slice V zs.length cv)) (first | exact k0 | assumption) (first
            | (go_at_call 12; (with_reducible refine (HTM.out wr.drew).mono ?_); rintro e w3 ⟨rfl, b3⟩; have b3' := undrew b3; have HT3 := Lib.hid (HT.out.step b3'); have s3 := And.intro (tb0 HT3.out.blk) (And.intro (tb1 HT3.out.blk) (And.intro (tb2 HT3.out.blk) ((b3'.cell (p := ⟨pb, po + j, none⟩) (block_lt_of_cell hcell)).trans hcell)))))
          have HV3 := Lib.hid (HV.out.below b3' (Nat.le_refl _))
          clear b3 b3' k0 HTM HT HV d0 d1 d2 hcell
          obtain ⟨d0, d1, d2, hcell⟩ := s3
          go_wp2_with (fail)
          have k0 := And.intro d0 (And.intro d1 (And.intro d2 hcell))
          go_region_held3 (fun W : World => W.cell? ⟨w.heap.size, 0, none⟩ = some (.int .i64 x) ∧ W.cell? ⟨w.heap.size, 1, none⟩ = some (.int .i64 y) ∧ W.cell? ⟨w.heap.size, 2, none⟩ = some (.slice A n c) ∧ W.cell? ⟨pb, po + j, none⟩ = some (.slice V zs.length cv)) (first | exact k0 | assumption) (first
            | (go_at_call 13; (with_reducible refine (HRT.out w3.drew).mono ?_); rintro e w4 ⟨rfl, rfl⟩))
          clear k0 HRT
          have HT4 : Hid (Tb w w3.drew w.heap.size x y A n c D) := Lib.hid (HT3.out.drewN 1)
          have HV4 : Hid (KIn .i64 w3.drew V zs) := HV3
          have K2 := Lib.hid (KIn.nil .i64 w3.drew none)
          have K3 := Lib.hid (KIn.nil .i64 w3.drew none)
          have hc4 : w3.drew.cell? ⟨pb, po + j, none⟩ = some (.slice V zs.length cv) := hcell
          clear HT3 HV3 hcell d0 d1 d2
          have hcell := hc4
          clear hc4
          generalize w3.drew = w4 at HT4 HV4 K2 K3 hcell ⊢
          go_wp2_with (fail)
          have HSC := Lib.hid (fun W hv => vecs_scale W p sh V zs.length cv zs rfl (Nat.le_trans hl2 (by omega)) hv)
          have HRS := Lib.hid (fun W hv => ref11_scale W p sh V zs.length cv zs rfl (Nat.le_trans hl2 (by omega)) hv)
          have HSL := Lib.hid (show (scaleL zs p sh).length ≤ 1000000 by rw [scaleL_length]; omega)
          generalize scaleL zs p sh = Q at HSC HRS HSL
          have hk1d : KIn .i64 w4.drew (none) ([]) := K3.out
          have hk2d : KIn .i64 w4.drew (none) ([]) := K2.out
          have k0 : w4.drew.cell? ⟨pb, po + j, none⟩ = some (.slice V zs.length cv) := hcell
          have k1 : ∀ k, (w4.drew.drewN k).cell? ⟨pb, po + j, none⟩ = some (.slice V zs.length cv) := fun _ => hcell
          have hRL : ([] : List Int).length ≤ 1000000 := Nat.le_trans HRL.out (by omega)
          refine wp_region_noPanic ?_
          refine wp_region_held_drew (S := fun W : World => W.cell? ⟨pb, po + j, none⟩ = some (.slice V zs.length cv)) (by kernel_rfl) k0 (fun hHeld => ?_)
          refine wpAnyH_takeAt (i := 0) (v := .bool false) 66 rfl rfl (by kernel_rfl) (by kernel_rfl) (by kernel_rfl) (fun _ _ _ h => h) (Or.inl ⟨by rfl, ?_⟩) hHeld ?_
          · intro W hW
            go_simp
          simp only [Act.put, List.setIfInBounds_toArray, List.set_cons_succ, List.set_cons_zero]
          refine wpAnyH_takeAt (i := 1) (v := .int .i64 1) 67 rfl rfl (by kernel_rfl) (by kernel_rfl) (by kernel_rfl) (fun _ _ _ h => h) (Or.inl ⟨by rfl, ?_⟩) hHeld ?_
          · intro W hW
            go_simp
          simp only [Act.put, List.setIfInBounds_toArray, List.set_cons_succ, List.set_cons_zero]
          refine wpAnyH_takeAt (i := 2) (v := .bool false) 68 rfl rfl (by kernel_rfl) (by kernel_rfl) (by kernel_rfl) (fun _ _ _ h => h) (Or.inl ⟨by rfl, ?_⟩) hHeld ?_
          · intro W hW
            go_simp
          simp only [Act.put, List.setIfInBounds_toArray, List.set_cons_succ, List.set_cons_zero]
          refine wpAnyH_takeAt (i := 3) (v := .bool false) 69 rfl rfl (by kernel_rfl) (by kernel_rfl) (by kernel_rfl) (fun _ _ _ h => h) (Or.inl ⟨by rfl, ?_⟩) hHeld ?_
          · intro W hW
            go_simp
          simp only [Act.put, List.setIfInBounds_toArray, List.set_cons_succ, List.set_cons_zero]
          refine wpAnyH_takeAt (i := 4) (v := .bool false) 70 rfl rfl (by kernel_rfl) (by kernel_rfl) (by kernel_rfl) (fun _ _ _ h => h) (Or.inl ⟨by rfl, ?_⟩) hHeld ?_
          · intro W hW
            go_simp
          simp only [Act.put, List.setIfInBounds_toArray, List.set_cons_succ, List.set_cons_zero]
          refine wpAnyH_takeAt (i := 5) (v := .bool false) 71 rfl rfl (by kernel_rfl) (by kernel_rfl) (by kernel_rfl) (fun _ _ _ h => h) (Or.inl ⟨by rfl, ?_⟩) hHeld ?_
          · intro W hW
            go_simp
          simp only [Act.put, List.setIfInBounds_toArray, List.set_cons_succ, List.set_cons_zero]
          refine wpAnyH_takeAt (i := 6) (v := .bool true) 72 rfl rfl (by kernel_rfl) (by kernel_rfl) (by kernel_rfl) (fun _ _ _ h => h) (Or.inl ⟨by rfl, ?_⟩) hHeld ?_
          · intro W hW
            go_simp
          simp only [Act.put, List.setIfInBounds_toArray, List.set_cons_succ, List.set_cons_zero]
          refine wpAnyH_takeAt (i := 7) (v := .bool true) 73 rfl rfl (by kernel_rfl) (by kernel_rfl) (by kernel_rfl) (fun _ _ _ h => h) (Or.inl ⟨by rfl, ?_⟩) hHeld ?_
          · intro W hW
            go_simp
          simp only [Act.put, List.setIfInBounds_toArray, List.set_cons_succ, List.set_cons_zero]
          refine wpAnyH_takeAt (i := 8) (v := .int .i64 1) 74 rfl rfl (by kernel_rfl) (by kernel_rfl) (by kernel_rfl) (fun _ _ _ h => h) (Or.inl ⟨by rfl, ?_⟩) hHeld ?_
          · intro W hW
            go_simp
          simp only [Act.put, List.setIfInBounds_toArray, List.set_cons_succ, List.set_cons_zero]
          refine wpAnyH_takeAt (i := 9) (v := .bool false) 75 rfl rfl (by kernel_rfl) (by kernel_rfl) (by kernel_rfl) (fun _ _ _ h => h) (Or.inl ⟨by rfl, ?_⟩) hHeld ?_
          · intro W hW
            go_simp
          simp only [Act.put, List.setIfInBounds_toArray, List.set_cons_succ, List.set_cons_zero]
          refine wpAnyH_takeAt (i := 10) (v := .bool false) 76 rfl rfl (by kernel_rfl) (by kernel_rfl) (by kernel_rfl) (fun _ _ _ h => h) (Or.inl ⟨by rfl, ?_⟩) hHeld ?_
          · intro W hW
            go_simp
          simp only [Act.put, List.setIfInBounds_toArray, List.set_cons_succ, List.set_cons_zero]
          refine wpAnyH_takeAt (i := 11) (v := .bool false) 77 rfl rfl (by kernel_rfl) (by kernel_rfl) (by kernel_rfl) (fun _ _ _ h => h) (Or.inl ⟨by rfl, ?_⟩) hHeld ?_
          · intro W hW
            go_simp
          simp only [Act.put, List.setIfInBounds_toArray, List.set_cons_succ, List.set_cons_zero]
          refine wpAnyH_takeAt (i := 12) (v := .bool false) 78 rfl rfl (by kernel_rfl) (by kernel_rfl) (by kernel_rfl) (fun _ _ _ h => h) (Or.inl ⟨by rfl, ?_⟩) hHeld ?_
          · intro W hW
            go_simp
          simp only [Act.put, List.setIfInBounds_toArray, List.set_cons_succ, List.set_cons_zero]
          refine wpAnyH_takeAt (i := 13) (v := .slice none 0 0) 79 rfl rfl (by kernel_rfl) (by kernel_rfl) (by kernel_rfl) (fun _ _ _ h => h) (Or.inl ⟨by rfl, ?_⟩) hHeld ?_
          · intro W hW
            go_simp
          simp only [Act.put, List.setIfInBounds_toArray, List.set_cons_succ, List.set_cons_zero]
          refine wpAnyH_takeAt (i := 14) (v := .slice none 0 0) 80 rfl rfl (by kernel_rfl) (by kernel_rfl) (by kernel_rfl) (fun _ _ _ h => h) (Or.inl ⟨by rfl, ?_⟩) hHeld ?_
          · intro W hW
            go_simp
          simp only [Act.put, List.setIfInBounds_toArray, List.set_cons_succ, List.set_cons_zero]
          refine wpAnyH_ready (rs := [15]) (by kernel_rfl) (by simp) ?_
          refine AllReadyH.cons rfl (fun K hK => ?_) AllReadyH.nil
          go_simp
          refine (ints_same w4.drew none 0 0 none 0 [] rfl hRL hk1d hk2d).mono ?_
          rintro e w5 ⟨rfl, q5, rfl⟩
          refine hK.out _ _ (k1 q5) (fun hHeld2 => ?_)
          clear hK K hHeld
          have hHeld := hHeld2
          clear hHeld2
          refine wpAnyH_takeAt (i := 16) (v := .bool false) 82 rfl rfl (by kernel_rfl) (by kernel_rfl) (by kernel_rfl) (fun _ _ _ h => h) (Or.inl ⟨by rfl, ?_⟩) hHeld ?_
          · intro W hW
            go_simp
          simp only [Act.put, List.setIfInBounds_toArray, List.set_cons_succ, List.set_cons_zero]
          refine wpAnyH_takeAt (i := 17) (v := .bool false) 83 rfl rfl (by kernel_rfl) (by kernel_rfl) (by kernel_rfl) (fun _ _ _ h => h) (Or.inl ⟨by rfl, ?_⟩) hHeld ?_
          · intro W hW
            go_simp
          simp only [Act.put, List.setIfInBounds_toArray, List.set_cons_succ, List.set_cons_zero]
          refine wpAnyH_takeAt (i := 18) (v := .bool false) 84 rfl rfl (by kernel_rfl) (by kernel_rfl) (by kernel_rfl) (fun _ _ _ h => h) (Or.inl ⟨by rfl, ?_⟩) hHeld ?_
          · intro W hW
            go_simp
          simp only [Act.put, List.setIfInBounds_toArray, List.set_cons_succ, List.set_cons_zero]
          refine wpAnyH_takeAt (i := 19) (v := .slice (some ⟨pb, po, none⟩) k cg) 85 rfl rfl (by kernel_rfl) (by kernel_rfl) (by kernel_rfl) (fun _ _ _ h => h) (Or.inl ⟨by rfl, ?_⟩) hHeld ?_
          · intro W hW
            go_simp
          simp only [Act.put, List.setIfInBounds_toArray, List.set_cons_succ, List.set_cons_zero]
          refine wpAnyH_takeAt (i := 20) (v := .int .i64 (j : Int)) 86 rfl rfl (by kernel_rfl) (by kernel_rfl) (by kernel_rfl) (fun _ _ _ h => h) (Or.inl ⟨by rfl, ?_⟩) hHeld ?_
          · intro W hW
            go_simp
          simp only [Act.put, List.setIfInBounds_toArray, List.set_cons_succ, List.set_cons_zero]
          refine wpAnyH_takeAt (i := 21) (v := .pointer (some ⟨pb, po + j, none⟩)) 87 rfl rfl (by kernel_rfl) (by kernel_rfl) (by kernel_rfl) (fun _ _ _ h => h) (Or.inl ⟨by rfl, ?_⟩) hHeld ?_
          · intro W hW
            go_simp
          simp only [Act.put, List.setIfInBounds_toArray, List.set_cons_succ, List.set_cons_zero]
          refine wpAnyH_takeAt (i := 22) (v := .slice V zs.length cv) 88 rfl rfl (by kernel_rfl) (by kernel_rfl) (by kernel_rfl) (fun _ _ _ h => h) (Or.inl ⟨by rfl, ?_⟩) hHeld ?_
          · intro W hW
            go_simp
          simp only [Act.put, List.setIfInBounds_toArray, List.set_cons_succ, List.set_cons_zero]
          refine wpAnyH_takeAt (i := 23) (v := .int .i64 p) 89 rfl rfl (by kernel_rfl) (by kernel_rfl) (by kernel_rfl) (fun _ _ _ h => h) (Or.inl ⟨by rfl, ?_⟩) hHeld ?_
          · intro W hW
            go_simp
          simp only [Act.put, List.setIfInBounds_toArray, List.set_cons_succ, List.set_cons_zero]
          refine wpAnyH_takeAt (i := 24) (v := .int .i64 sh) 90 rfl rfl (by kernel_rfl) (by kernel_rfl) (by kernel_rfl) (fun _ _ _ h => h) (Or.inl ⟨by rfl, ?_⟩) hHeld ?_
          · intro W hW
            go_simp
          simp only [Act.put, List.setIfInBounds_toArray, List.set_cons_succ, List.set_cons_zero]
          refine wpAnyH_takeAt (i := 26) (v := .slice (some ⟨pb, po, none⟩) k cg) 92 rfl rfl (by kernel_rfl) (by kernel_rfl) (by kernel_rfl) (fun _ _ _ h => h) (Or.inl ⟨by rfl, ?_⟩) hHeld ?_
          · intro W hW
            go_simp
          simp only [Act.put, List.setIfInBounds_toArray, List.set_cons_succ, List.set_cons_zero]
          refine wpAnyH_takeAt (i := 27) (v := .int .i64 (j : Int)) 93 rfl rfl (by kernel_rfl) (by kernel_rfl) (by kernel_rfl) (fun _ _ _ h => h) (Or.inl ⟨by rfl, ?_⟩) hHeld ?_
          · intro W hW
            go_simp
          simp only [Act.put, List.setIfInBounds_toArray, List.set_cons_succ, List.set_cons_zero]
          refine wpAnyH_takeAt (i := 28) (v := .pointer (some ⟨pb, po + j, none⟩)) 94 rfl rfl (by kernel_rfl) (by kernel_rfl) (by kernel_rfl) (fun _ _ _ h => h) (Or.inl ⟨by rfl, ?_⟩) hHeld ?_
          · intro W hW
            go_simp
          simp only [Act.put, List.setIfInBounds_toArray, List.set_cons_succ, List.set_cons_zero]
          refine wpAnyH_takeAt (i := 29) (v := .slice V zs.length cv) 95 rfl rfl (by kernel_rfl) (by kernel_rfl) (by kernel_rfl) (fun _ _ _ h => h) (Or.inl ⟨by rfl, ?_⟩) hHeld ?_
          · intro W hW
            go_simp
          simp only [Act.put, List.setIfInBounds_toArray, List.set_cons_succ, List.set_cons_zero]
          refine wpAnyH_takeAt (i := 30) (v := .int .i64 p) 96 rfl rfl (by kernel_rfl) (by kernel_rfl) (by kernel_rfl) (fun _ _ _ h => h) (Or.inl ⟨by rfl, ?_⟩) hHeld ?_
          · intro W hW
            go_simp
          simp only [Act.put, List.setIfInBounds_toArray, List.set_cons_succ, List.set_cons_zero]
          refine wpAnyH_takeAt (i := 31) (v := .int .i64 sh) 97 rfl rfl (by kernel_rfl) (by kernel_rfl) (by kernel_rfl) (fun _ _ _ h => h) (Or.inl ⟨by rfl, ?_⟩) hHeld ?_
          · intro W hW
            go_simp
          simp only [Act.put, List.setIfInBounds_toArray, List.set_cons_succ, List.set_cons_zero]
          refine wpAnyH_ready (rs := [25]) (by kernel_rfl) (by simp) ?_
          refine AllReadyH.cons rfl (fun K hK => ?_) AllReadyH.nil
          go_simp
          refine (HSC.out (w4.drewN (1 + q5)) (show KIn .i64 (w4.drewN (1 + q5)) V zs from HV4.out)).mono ?_
          rintro e w6 ⟨V6, c6, rfl, k6, b6⟩
          have b6' := undrewN b6
          have HT6 := Lib.hid (HT4.out.step b6')
          have hv6 := HV4.out.below b6' (Nat.le_refl _)
          have s6 := (b6'.cell (p := ⟨pb, po + j, none⟩) (block_lt_of_cell hcell)).trans hcell
          refine hK.out _ _ s6 (fun hHeld2 => ?_)
          clear hK K hHeld
          have hHeld := hHeld2
          clear hHeld2
          refine wpAnyH_ready (rs := [32]) (by kernel_rfl) (by simp) ?_
          refine AllReadyH.cons rfl (fun K hK => ?_) AllReadyH.nil
          go_simp
          refine (HRS.out w6 hv6).mono ?_
          rintro e w7 ⟨V7, c7, rfl, k7, b7⟩
          have HT7 := Lib.hid (HT6.out.step b7)
          have k67 := k6.below b7 (Nat.le_refl _)
          have s7 := (b7.cell (p := ⟨pb, po + j, none⟩) (block_lt_of_cell s6)).trans s6
          refine hK.out _ _ s7 (fun hHeld2 => ?_)
          clear hK K hHeld
          have hHeld := hHeld2
          clear hHeld2
          refine wpAnyH_ready (rs := [33]) (by kernel_rfl) (by simp) ?_
          refine AllReadyH.cons rfl (fun K hK => ?_) AllReadyH.nil
          go_simp
          refine (ints_same w7 V6 _ c6 V7 c7 Q rfl HSL.out k67 k7).mono ?_
          rintro e w8 ⟨rfl, q8, rfl⟩
          refine hK.out _ _ s7 (fun hHeld2 => ?_)
          clear hK K hHeld
          have hHeld := hHeld2
          clear hHeld2
          refine wpAnyH_takeAt (i := 34) (v := .bool false) 100 rfl rfl (by kernel_rfl) (by kernel_rfl) (by kernel_rfl) (fun _ _ _ h => h) (Or.inl ⟨by rfl, ?_⟩) hHeld ?_
          · intro W hW
            go_simp
          simp only [Act.put, List.setIfInBounds_toArray, List.set_cons_succ, List.set_cons_zero]
          refine wpAnyH_takeAt (i := 35) (v := .bool false) 101 rfl rfl (by kernel_rfl) (by kernel_rfl) (by kernel_rfl) (fun _ _ _ h => h) (Or.inl ⟨by rfl, ?_⟩) hHeld ?_
          · intro W hW
            go_simp
          simp only [Act.put, List.setIfInBounds_toArray, List.set_cons_succ, List.set_cons_zero]
          refine wpAnyH_done (by kernel_rfl) ?_ _
          refine NoPanic.normal ?_
          have HT8 := Lib.hid (HT7.out.drewN q8)
          clear HT7 HT6 HT4 K2 K3 HV4 k0 k1 hk1d hk2d k6 k7 k67 b6 b7 s6 s7 hHeld hcell HSC HRS
          have x3 := IntWalk.wrap64_in ((j : Int) + 1) (by omega)
          go_wp2_with (fail)
          exact ⟨⟨j + 1, rfl, HJ.out, HT8.out, HSN.out⟩, vc_less j k hlt⟩
    · have hke : j = k := by omega
      have x0 : ¬ (j : Int) < (k : Int) := by omega
      have x1 : decide ((j : Int) < (k : Int)) = false := decide_eq_false x0
      have hg := HG.out.below HT.out.below (Nat.le_refl _)
      rw [hke] at HS
      clear hke hlt hj x2
      by_cases h0 : k = 0
      · subst h0
        go_wp2_with (fail)
        refine (vecs_plus_none wr G cg).mono ?_
        rintro e w3 ⟨rfl, rfl⟩
        go_wp2_with (fail)
        refine (ref11_plus_none wr G cg).mono ?_
        rintro e w4 ⟨V4, c4, rfl, k4, b4⟩
        have HT4 := Lib.hid (HT.out.step b4)
        clear b4
        go_wp2_with (fail)
        refine (ints_same w4 none 0 0 V4 c4 [] rfl (Nat.zero_le _) (KIn.nil _ _ _) k4).mono ?_
        rintro e w5 ⟨rfl, q5, rfl⟩
        go_wp2_with (fail)
        refine bodyPost_ret (results_tmp rfl _ _ _) rfl ?_
        exact ⟨rfl, (HT4.out.drewN q5).below⟩
      · have h1 : 0 < k := by omega
        have hk4 : k ≤ 4096 := by omega
        by_cases he : evenTo L k
        · have hs := HS.out 0 h1
          have HP := Lib.hid (vecs_plus wr G cg B C L k _ rfl HLL.out h1 hk4 (by omega) hg he)
          have HQ := Lib.hid (fun W (b : Below wr.heap.size wr W) => ref11_plus W G cg B C L k _ rfl HLL.out h1 hk4 (by omega) (hg.below b (Nat.le_refl _)) he)
          have HR := Lib.hid (show (plusL L (L.getD 0 []).length).length ≤ 1000000 by rw [plusL_length]; omega)
          clear hs hg he
          generalize plusL L (L.getD 0 []).length = R at HP HQ HR
          go_wp2_with (fail)
          refine HP.out.mono ?_
          rintro e w3 ⟨V3, c3, rfl, k3, b3⟩
          have HT3 := Lib.hid (HT.out.step b3)
          have HQ3 := Lib.hid (HQ.out w3 b3)
          have K3 := Lib.hid k3
          clear b3 HQ k3
          go_wp2_with (fail)
          refine HQ3.out.mono ?_
          rintro e w4 ⟨V4, c4, rfl, k4, b4⟩
          have HT4 := Lib.hid (HT3.out.step b4)
          have k34 := K3.out.below b4 (Nat.le_refl _)
          clear b4 HT3
          have HK := Lib.hid (And.intro k34 k4)
          clear k34 k4
          go_wp2_with (fail)
          refine (ints_same w4 V3 _ c3 V4 c4 R rfl HR.out HK.out.1 HK.out.2).mono ?_
          rintro e w5 ⟨rfl, q5, rfl⟩
          go_wp2_with (fail)
          refine bodyPost_ret (results_tmp rfl _ _ _) rfl ?_
          exact ⟨rfl, (HT4.out.drewN q5).below⟩
        · have HP := Lib.hid (vecs_plus_not wr G cg B C L k HLL.out h1 hk4 hg he)
          have HQ := Lib.hid (ref11_plus_not wr G cg B C L k HLL.out h1 hk4 hg he)
          clear hg he
          go_wp2_with (fail)
          refine HP.out.mono ?_
          rintro e w3 ⟨rfl, rfl⟩
          go_wp2_with (fail)
          refine HQ.out.mono ?_
          rintro e w4 ⟨rfl, b4⟩
          have HT4 := Lib.hid (HT.out.step b4)
          clear b4
          go_wp2_with (fail)
          refine (ints_same w4 none 0 0 none 0 [] rfl (Nat.zero_le _) (KIn.nil _ _ _) (KIn.nil _ _ _)).mono ?_
          rintro e w5 ⟨rfl, q5, rfl⟩
          go_wp2_with (fail)
          refine bodyPost_ret (results_tmp rfl _ _ _) rfl ?_
          exact ⟨rfl, (HT4.out.drewN q5).below⟩
end Go.Proofs.Ytclobdeaocjnoaa.vecsExact
