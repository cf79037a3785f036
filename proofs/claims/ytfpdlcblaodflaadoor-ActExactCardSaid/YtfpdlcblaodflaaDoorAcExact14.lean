/-
  Law 14's ActExact: it answers true, whatever the gates and the row are. Conditions: the table lies where the program looks; the numbers are there, such as an int holds.
-/
import Derived.Test.YtfpdlcblaodflaaDoorAcAwake14
import Derived.Test.YtfpdlcblaodflaaDoorAc3
import Derived.Test.YtfpdlcblaodflaaDoorVcInts
import Derived.Test.YtfpdlcblaodflaaDoorCutInts
import Derived.Test.YtfpdlcblaodflaaDoorTakeAt
namespace Go.Proofs.YtfpdlcblaodflaaDoor.actExact
open Go.ChangeShapes Go.WideShapes Go.ChangeAt Go.RowKit Nm Vc Ac

set_option maxRecDepth 100000 in
set_option maxHeartbeats 800000 in
theorem walk_out (w : World) (G : Option Addr) (m d : Nat) (A : Option Addr) (n c : Nat) (hp : GOn w) (h : 64 < n ∨ 64 < m) :
    Calls Tryd.prog 3 #[.slice G m d, .slice A n c] w fun e w' => e = .returned (.bool true) ∧ Below w.heap.size w w' := by
  by_cases h1 : 64 < m
  · have t0 : 64 < (m : Int) := by omega
    have t1 : decide (64 < (m : Int)) = true := decide_eq_true t0
    clear h
    go_enter Tryd.func3, Tryd.ntmps3
    go_wp2_with (fail)
    refine (awake14 _ hp).mono ?_
    rintro e w1 ⟨rfl, b1⟩
    have B1 := Lib.hid b1
    clear b1
    go_wp2_with (fail)
    refine bodyPost_ret (results_tmp rfl _ _ _) rfl ?_
    exact ⟨rfl, B1.out⟩
  have t0 : ¬ 64 < (m : Int) := by omega
  have t1 : decide (64 < (m : Int)) = false := decide_eq_false t0
  have t2 : 64 < (n : Int) := by omega
  have t3 : decide (64 < (n : Int)) = true := decide_eq_true t2
  clear h h1
  go_enter Tryd.func3, Tryd.ntmps3
  go_wp2_with (fail)
  refine (awake14 _ hp).mono ?_
  rintro e w1 ⟨rfl, b1⟩
  have B1 := Lib.hid b1
  clear b1
  go_wp2_with (fail)
  refine bodyPost_ret (results_tmp rfl _ _ _) rfl ?_
  exact ⟨rfl, B1.out⟩
theorem kin_at {w : World} {pa oa j : Nat} {z : Int} (h : w.cell? ⟨pa, oa + j, none⟩ = some (.int .i64 z)) : KIn .i64 w (some ⟨pa, oa + j, none⟩) [z] := fun _ => ⟨pa, oa + j, rfl, fun i hi => by
  match i, hi with
  | 0, _ => exact h⟩
set_option maxRecDepth 100000 in
set_option maxHeartbeats 3200000 in
theorem walk_in (w : World) (G : Option Addr) (m d : Nat) (gs : List Int) (A : Option Addr) (n c : Nat) (zs : List Int) (hg : gs.length = m) (hz : zs.length = n) (hG : KIn .i64 w G gs) (hA : KIn .i64 w A zs) (fg : FitL gs) (fz : FitL zs) (hcap : n ≤ c) (hp : GOn w) (hn : n ≤ 64) (hm : m ≤ 64) :
    Calls Tryd.prog 3 #[.slice G m d, .slice A n c] w fun e w' => e = .returned (.bool true) ∧ Below w.heap.size w w' := by
  have HA := Lib.hid hA
  have HG := Lib.hid hG
  have HZ := Lib.hid hz
  have HGL := Lib.hid hg
  have FG := Lib.hid fg
  have FZ := Lib.hid fz
  have HP := Lib.hid hp
  have HAL := Lib.hid (fun h0 => hA.low (show 0 < zs.length from h0))
  have t0 : ¬ 64 < (n : Int) := by omega
  have t1 : decide (64 < (n : Int)) = false := decide_eq_false t0
  have t2 : ¬ 64 < (m : Int) := by omega
  have t3 : decide (64 < (m : Int)) = false := decide_eq_false t2
  have HM := Lib.hid (show n ≤ 64 ∧ m ≤ 64 ∧ n ≤ c from ⟨hn, hm, hcap⟩)
  clear hA hG hg hz fg fz hp hm hn hcap
  go_enter Tryd.func3, Tryd.ntmps3
  go_wp2_with (fail)
  refine (awake14 _ HP.out).mono ?_
  rintro e w1 ⟨rfl, b1⟩
  have B1 := Lib.hid b1
  clear b1
  go_wp2_with (fail)
  clear t0 t1 t2 t3
  go_loopw [5] (fun i wr => ∃ j : Nat, i = .int .i64 (j : Int) ∧ j ≤ n ∧ Below w.heap.size w wr) (fun i _ => match i with | .int _ k => n - k.toNat | _ => 0)
  case atStart => exact ⟨0, rfl, Nat.zero_le _, B1.out⟩
  case round =>
    clear B1
    obtain ⟨j, rfl, hj, hb⟩ := hrel
    have HB := Lib.hid hb
    clear hb
    have x2 : 0 ≤ (j : Int) := by omega
    by_cases hlt : j < n
    · have x0 : (j : Int) < (n : Int) := by omega
      have x1 : decide ((j : Int) < (n : Int)) = true := decide_eq_true x0
      have HJ := Lib.hid (show j + 1 ≤ n by omega)
      have hlz : j < zs.length := by rw [HZ.out]; exact hlt
      obtain ⟨pa, oa, rfl, hcA⟩ := HA.out.at hlz
      have hpa : pa < w.heap.size := HAL.out (Nat.lt_of_le_of_lt (Nat.zero_le _) hlz) _ rfl
      have HFJ := Lib.hid (FZ.out j hlz)
      generalize zs.getD j 0 = z at hcA HFJ
      have HK := Lib.hid (fun (W : World) (h : Below w.heap.size w W) => show W.cell? ⟨pa, oa + j, none⟩ = some (.int .i64 z) from (h.cell (p := ⟨pa, oa + j, none⟩) hpa).trans hcA)
      have k0 := HK.out _ HB.out
      have HBD := Lib.hid (show Below w.heap.size w wr.drew from below_drewN HB.out 1)
      have k0' : wr.drew.cell? ⟨pa, oa + j, none⟩ = some (.int .i64 z) := k0
      clear hcA hpa
      have HGA := Lib.hid (fun (W : World) (h : Below w.heap.size w W) => act_gate z W HFJ.out (HP.out.below h (Nat.le_refl _)))
      have HOF := Lib.hid (fun (W : World) (h : Below w.heap.size w W) => act_of z W HFJ.out (HP.out.below h (Nat.le_refl _)))
      have HGR := Lib.hid (ref14_gate z)
      have HPR := Lib.hid (fun (W : World) (h : Below w.heap.size w W) (q : Nat) =>
        show Calls Tryd.prog 10 #[.slice (some ⟨pa, oa + j, none⟩) 1 q, .slice (some ⟨pa, oa + j, none⟩) 1 q] W (fun e w' => ∃ px po q', e = .returned (.slice (some ⟨px, po, none⟩) 1 q') ∧ w'.cell? ⟨px, po, none⟩ = some (.int .i64 (thr z z)) ∧ Below W.heap.size W w') from
          (ref14_pairs W (some ⟨pa, oa + j, none⟩) 1 q [z] (some ⟨pa, oa + j, none⟩) 1 q [z] rfl rfl (by omega) (kin_at (HK.out W h)) (kin_at (HK.out W h))).mono fun e w' ⟨R, q', he, hk, hb⟩ => by
            obtain ⟨px, po, rfl, hc⟩ := hk.at (show 0 < 1 by omega)
            exact ⟨px, po, q', by rw [he]; rfl, hc, hb⟩)
      generalize gate z = y at HGA HGR
      generalize thr z z = v at HOF HPR
      have x3 := IntWalk.wrap64_in ((j : Int) + 1) (by have := HM.out; omega)
      have hy : (y != y) = false := by simp
      have hv : (v != v) = false := by simp
      have x4 : IntKind.i64.wrap ((j : Int) + 1) = (j : Int) + 1 := IntWalk.i64_in _ (by have := HM.out; omega)
      have hcut := cut_lh pa oa n c j (j + 1) (j : Int) ((j : Int) + 1) rfl (by omega) (by omega) (by have := HM.out; omega) (by have := HM.out; omega) 1 (by omega)
      go_wp2_with (fail)
      -- HAND
      refine wp_region_noPanic ?_
      refine wp_region_held_drew (S := (fun W : World => W.cell? ⟨pa, oa + j, none⟩ = some (.int .i64 z))) (by kernel_rfl) k0' (fun hHeld => ?_)
      refine wpAnyH_takeAt (i := 0) (v := .slice (some ⟨pa, oa, none⟩) n c) 22 rfl rfl (by kernel_rfl) (by kernel_rfl) (by kernel_rfl) (fun _ _ _ h => h) (Or.inl ⟨by rfl, ?_⟩) hHeld ?_
      · intro W hW
        try dsimp only at hW
        go_simp
      simp only [Act.put, List.setIfInBounds_toArray, List.set_cons_succ, List.set_cons_zero]
      refine wpAnyH_takeAt (i := 1) (v := .int .i64 (j : Int)) 23 rfl rfl (by kernel_rfl) (by kernel_rfl) (by kernel_rfl) (fun _ _ _ h => h) (Or.inl ⟨by rfl, ?_⟩) hHeld ?_
      · intro W hW
        try dsimp only at hW
        go_simp
      simp only [Act.put, List.setIfInBounds_toArray, List.set_cons_succ, List.set_cons_zero]
      refine wpAnyH_takeAt (i := 2) (v := .pointer (some ⟨pa, oa + j, none⟩)) 24 rfl rfl (by kernel_rfl) (by kernel_rfl) (by kernel_rfl) (fun _ _ _ h => h) (Or.inl ⟨by rfl, ?_⟩) hHeld ?_
      · intro W hW
        try dsimp only at hW
        go_simp
      simp only [Act.put, List.setIfInBounds_toArray, List.set_cons_succ, List.set_cons_zero]
      refine wpAnyH_takeAt (i := 3) (v := .int .i64 z) 25 rfl rfl (by kernel_rfl) (by kernel_rfl) (by kernel_rfl) (fun _ _ _ h => h) (Or.inl ⟨by rfl, ?_⟩) hHeld ?_
      · intro W hW
        try dsimp only at hW
        go_simp
      simp only [Act.put, List.setIfInBounds_toArray, List.set_cons_succ, List.set_cons_zero]
      refine wpAnyH_takeAt (i := 5) (v := .slice (some ⟨pa, oa, none⟩) n c) 27 rfl rfl (by kernel_rfl) (by kernel_rfl) (by kernel_rfl) (fun _ _ _ h => h) (Or.inl ⟨by rfl, ?_⟩) hHeld ?_
      · intro W hW
        try dsimp only at hW
        go_simp
      simp only [Act.put, List.setIfInBounds_toArray, List.set_cons_succ, List.set_cons_zero]
      refine wpAnyH_takeAt (i := 6) (v := .int .i64 (j : Int)) 28 rfl rfl (by kernel_rfl) (by kernel_rfl) (by kernel_rfl) (fun _ _ _ h => h) (Or.inl ⟨by rfl, ?_⟩) hHeld ?_
      · intro W hW
        try dsimp only at hW
        go_simp
      simp only [Act.put, List.setIfInBounds_toArray, List.set_cons_succ, List.set_cons_zero]
      refine wpAnyH_takeAt (i := 7) (v := .pointer (some ⟨pa, oa + j, none⟩)) 29 rfl rfl (by kernel_rfl) (by kernel_rfl) (by kernel_rfl) (fun _ _ _ h => h) (Or.inl ⟨by rfl, ?_⟩) hHeld ?_
      · intro W hW
        try dsimp only at hW
        go_simp
      simp only [Act.put, List.setIfInBounds_toArray, List.set_cons_succ, List.set_cons_zero]
      refine wpAnyH_takeAt (i := 8) (v := .int .i64 z) 30 rfl rfl (by kernel_rfl) (by kernel_rfl) (by kernel_rfl) (fun _ _ _ h => h) (Or.inl ⟨by rfl, ?_⟩) hHeld ?_
      · intro W hW
        try dsimp only at hW
        go_simp
      simp only [Act.put, List.setIfInBounds_toArray, List.set_cons_succ, List.set_cons_zero]
      refine wpAnyH_ready (rs := [4]) (by kernel_rfl) (by simp) ?_
      refine AllReadyH.cons rfl (fun K hK => ?_) AllReadyH.nil
      go_simp
      refine (HGA.out _ HBD.out).mono ?_
      rintro e w4 ⟨rfl, rfl⟩
      refine hK.out _ _ k0' (fun hHeld2 => ?_)
      clear hK K hHeld
      have hHeld := hHeld2
      clear hHeld2
      try simp only [Act.put, List.setIfInBounds_toArray, List.set_cons_succ, List.set_cons_zero]
      refine wpAnyH_ready (rs := [9]) (by kernel_rfl) (by simp) ?_
      refine AllReadyH.cons rfl (fun K hK => ?_) AllReadyH.nil
      go_simp
      refine (HGR.out _).mono ?_
      rintro e w5 ⟨rfl, b5⟩
      have B5 := Lib.hid (HBD.out.trans (b5.mono HBD.out.size))
      have hs5 := HK.out _ B5.out
      clear b5
      refine hK.out _ _ hs5 (fun hHeld2 => ?_)
      clear hK K hHeld
      have hHeld := hHeld2
      clear hHeld2
      try simp only [Act.put, List.setIfInBounds_toArray, List.set_cons_succ, List.set_cons_zero]
      refine wpAnyH_takeAt (i := 10) (v := .bool false) 32 rfl rfl (by kernel_rfl) (by kernel_rfl) (by kernel_rfl) (fun _ _ _ h => h) (Or.inl ⟨by rfl, ?_⟩) hHeld ?_
      · intro W hW
        try dsimp only at hW
        go_simp
      simp only [Act.put, List.setIfInBounds_toArray, List.set_cons_succ, List.set_cons_zero]
      refine wpAnyH_takeAt (i := 11) (v := .bool false) 33 rfl rfl (by kernel_rfl) (by kernel_rfl) (by kernel_rfl) (fun _ _ _ h => h) (Or.inl ⟨by rfl, ?_⟩) hHeld ?_
      · intro W hW
        try dsimp only at hW
        go_simp
      simp only [Act.put, List.setIfInBounds_toArray, List.set_cons_succ, List.set_cons_zero]
      refine wpAnyH_takeAt (i := 12) (v := .slice (some ⟨pa, oa, none⟩) n c) 34 rfl rfl (by kernel_rfl) (by kernel_rfl) (by kernel_rfl) (fun _ _ _ h => h) (Or.inl ⟨by rfl, ?_⟩) hHeld ?_
      · intro W hW
        try dsimp only at hW
        go_simp
      simp only [Act.put, List.setIfInBounds_toArray, List.set_cons_succ, List.set_cons_zero]
      refine wpAnyH_takeAt (i := 13) (v := .int .i64 (j : Int)) 35 rfl rfl (by kernel_rfl) (by kernel_rfl) (by kernel_rfl) (fun _ _ _ h => h) (Or.inl ⟨by rfl, ?_⟩) hHeld ?_
      · intro W hW
        try dsimp only at hW
        go_simp
      simp only [Act.put, List.setIfInBounds_toArray, List.set_cons_succ, List.set_cons_zero]
      refine wpAnyH_takeAt (i := 14) (v := .pointer (some ⟨pa, oa + j, none⟩)) 36 rfl rfl (by kernel_rfl) (by kernel_rfl) (by kernel_rfl) (fun _ _ _ h => h) (Or.inl ⟨by rfl, ?_⟩) hHeld ?_
      · intro W hW
        try dsimp only at hW
        go_simp
      simp only [Act.put, List.setIfInBounds_toArray, List.set_cons_succ, List.set_cons_zero]
      refine wpAnyH_takeAt (i := 15) (v := .int .i64 z) 37 rfl rfl (by kernel_rfl) (by kernel_rfl) (by kernel_rfl) (fun _ _ _ h => h) (Or.inl ⟨by rfl, ?_⟩) hHeld ?_
      · intro W hW
        try dsimp only at hW
        go_simp
      simp only [Act.put, List.setIfInBounds_toArray, List.set_cons_succ, List.set_cons_zero]
      refine wpAnyH_takeAt (i := 17) (v := .slice (some ⟨pa, oa, none⟩) n c) 39 rfl rfl (by kernel_rfl) (by kernel_rfl) (by kernel_rfl) (fun _ _ _ h => h) (Or.inl ⟨by rfl, ?_⟩) hHeld ?_
      · intro W hW
        try dsimp only at hW
        go_simp
      simp only [Act.put, List.setIfInBounds_toArray, List.set_cons_succ, List.set_cons_zero]
      refine wpAnyH_takeAt (i := 18) (v := .int .i64 (j : Int)) 40 rfl rfl (by kernel_rfl) (by kernel_rfl) (by kernel_rfl) (fun _ _ _ h => h) (Or.inl ⟨by rfl, ?_⟩) hHeld ?_
      · intro W hW
        try dsimp only at hW
        go_simp
      simp only [Act.put, List.setIfInBounds_toArray, List.set_cons_succ, List.set_cons_zero]
      refine wpAnyH_takeAt (i := 19) (v := .int .i64 (j : Int)) 41 rfl rfl (by kernel_rfl) (by kernel_rfl) (by kernel_rfl) (fun _ _ _ h => h) (Or.inl ⟨by rfl, ?_⟩) hHeld ?_
      · intro W hW
        try dsimp only at hW
        go_simp
      simp only [Act.put, List.setIfInBounds_toArray, List.set_cons_succ, List.set_cons_zero]
      refine wpAnyH_takeAt (i := 20) (v := .int .i64 ((j : Int) + 1)) 42 rfl rfl (by kernel_rfl) (by kernel_rfl) (by kernel_rfl) (fun _ _ _ h => h) (Or.inl ⟨by rfl, ?_⟩) hHeld ?_
      · intro W hW
        try dsimp only at hW
        go_simp
      simp only [Act.put, List.setIfInBounds_toArray, List.set_cons_succ, List.set_cons_zero]
      refine wpAnyH_takeAt (i := 21) (v := .slice (some ⟨pa, oa + j, none⟩) 1 (c - j)) 43 rfl rfl (by kernel_rfl) (by kernel_rfl) (by kernel_rfl) (fun _ _ _ h => h) (Or.inl ⟨by rfl, ?_⟩) hHeld ?_
      · intro W hW
        try dsimp only at hW
        go_simp
      simp only [Act.put, List.setIfInBounds_toArray, List.set_cons_succ, List.set_cons_zero]
      refine wpAnyH_takeAt (i := 22) (v := .slice (some ⟨pa, oa, none⟩) n c) 44 rfl rfl (by kernel_rfl) (by kernel_rfl) (by kernel_rfl) (fun _ _ _ h => h) (Or.inl ⟨by rfl, ?_⟩) hHeld ?_
      · intro W hW
        try dsimp only at hW
        go_simp
      simp only [Act.put, List.setIfInBounds_toArray, List.set_cons_succ, List.set_cons_zero]
      refine wpAnyH_takeAt (i := 23) (v := .int .i64 (j : Int)) 45 rfl rfl (by kernel_rfl) (by kernel_rfl) (by kernel_rfl) (fun _ _ _ h => h) (Or.inl ⟨by rfl, ?_⟩) hHeld ?_
      · intro W hW
        try dsimp only at hW
        go_simp
      simp only [Act.put, List.setIfInBounds_toArray, List.set_cons_succ, List.set_cons_zero]
      refine wpAnyH_takeAt (i := 24) (v := .int .i64 (j : Int)) 46 rfl rfl (by kernel_rfl) (by kernel_rfl) (by kernel_rfl) (fun _ _ _ h => h) (Or.inl ⟨by rfl, ?_⟩) hHeld ?_
      · intro W hW
        try dsimp only at hW
        go_simp
      simp only [Act.put, List.setIfInBounds_toArray, List.set_cons_succ, List.set_cons_zero]
      refine wpAnyH_takeAt (i := 25) (v := .int .i64 ((j : Int) + 1)) 47 rfl rfl (by kernel_rfl) (by kernel_rfl) (by kernel_rfl) (fun _ _ _ h => h) (Or.inl ⟨by rfl, ?_⟩) hHeld ?_
      · intro W hW
        try dsimp only at hW
        go_simp
      simp only [Act.put, List.setIfInBounds_toArray, List.set_cons_succ, List.set_cons_zero]
      refine wpAnyH_takeAt (i := 26) (v := .slice (some ⟨pa, oa + j, none⟩) 1 (c - j)) 48 rfl rfl (by kernel_rfl) (by kernel_rfl) (by kernel_rfl) (fun _ _ _ h => h) (Or.inl ⟨by rfl, ?_⟩) hHeld ?_
      · intro W hW
        try dsimp only at hW
        go_simp
      simp only [Act.put, List.setIfInBounds_toArray, List.set_cons_succ, List.set_cons_zero]
      refine wpAnyH_ready (rs := [16]) (by kernel_rfl) (by simp) ?_
      refine AllReadyH.cons rfl (fun K hK => ?_) AllReadyH.nil
      go_simp
      refine (HOF.out _ B5.out).mono ?_
      rintro e w6 ⟨rfl, k6, rfl⟩
      have B6 := Lib.hid (below_drewN B5.out k6)
      have hs6 := HK.out _ B6.out
      refine hK.out _ _ hs6 (fun hHeld2 => ?_)
      clear hK K hHeld
      have hHeld := hHeld2
      clear hHeld2
      try simp only [Act.put, List.setIfInBounds_toArray, List.set_cons_succ, List.set_cons_zero]
      refine wpAnyH_ready (rs := [27]) (by kernel_rfl) (by simp) ?_
      refine AllReadyH.cons rfl (fun K hK => ?_) AllReadyH.nil
      go_simp
      refine (HPR.out _ B6.out _).mono ?_
      rintro e w7 ⟨px, po, q7, rfl, hc7, b7⟩
      have B7 := Lib.hid (B6.out.trans (b7.mono B6.out.size))
      have hs7 := HK.out _ B7.out
      clear b7
      refine hK.out _ _ hs7 (fun hHeld2 => ?_)
      clear hK K hHeld
      have hHeld := hHeld2
      clear hHeld2
      try simp only [Act.put, List.setIfInBounds_toArray, List.set_cons_succ, List.set_cons_zero]
      refine wpAnyH_takeAt (i := 28) (v := .pointer (some ⟨px, po, none⟩)) 50 rfl rfl (by kernel_rfl) (by kernel_rfl) (by kernel_rfl) (fun _ _ _ h => h) (Or.inl ⟨by rfl, ?_⟩) hHeld ?_
      · intro W hW
        try dsimp only at hW
        go_simp
      simp only [Act.put, List.setIfInBounds_toArray, List.set_cons_succ, List.set_cons_zero]
      refine wpAnyH_ready (rs := [29]) (by kernel_rfl) (by simp) ?_
      refine AllReadyH.cons rfl (fun K hK => ?_) AllReadyH.nil
      go_simp
      refine hK.out _ _ hs7 (fun hHeld2 => ?_)
      clear hK K hHeld
      have hHeld := hHeld2
      clear hHeld2
      try simp only [Act.put, List.setIfInBounds_toArray, List.set_cons_succ, List.set_cons_zero]
      refine wpAnyH_takeAt (i := 30) (v := .bool false) 52 rfl rfl (by kernel_rfl) (by kernel_rfl) (by kernel_rfl) (fun _ _ _ h => h) (Or.inl ⟨by rfl, ?_⟩) hHeld ?_
      · intro W hW
        try dsimp only at hW
        go_simp
      simp only [Act.put, List.setIfInBounds_toArray, List.set_cons_succ, List.set_cons_zero]
      refine wpAnyH_takeAt (i := 31) (v := .bool false) 53 rfl rfl (by kernel_rfl) (by kernel_rfl) (by kernel_rfl) (fun _ _ _ h => h) (Or.inl ⟨by rfl, ?_⟩) hHeld ?_
      · intro W hW
        try dsimp only at hW
        go_simp
      simp only [Act.put, List.setIfInBounds_toArray, List.set_cons_succ, List.set_cons_zero]
      refine wpAnyH_done (by kernel_rfl) ?_ _
      refine NoPanic.normal ?_
      -- DNAH
      go_wp2_with (fail)
      exact ⟨⟨j + 1, rfl, HJ.out, B7.out⟩, vc_less j n hlt⟩
    · have hke : j = n := by omega
      have x0 : ¬ (j : Int) < (n : Int) := by omega
      have x1 : decide ((j : Int) < (n : Int)) = false := decide_eq_false x0
      subst hke
      have A1 := Lib.hid (HA.out.below HB.out (Nat.le_refl _))
      have G1 := Lib.hid (HG.out.below HB.out (Nat.le_refl _))
      have P1 := Lib.hid (HP.out.below HB.out (Nat.le_refl _))
      have HL1 := Lib.hid (show (pairsL zs zs).length = j by rw [pairsL_length rfl, HZ.out])
      have HLM := Lib.hid (show (pairsL gs zs).length ≤ 64 by
        by_cases h : gs.length = zs.length
        · rw [pairsL_length h, HZ.out]; exact HM.out.1
        · rw [pairsL_not h]; exact Nat.zero_le _)
      clear HA HG HP HAL hlt
      generalize wr = w1 at HB A1 G1 P1 ⊢
      go_wp2_with (fail)
      refine (act_all w1 A j c zs HZ.out (by have := HM.out; omega) A1.out FZ.out P1.out).mono ?_
      rintro e w2 ⟨g2, rfl, _, o2, b2⟩
      have B2 := Lib.hid (HB.out.trans (b2.mono HB.out.size))
      have A2 := Lib.hid (A1.out.below b2 (Nat.le_refl _))
      have G2 := Lib.hid (G1.out.below b2 (Nat.le_refl _))
      have P2 := Lib.hid (P1.out.below b2 (Nat.le_refl _))
      have K2 := Lib.hid (Own.kin o2)
      clear o2 b2 HB A1 G1 P1
      have HR2 := Lib.hid (ref14_pairs w2 A j c zs A j c zs HZ.out HZ.out (by have := HM.out; omega) A2.out A2.out)
      generalize pairsL zs zs = L at K2 HR2 HL1
      go_wp2_with (fail)
      refine HR2.out.mono ?_
      rintro e w3 ⟨R3, c3, rfl, k3, b3⟩
      have B3 := Lib.hid (B2.out.trans (b3.mono B2.out.size))
      have A3 := Lib.hid (A2.out.below b3 (Nat.le_refl _))
      have G3 := Lib.hid (G2.out.below b3 (Nat.le_refl _))
      have P3 := Lib.hid (P2.out.below b3 (Nat.le_refl _))
      have K23 := Lib.hid (K2.out.below b3 (Nat.le_refl _))
      have K3 := Lib.hid k3
      clear k3 b3 B2 A2 G2 P2 K2 HR2
      rw [HL1.out]
      go_wp2_with (fail)
      refine (ints_same w3 _ j _ R3 c3 L HL1.out (by have := HM.out; omega) K23.out K3.out).mono ?_
      rintro e w4 ⟨rfl, d4, rfl⟩
      have B4 := Lib.hid (below_drewN B3.out d4)
      have A4 := Lib.hid (A3.out.drewN d4)
      have G4 := Lib.hid (G3.out.drewN d4)
      have P4 := Lib.hid (P3.out.drewN d4)
      clear K23 K3 B3 A3 G3 P3 HL1
      generalize w3.drewN d4 = w4 at B4 A4 G4 P4 ⊢
      go_wp2_with (fail)
      refine (act_pairs w4 G m d gs A j c zs HGL.out HZ.out (by have := HM.out; omega) G4.out A4.out FG.out P4.out).mono ?_
      rintro e w5 ⟨R5, c5, rfl, k5, b5⟩
      have B5 := Lib.hid (B4.out.trans (b5.mono B4.out.size))
      have A5 := Lib.hid (A4.out.below b5 (Nat.le_refl _))
      have G5 := Lib.hid (G4.out.below b5 (Nat.le_refl _))
      have K5 := Lib.hid k5
      clear k5 b5 B4 A4 G4 P4
      have HR5 := Lib.hid (ref14_pairs w5 G m d gs A j c zs HGL.out HZ.out (by have := HM.out; omega) G5.out A5.out)
      generalize pairsL gs zs = M at K5 HR5 HLM ⊢
      generalize hll : M.length = l at HLM ⊢
      go_wp2_with (fail)
      refine HR5.out.mono ?_
      rintro e w6 ⟨R6, c6, rfl, k6, b6⟩
      have B6 := Lib.hid (B5.out.trans (b6.mono B5.out.size))
      have K56 := Lib.hid (K5.out.below b6 (Nat.le_refl _))
      have K6 := Lib.hid k6
      clear k6 b6 B5 A5 G5 K5 HR5
      rw [hll]
      go_wp2_with (fail)
      refine (ints_same w6 R5 l c5 R6 c6 M hll (by have := HLM.out; omega) K56.out K6.out).mono ?_
      rintro e w7 ⟨rfl, d7, rfl⟩
      have B7 := Lib.hid (below_drewN B6.out d7)
      clear K56 K6 B6 hll HLM
      generalize w6.drewN d7 = w7 at B7 ⊢
      go_wp2_with (fail)
      refine bodyPost_ret (results_tmp rfl _ _ _) rfl ?_
      exact ⟨rfl, B7.out⟩
theorem walk (w : World) (G : Option Addr) (m d : Nat) (gs : List Int) (A : Option Addr) (n c : Nat) (zs : List Int) (hg : gs.length = m) (hz : zs.length = n) (hG : KIn .i64 w G gs) (hA : KIn .i64 w A zs) (fg : FitL gs) (fz : FitL zs) (hcap : n ≤ c) (hp : GOn w) :
    Calls Tryd.prog 3 #[.slice G m d, .slice A n c] w fun e w' => e = .returned (.bool true) ∧ Below w.heap.size w w' := by
  by_cases h : 64 < n ∨ 64 < m
  · exact walk_out w G m d A n c hp h
  · exact walk_in w G m d gs A n c zs hg hz hG hA fg fz hcap hp (by omega) (by omega)
end Go.Proofs.YtfpdlcblaodflaaDoor.actExact
