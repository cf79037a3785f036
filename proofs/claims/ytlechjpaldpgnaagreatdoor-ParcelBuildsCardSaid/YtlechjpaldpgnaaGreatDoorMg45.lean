/-
  The reference of layer 16: Bytes, Good, Parse. Conditions: of Bytes, the shape can be and the weights are a million at most.
-/
import Derived.Test.YtlechjpaldpgnaaGreatDoorMg26
import Derived.Test.YtlechjpaldpgnaaGreatDoorMg44
import Derived.Test.YtlechjpaldpgnaaGreatDoorMg17
import Derived.Test.YtlechjpaldpgnaaGreatDoorMg11
import Derived.Test.YtlechjpaldpgnaaGreatDoorMg8
import Derived.Test.YtlechjpaldpgnaaGreatDoorMg40
import Derived.Test.YtlechjpaldpgnaaGreatDoorMg9
import Derived.Test.YtlechjpaldpgnaaGreatDoorMg24
set_option maxRecDepth 100000
namespace Go.Proofs.YtlechjpaldpgnaaGreatDoor
open Go.ChangeShapes Go.WideShapes Go.ChangeAt Go.RowKit Cf Br

theorem okW (t : ByteArray) : okB t = (decide (24 ≤ t.size) && (okT free (headT t) && (goodZ (cfgT free (headT t)) && decide (((restT t).size : Int) = totZ (cfgT free (headT t)))))) := by
  unfold okB shapeT
  obtain ⟨h1, h2⟩ := read_alike (headT t)
  rw [h1]
  cases hf : okT free (headT t) with
  | false => simp
  | true =>
    rw [h2 hf]
    have hg : goodZ (cfgT free (headT t)) = true := good_iff.2 (okT_iff.1 hf).1
    rw [hg]
    simp
theorem rmInfo (x : Cfg) (s : ByteArray) : (Tryz.prog.info? 67).map (·.size) = some (brA x s).size := by kernel_rfl
theorem rmBuilt (x : Cfg) (s : ByteArray) : Tryz.prog.built 67 [(0, cfV x), (1, .string s)] = some (brA x s) := by kernel_rfl
theorem rmZero : Tryz.prog.built 67 [] = some (brA zeroC ⟨#[]⟩) := by kernel_rfl
set_option maxRecDepth 100000 in
set_option maxHeartbeats 1600000 in
theorem ref16_bytes (w : World) (x : Cfg) (s : ByteArray) (hx : Cf.In x) (hs : s.size ≤ 1000000) :
    Calls Tryz.prog 24 #[Rf.mdV x s] w fun e w' => e = .returned (.string (bytesB x s)) ∧ Below w.heap.size w w' := by
  have HB := Lib.hid (fun W => ref15_bytes W x hx)
  have HS := Lib.hid (cfgB_size x)
  have HE := Lib.hid (show bytesB x s = cfgB x ++ s from rfl)
  generalize cfgB x = C at HB HS HE
  have z1 : ¬ 9223372036854775807 < C.size + s.size := by have := HS.out; omega
  have HBB := Lib.hid (show Below w.heap.size w (w.alloc (Rf.mdO x s)) from (Below.refl w.heap.size w).alloc (Nat.le_refl _) _)
  have HK := Lib.hid (show ∀ W, Below (w.alloc (Rf.mdO x s)).heap.size (w.alloc (Rf.mdO x s)) W → W.cell? ⟨w.heap.size, 0, none⟩ = some (.int .i64 x.v) ∧ W.cell? ⟨w.heap.size, 1, none⟩ = some (.int .i64 x.d) ∧ W.cell? ⟨w.heap.size, 2, none⟩ = some (.int .i64 x.h) ∧ W.cell? ⟨w.heap.size, 3, none⟩ = some (.int .i64 x.b) ∧ W.cell? ⟨w.heap.size, 4, none⟩ = some (.int .i64 x.n) ∧ W.cell? ⟨w.heap.size, 5, none⟩ = some (.int .i64 x.c) ∧ W.cell? ⟨w.heap.size, 6, none⟩ = some (.string s) from fun W hW => Rf.seven ((hW.block _ (by simp)).trans (heap_alloc_new w _)))
  obtain ⟨e0, e1, e2, e3, e4, e5, e6⟩ := HK.out _ (Below.refl _ _)
  clear hx hs
  unfold Rf.mdO Rf.mdV brA cfV cfA at *
  go_enter Tryz.func24, Tryz.ntmps24
  go_wp2_with (fail)
  have k0 := HK.out _ (below_drewN (Below.refl _ _) 1)
  go_region_held3 (fun W : World => W.cell? ⟨w.heap.size, 0, none⟩ = some (.int .i64 x.v) ∧ W.cell? ⟨w.heap.size, 1, none⟩ = some (.int .i64 x.d) ∧ W.cell? ⟨w.heap.size, 2, none⟩ = some (.int .i64 x.h) ∧ W.cell? ⟨w.heap.size, 3, none⟩ = some (.int .i64 x.b) ∧ W.cell? ⟨w.heap.size, 4, none⟩ = some (.int .i64 x.n) ∧ W.cell? ⟨w.heap.size, 5, none⟩ = some (.int .i64 x.c) ∧ W.cell? ⟨w.heap.size, 6, none⟩ = some (.string s)) (first | exact k0 | assumption) (first | (go_at_call 54; (with_reducible refine (HB.out _).mono ?_); rintro e w1 ⟨rfl, b1⟩; have HB1 := Lib.hid ((below_drewN (Below.refl _ _) 1).trans b1); have k1 := HK.out _ HB1.out; clear b1))
  go_wp2_with (fail)
  refine bodyPost_ret (results_tmp rfl _ _ _) rfl ?_
  rw [HE.out]
  exact ⟨rfl, HBB.out.trans (HB1.out.mono HBB.out.size)⟩
set_option maxRecDepth 100000 in
set_option maxHeartbeats 3200000 in
theorem ref16_good (w : World) (x : Cfg) (s : ByteArray) :
    Calls Tryz.prog 83 #[Rf.mdV x s] w fun e w' => e = .returned (.bool (goodZ x && decide ((s.size : Int) = totZ x))) ∧ Below w.heap.size w w' := by
  have HG := Lib.hid (fun W => ref15_good W x)
  have HBB := Lib.hid (show Below w.heap.size w (w.alloc (Rf.mdO x s)) from (Below.refl w.heap.size w).alloc (Nat.le_refl _) _)
  have HK := Lib.hid (show ∀ W, Below (w.alloc (Rf.mdO x s)).heap.size (w.alloc (Rf.mdO x s)) W → W.cell? ⟨w.heap.size, 0, none⟩ = some (.int .i64 x.v) ∧ W.cell? ⟨w.heap.size, 1, none⟩ = some (.int .i64 x.d) ∧ W.cell? ⟨w.heap.size, 2, none⟩ = some (.int .i64 x.h) ∧ W.cell? ⟨w.heap.size, 3, none⟩ = some (.int .i64 x.b) ∧ W.cell? ⟨w.heap.size, 4, none⟩ = some (.int .i64 x.n) ∧ W.cell? ⟨w.heap.size, 5, none⟩ = some (.int .i64 x.c) ∧ W.cell? ⟨w.heap.size, 6, none⟩ = some (.string s) from fun W hW => Rf.seven ((hW.block _ (by simp)).trans (heap_alloc_new w _)))
  cases hg : goodZ x with
  | false =>
    rw [hg] at HG
    clear hg
    unfold Rf.mdO Rf.mdV brA cfV cfA at *
    go_enter Tryz.func83, Tryz.ntmps83
    go_wp2_with (fail)
    have k0 := HK.out _ (below_drewN (Below.refl _ _) 1)
    -- HAND1
    refine wp_region_noPanic ?_
    refine wp_region_held_drew (S := (fun W : World => W.cell? ⟨w.heap.size, 0, none⟩ = some (.int .i64 x.v) ∧ W.cell? ⟨w.heap.size, 1, none⟩ = some (.int .i64 x.d) ∧ W.cell? ⟨w.heap.size, 2, none⟩ = some (.int .i64 x.h) ∧ W.cell? ⟨w.heap.size, 3, none⟩ = some (.int .i64 x.b) ∧ W.cell? ⟨w.heap.size, 4, none⟩ = some (.int .i64 x.n) ∧ W.cell? ⟨w.heap.size, 5, none⟩ = some (.int .i64 x.c) ∧ W.cell? ⟨w.heap.size, 6, none⟩ = some (.string s))) (by kernel_rfl) k0 (fun hHeld => ?_)
    refine wpAnyH_takeAt (i := 0) (v := .pointer (some ⟨w.heap.size, 0, none⟩)) 3 rfl rfl (by kernel_rfl) (by kernel_rfl) (by kernel_rfl) (fun _ _ _ h => h) (Or.inl ⟨by rfl, ?_⟩) hHeld ?_
    · intro W hW
      try dsimp only at hW
      go_simp
    simp only [Act.put, List.setIfInBounds_toArray, List.set_cons_succ, List.set_cons_zero]
    refine wpAnyH_takeAt (i := 1) (v := .agg #[.int .i64 x.v, .int .i64 x.d, .int .i64 x.h, .int .i64 x.b, .int .i64 x.n, .int .i64 x.c]) 4 rfl rfl (by kernel_rfl) (by kernel_rfl) (by kernel_rfl) (fun _ _ _ h => h) (Or.inl ⟨by rfl, ?_⟩) hHeld ?_
    · intro W hW
      try dsimp only at hW
      go_simp
    simp only [Act.put, List.setIfInBounds_toArray, List.set_cons_succ, List.set_cons_zero]
    refine wpAnyH_ready (rs := [2]) (by kernel_rfl) (by simp) ?_
    refine AllReadyH.cons rfl (fun K hK => ?_) AllReadyH.nil
    go_simp
    refine (HG.out _).mono ?_
    rintro e w1 ⟨rfl, b1⟩
    have HB1 := Lib.hid ((below_drewN (Below.refl _ _) 1).trans b1)
    have k1 := HK.out _ HB1.out
    clear b1
    refine hK.out _ _ k1 (fun hHeld2 => ?_)
    clear hK K hHeld
    have hHeld := hHeld2
    clear hHeld2
    try simp only [Act.put, List.setIfInBounds_toArray, List.set_cons_succ, List.set_cons_zero]
    refine wpAnyH_takeAt (i := 3) (v := .bool false) 6 rfl rfl (by kernel_rfl) (by kernel_rfl) (by kernel_rfl) (fun _ _ _ h => h) (Or.inl ⟨by rfl, ?_⟩) hHeld ?_
    · intro W hW
      try dsimp only at hW
      go_simp
    simp only [Act.put, List.setIfInBounds_toArray, List.set_cons_succ, List.set_cons_zero]
    refine wpAnyH_takeAt (i := 4) (v := undef) 7 rfl rfl (by kernel_rfl) (by kernel_rfl) (by kernel_rfl) (fun _ _ _ h => h) (Or.inr ⟨by rfl, rfl⟩) hHeld ?_
    simp only [Act.put, List.setIfInBounds_toArray, List.set_cons_succ, List.set_cons_zero]
    refine wpAnyH_takeAt (i := 5) (v := undef) 8 rfl rfl (by kernel_rfl) (by kernel_rfl) (by kernel_rfl) (fun _ _ _ h => h) (Or.inr ⟨by rfl, rfl⟩) hHeld ?_
    simp only [Act.put, List.setIfInBounds_toArray, List.set_cons_succ, List.set_cons_zero]
    refine wpAnyH_takeAt (i := 6) (v := undef) 9 rfl rfl (by kernel_rfl) (by kernel_rfl) (by kernel_rfl) (fun _ _ _ h => h) (Or.inr ⟨by rfl, rfl⟩) hHeld ?_
    simp only [Act.put, List.setIfInBounds_toArray, List.set_cons_succ, List.set_cons_zero]
    refine wpAnyH_takeAt (i := 7) (v := undef) 10 rfl rfl (by kernel_rfl) (by kernel_rfl) (by kernel_rfl) (fun _ _ _ h => h) (Or.inr ⟨by rfl, rfl⟩) hHeld ?_
    simp only [Act.put, List.setIfInBounds_toArray, List.set_cons_succ, List.set_cons_zero]
    refine wpAnyH_takeAt (i := 8) (v := undef) 11 rfl rfl (by kernel_rfl) (by kernel_rfl) (by kernel_rfl) (fun _ _ _ h => h) (Or.inr ⟨by rfl, rfl⟩) hHeld ?_
    simp only [Act.put, List.setIfInBounds_toArray, List.set_cons_succ, List.set_cons_zero]
    refine wpAnyH_takeAt (i := 9) (v := undef) 12 rfl rfl (by kernel_rfl) (by kernel_rfl) (by kernel_rfl) (fun _ _ _ h => h) (Or.inr ⟨by rfl, rfl⟩) hHeld ?_
    simp only [Act.put, List.setIfInBounds_toArray, List.set_cons_succ, List.set_cons_zero]
    refine wpAnyH_takeAt (i := 10) (v := undef) 13 rfl rfl (by kernel_rfl) (by kernel_rfl) (by kernel_rfl) (fun _ _ _ h => h) (Or.inr ⟨by rfl, rfl⟩) hHeld ?_
    simp only [Act.put, List.setIfInBounds_toArray, List.set_cons_succ, List.set_cons_zero]
    refine wpAnyH_takeAt (i := 11) (v := .bool false) 14 rfl rfl (by kernel_rfl) (by kernel_rfl) (by kernel_rfl) (fun _ _ _ h => h) (Or.inl ⟨by rfl, ?_⟩) hHeld ?_
    · intro W hW
      try dsimp only at hW
      go_simp
    simp only [Act.put, List.setIfInBounds_toArray, List.set_cons_succ, List.set_cons_zero]
    refine wpAnyH_takeAt (i := 12) (v := .bool false) 2 rfl rfl (by kernel_rfl) (by kernel_rfl) (by kernel_rfl) (fun _ _ _ h => h) (Or.inl ⟨by rfl, ?_⟩) hHeld ?_
    · intro W hW
      try dsimp only at hW
      go_simp
    simp only [Act.put, List.setIfInBounds_toArray, List.set_cons_succ, List.set_cons_zero]
    refine wpAnyH_done (by kernel_rfl) ?_ _
    refine NoPanic.normal ?_
    -- DNAH1
    go_wp2_with (fail)
    refine bodyPost_ret (results_tmp rfl _ _ _) rfl ?_
    exact ⟨rfl, HBB.out.trans (HB1.out.mono HBB.out.size)⟩
  | true =>
    rw [hg] at HG
    have HZ := Lib.hid (fun W => ref15_size W x (good_iff.1 hg).is)
    have HQ := Lib.hid (show (true && decide ((s.size : Int) = totZ x)) = ((s.size : Int) == totZ x) by rw [Bool.true_and]; rfl)
    clear hg
    generalize totZ x = tz at *
    unfold Rf.mdO Rf.mdV brA cfV cfA at *
    go_enter Tryz.func83, Tryz.ntmps83
    go_wp2_with (fail)
    have k0 := HK.out _ (below_drewN (Below.refl _ _) 1)
    -- HAND2
    refine wp_region_noPanic ?_
    refine wp_region_held_drew (S := (fun W : World => W.cell? ⟨w.heap.size, 0, none⟩ = some (.int .i64 x.v) ∧ W.cell? ⟨w.heap.size, 1, none⟩ = some (.int .i64 x.d) ∧ W.cell? ⟨w.heap.size, 2, none⟩ = some (.int .i64 x.h) ∧ W.cell? ⟨w.heap.size, 3, none⟩ = some (.int .i64 x.b) ∧ W.cell? ⟨w.heap.size, 4, none⟩ = some (.int .i64 x.n) ∧ W.cell? ⟨w.heap.size, 5, none⟩ = some (.int .i64 x.c) ∧ W.cell? ⟨w.heap.size, 6, none⟩ = some (.string s))) (by kernel_rfl) k0 (fun hHeld => ?_)
    refine wpAnyH_takeAt (i := 0) (v := .pointer (some ⟨w.heap.size, 0, none⟩)) 3 rfl rfl (by kernel_rfl) (by kernel_rfl) (by kernel_rfl) (fun _ _ _ h => h) (Or.inl ⟨by rfl, ?_⟩) hHeld ?_
    · intro W hW
      try dsimp only at hW
      go_simp
    simp only [Act.put, List.setIfInBounds_toArray, List.set_cons_succ, List.set_cons_zero]
    refine wpAnyH_takeAt (i := 1) (v := .agg #[.int .i64 x.v, .int .i64 x.d, .int .i64 x.h, .int .i64 x.b, .int .i64 x.n, .int .i64 x.c]) 4 rfl rfl (by kernel_rfl) (by kernel_rfl) (by kernel_rfl) (fun _ _ _ h => h) (Or.inl ⟨by rfl, ?_⟩) hHeld ?_
    · intro W hW
      try dsimp only at hW
      go_simp
    simp only [Act.put, List.setIfInBounds_toArray, List.set_cons_succ, List.set_cons_zero]
    refine wpAnyH_ready (rs := [2]) (by kernel_rfl) (by simp) ?_
    refine AllReadyH.cons rfl (fun K hK => ?_) AllReadyH.nil
    go_simp
    refine (HG.out _).mono ?_
    rintro e w1 ⟨rfl, b1⟩
    have HB1 := Lib.hid ((below_drewN (Below.refl _ _) 1).trans b1)
    have k1 := HK.out _ HB1.out
    clear b1
    refine hK.out _ _ k1 (fun hHeld2 => ?_)
    clear hK K hHeld
    have hHeld := hHeld2
    clear hHeld2
    try simp only [Act.put, List.setIfInBounds_toArray, List.set_cons_succ, List.set_cons_zero]
    refine wpAnyH_takeAt (i := 3) (v := .bool true) 6 rfl rfl (by kernel_rfl) (by kernel_rfl) (by kernel_rfl) (fun _ _ _ h => h) (Or.inl ⟨by rfl, ?_⟩) hHeld ?_
    · intro W hW
      try dsimp only at hW
      go_simp
    simp only [Act.put, List.setIfInBounds_toArray, List.set_cons_succ, List.set_cons_zero]
    refine wpAnyH_takeAt (i := 4) (v := .pointer (some ⟨w.heap.size, 6, none⟩)) 7 rfl rfl (by kernel_rfl) (by kernel_rfl) (by kernel_rfl) (fun _ _ _ h => h) (Or.inl ⟨by rfl, ?_⟩) hHeld ?_
    · intro W hW
      try dsimp only at hW
      go_simp
    simp only [Act.put, List.setIfInBounds_toArray, List.set_cons_succ, List.set_cons_zero]
    refine wpAnyH_takeAt (i := 5) (v := .string s) 8 rfl rfl (by kernel_rfl) (by kernel_rfl) (by kernel_rfl) (fun _ _ _ h => h) (Or.inl ⟨by rfl, ?_⟩) hHeld ?_
    · intro W hW
      try dsimp only at hW
      go_simp
    simp only [Act.put, List.setIfInBounds_toArray, List.set_cons_succ, List.set_cons_zero]
    refine wpAnyH_takeAt (i := 6) (v := .int .i64 (s.size : Int)) 9 rfl rfl (by kernel_rfl) (by kernel_rfl) (by kernel_rfl) (fun _ _ _ h => h) (Or.inl ⟨by rfl, ?_⟩) hHeld ?_
    · intro W hW
      try dsimp only at hW
      go_simp
    simp only [Act.put, List.setIfInBounds_toArray, List.set_cons_succ, List.set_cons_zero]
    refine wpAnyH_takeAt (i := 7) (v := .pointer (some ⟨w.heap.size, 0, none⟩)) 10 rfl rfl (by kernel_rfl) (by kernel_rfl) (by kernel_rfl) (fun _ _ _ h => h) (Or.inl ⟨by rfl, ?_⟩) hHeld ?_
    · intro W hW
      try dsimp only at hW
      go_simp
    simp only [Act.put, List.setIfInBounds_toArray, List.set_cons_succ, List.set_cons_zero]
    refine wpAnyH_takeAt (i := 8) (v := .agg #[.int .i64 x.v, .int .i64 x.d, .int .i64 x.h, .int .i64 x.b, .int .i64 x.n, .int .i64 x.c]) 11 rfl rfl (by kernel_rfl) (by kernel_rfl) (by kernel_rfl) (fun _ _ _ h => h) (Or.inl ⟨by rfl, ?_⟩) hHeld ?_
    · intro W hW
      try dsimp only at hW
      go_simp
    simp only [Act.put, List.setIfInBounds_toArray, List.set_cons_succ, List.set_cons_zero]
    refine wpAnyH_ready (rs := [9]) (by kernel_rfl) (by simp) ?_
    refine AllReadyH.cons rfl (fun K hK => ?_) AllReadyH.nil
    go_simp
    refine (HZ.out _).mono ?_
    rintro e w2 ⟨rfl, b2⟩
    have HB2 := Lib.hid (HB1.out.trans (b2.mono HB1.out.size))
    have k2 := HK.out _ HB2.out
    clear b2
    refine hK.out _ _ k2 (fun hHeld2 => ?_)
    clear hK K hHeld
    have hHeld := hHeld2
    clear hHeld2
    try simp only [Act.put, List.setIfInBounds_toArray, List.set_cons_succ, List.set_cons_zero]
    refine wpAnyH_takeAt (i := 10) (v := .bool ((s.size : Int) == tz)) 13 rfl rfl (by kernel_rfl) (by kernel_rfl) (by kernel_rfl) (fun _ _ _ h => h) (Or.inl ⟨by rfl, ?_⟩) hHeld ?_
    · intro W hW
      try dsimp only at hW
      go_simp
    simp only [Act.put, List.setIfInBounds_toArray, List.set_cons_succ, List.set_cons_zero]
    refine wpAnyH_takeAt (i := 11) (v := .bool ((s.size : Int) == tz)) 14 rfl rfl (by kernel_rfl) (by kernel_rfl) (by kernel_rfl) (fun _ _ _ h => h) (Or.inl ⟨by rfl, ?_⟩) hHeld ?_
    · intro W hW
      try dsimp only at hW
      go_simp
    simp only [Act.put, List.setIfInBounds_toArray, List.set_cons_succ, List.set_cons_zero]
    refine wpAnyH_takeAt (i := 12) (v := .bool ((s.size : Int) == tz)) 2 rfl rfl (by kernel_rfl) (by kernel_rfl) (by kernel_rfl) (fun _ _ _ h => h) (Or.inl ⟨by rfl, ?_⟩) hHeld ?_
    · intro W hW
      try dsimp only at hW
      go_simp
    simp only [Act.put, List.setIfInBounds_toArray, List.set_cons_succ, List.set_cons_zero]
    refine wpAnyH_done (by kernel_rfl) ?_ _
    refine NoPanic.normal ?_
    -- DNAH2
    go_wp2_with (fail)
    refine bodyPost_ret (results_tmp rfl _ _ _) rfl ?_
    rw [HQ.out]
    exact ⟨rfl, HBB.out.trans (HB2.out.mono HBB.out.size)⟩
theorem rmOne (x : Cfg) (s : ByteArray) : (brA x s).all (·.oneCell') = true := by kernel_rfl
theorem parse_one (t : ByteArray) : ∃ Y, parseW t = .tuple #[cfV Y, .bool (okT free t)] ∧ (okT free t = true → Y = cfgT free t) := by
  unfold parseW
  cases h : okT free t with
  | true => exact ⟨_, if_pos rfl, fun _ => rfl⟩
  | false => exact ⟨zeroC, if_neg (by decide), fun h => by cases h⟩
set_option maxRecDepth 100000 in
set_option maxHeartbeats 3200000 in
theorem ref16_parse (w : World) (t : ByteArray) :
    Calls Tryz.prog 52 #[.string t] w fun e w' => ∃ y u, e = .returned (.tuple #[.agg (brA y u), .bool (okB t)]) ∧ Below w.heap.size w w' := by
  have HI := Lib.hid (fun x s => rmInfo x s)
  have HO := Lib.hid (fun x s => rmOne x s)
  by_cases h : t.size < 24
  · have t0 : (t.size : Int) < 24 := by omega
    have t1 : decide ((t.size : Int) < 24) = true := decide_eq_true t0
    have HV := Lib.hid (show okB t = false by unfold okB; rw [decide_eq_false (by omega)]; rfl)
    clear h
    go_enter Tryz.func52, Tryz.ntmps52
    go_upto_region 1 with (fail)
    refine gen_world (fun W => W.heap[w.heap.size]? = some (.cells (brA zeroC ⟨#[]⟩) 67 (0, 0)) ∧ Below w.heap.size w W) ⟨heap_alloc_new w _, (Below.refl _ _).alloc (Nat.le_refl _) _⟩ ?_
    rintro w1 ⟨r1, b1⟩
    have R1 := Lib.hid r1
    have B1 := Lib.hid b1
    clear r1 b1
    go_wp2_with (first
      | (refine wpList_build_to rfl 67 #[] rfl [] rfl _ rmZero ?_)
      | (with_reducible refine wpList_store_row rfl 67 _ _ rfl _ (brA zeroC ⟨#[]⟩) rfl rfl 67 _ R1.out (HI.out _ _) rfl (HO.out _ _) ?_))
    refine bodyPost_ret (res_cell_tmp rfl _ _ _ 67 _ _ _ rfl (setRow_heap _ _ _ _ _ _ R1.out) Tryz.underlying67 rfl (HI.out _ _)) rfl ?_
    rw [HV.out]
    exact ⟨_, _, rfl, below_setRow' B1.out (Nat.le_refl _) _⟩
  · have t0 : ¬ (t.size : Int) < 24 := by omega
    have t1 : decide ((t.size : Int) < 24) = false := decide_eq_false t0
    have HP := Lib.hid (fun W => ref15_parse W (headT t))
    have HW := Lib.hid (okW t)
    obtain ⟨Y, hY, hYc⟩ := parse_one (headT t)
    rw [hY] at HP
    have HVV := Lib.hid (show okB t = (okT free (headT t) && (goodZ Y && decide (((restT t).size : Int) = totZ Y))) by
      rw [HW.out, decide_eq_true (by omega), Bool.true_and]
      cases hk : okT free (headT t) with
      | false => rfl
      | true => rw [hYc hk])
    have hc := str_to t 24 24 rfl (by omega)
    rw [show t.extract 0 24 = headT t from rfl] at hc
    have hc2 := str_from t 24 24 rfl (by omega)
    rw [show t.extract 24 t.size = restT t from rfl] at hc2
    clear h hY hYc
    generalize okB t = v at *
    generalize okT free (headT t) = kk at *
    generalize headT t = H at *
    generalize restT t = R at *
    have HGD := Lib.hid (fun W => ref16_good W Y R)
    unfold cfV cfA at HP
    go_enter Tryz.func52, Tryz.ntmps52
    go_upto_region 1 with (fail)
    refine gen_world (fun W => W.heap[w.heap.size]? = some (.cells (brA zeroC ⟨#[]⟩) 67 (0, 0)) ∧ Below w.heap.size w W) ⟨heap_alloc_new w _, (Below.refl _ _).alloc (Nat.le_refl _) _⟩ ?_
    rintro w1 ⟨r1, b1⟩
    have R1 := Lib.hid r1
    have B1 := Lib.hid b1
    clear r1 b1
    go_wp2_with (fail)
    refine (HP.out _).mono ?_
    rintro e w2 ⟨rfl, b2⟩
    have R2 := Lib.hid ((b2.block _ (Array.getElem?_eq_some_iff.1 R1.out).1).trans R1.out)
    have B2 := Lib.hid (B1.out.trans (b2.mono B1.out.size))
    clear b2 R1 B1 HP
    go_upto_region 4 with (fail)
    refine gen_world (fun W => W.heap[w.heap.size]? = some (.cells (brA zeroC ⟨#[]⟩) 67 (0, 0)) ∧ W.heap[w2.heap.size]? = some (cfO 60 Y) ∧ Below w.heap.size w W) ⟨(heap_alloc_old _ _ (Array.getElem?_eq_some_iff.1 R2.out).1).trans R2.out, heap_alloc_new w2 _, B2.out.alloc B2.out.size _⟩ ?_
    rintro w3 ⟨r3, c3, b3⟩
    have R3 := Lib.hid r3
    have B3 := Lib.hid b3
    have hs := six c3
    have C3 := Lib.hid c3
    clear r3 b3 c3 R2 B2
    generalize w2.heap.size = cb at *
    have HSX := Lib.hid (show ∀ W, Below w3.heap.size w3 W → W.cell? ⟨cb, 0, none⟩ = some (.int .i64 Y.v) ∧ W.cell? ⟨cb, 1, none⟩ = some (.int .i64 Y.d) ∧ W.cell? ⟨cb, 2, none⟩ = some (.int .i64 Y.h) ∧ W.cell? ⟨cb, 3, none⟩ = some (.int .i64 Y.b) ∧ W.cell? ⟨cb, 4, none⟩ = some (.int .i64 Y.n) ∧ W.cell? ⟨cb, 5, none⟩ = some (.int .i64 Y.c) from fun W hW => six (Cf.stays C3.out hW))
    have HB4 := Lib.hid (show ∀ o, Below w3.heap.size w3 (w3.drew.alloc o) from fun o => (below_drewN (Below.refl _ _) 1).alloc (Nat.le_refl _) o)
    have HN4 := Lib.hid (show ∀ o, (w3.drew.alloc o).heap[w3.heap.size]? = some o from fun o => heap_alloc_new w3.drew o)
    have HB5 := Lib.hid (show ∀ o c, Below w3.heap.size w3 ((w3.drew.alloc o).setRow w3.heap.size c) from fun o c => below_setRow' (HB4.out o) (Nat.le_refl _) c)
    have HN5 := Lib.hid (show ∀ cs c, ((w3.drew.alloc (.cells cs 67)).setRow w3.heap.size c).heap[w3.heap.size]? = some (.cells c 67 (0, 0)) from fun cs c => setRow_heap _ _ _ _ _ _ (heap_alloc_new w3.drew _))
    have k0 : (fun W : World => W.cell? ⟨cb, 0, none⟩ = some (.int .i64 Y.v) ∧ W.cell? ⟨cb, 1, none⟩ = some (.int .i64 Y.d) ∧ W.cell? ⟨cb, 2, none⟩ = some (.int .i64 Y.h) ∧ W.cell? ⟨cb, 3, none⟩ = some (.int .i64 Y.b) ∧ W.cell? ⟨cb, 4, none⟩ = some (.int .i64 Y.n) ∧ W.cell? ⟨cb, 5, none⟩ = some (.int .i64 Y.c)) w3.drew := hs
    go_wp2_with (fail)
    -- HAND3
    refine wp_region_noPanic ?_
    refine wp_region_held_drew (S := (fun W : World => W.cell? ⟨cb, 0, none⟩ = some (.int .i64 Y.v) ∧ W.cell? ⟨cb, 1, none⟩ = some (.int .i64 Y.d) ∧ W.cell? ⟨cb, 2, none⟩ = some (.int .i64 Y.h) ∧ W.cell? ⟨cb, 3, none⟩ = some (.int .i64 Y.b) ∧ W.cell? ⟨cb, 4, none⟩ = some (.int .i64 Y.n) ∧ W.cell? ⟨cb, 5, none⟩ = some (.int .i64 Y.c))) (by kernel_rfl) k0 (fun hHeld => ?_)
    refine wpAnyH_takeAt (i := 0) (v := .agg #[.int .i64 Y.v, .int .i64 Y.d, .int .i64 Y.h, .int .i64 Y.b, .int .i64 Y.n, .int .i64 Y.c]) 17 rfl rfl (by kernel_rfl) (by kernel_rfl) (by kernel_rfl) (fun _ _ _ h => h) (Or.inl ⟨by rfl, ?_⟩) hHeld ?_
    · intro W hW
      try dsimp only at hW
      go_simp
    simp only [Act.put, List.setIfInBounds_toArray, List.set_cons_succ, List.set_cons_zero]
    refine wpAnyH_takeAt (i := 1) (v := .string t) 18 rfl rfl (by kernel_rfl) (by kernel_rfl) (by kernel_rfl) (fun _ _ _ h => h) (Or.inl ⟨by rfl, ?_⟩) hHeld ?_
    · intro W hW
      try dsimp only at hW
      go_simp
    simp only [Act.put, List.setIfInBounds_toArray, List.set_cons_succ, List.set_cons_zero]
    refine wpAnyH_takeAt (i := 2) (v := .string R) 19 rfl rfl (by kernel_rfl) (by kernel_rfl) (by kernel_rfl) (fun _ _ _ h => h) (Or.inl ⟨by rfl, ?_⟩) hHeld ?_
    · intro W hW
      try dsimp only at hW
      go_simp
    simp only [Act.put, List.setIfInBounds_toArray, List.set_cons_succ, List.set_cons_zero]
    refine wpAnyH_takeAt (i := 3) (v := .agg #[.int .i64 Y.v, .int .i64 Y.d, .int .i64 Y.h, .int .i64 Y.b, .int .i64 Y.n, .int .i64 Y.c, .string R]) 20 rfl rfl (by kernel_rfl) (by kernel_rfl) (by kernel_rfl) (fun _ _ _ h => h) (Or.inl ⟨by rfl, ?_⟩) hHeld ?_
    · intro W hW
      try dsimp only at hW
      go_simp
    simp only [Act.put, List.setIfInBounds_toArray, List.set_cons_succ, List.set_cons_zero]
    refine wpAnyH_ready (rs := [4]) (by kernel_rfl) (by simp) ?_
    refine AllReadyH.cons rfl (fun K hK => ?_) AllReadyH.nil
    go_simp
    refine hK.out _ _ (HSX.out _ (HB4.out _)) (fun hHeld2 => ?_)
    clear hK K hHeld
    have hHeld := hHeld2
    clear hHeld2
    try simp only [Act.put, List.setIfInBounds_toArray, List.set_cons_succ, List.set_cons_zero]
    refine wpAnyH_ready (rs := [5]) (by kernel_rfl) (by simp) ?_
    refine AllReadyH.cons rfl (fun K hK => ?_) AllReadyH.nil
    refine step_store_row (by rfl) 67 _ _ (by rfl) w3.heap.size (brA Y R) (by rfl) (by rfl) 67 _ (HN4.out _) (HI.out _ _) (by rfl) (HO.out _ _) ?_
    refine hK.out _ _ (HSX.out _ (HB5.out _ _)) (fun hHeld2 => ?_)
    clear hK K hHeld
    have hHeld := hHeld2
    clear hHeld2
    try simp only [Act.put, List.setIfInBounds_toArray]
    refine wpAnyH_done (by kernel_rfl) ?_ _
    refine NoPanic.normal ?_
    -- DNAH3
    go_upto_region 5 with (fail)
    refine gen_world (fun W => W.heap[w.heap.size]? = some (.cells (brA zeroC ⟨#[]⟩) 67 (0, 0)) ∧ W.heap[w3.heap.size]? = some (.cells (brA Y R) 67 (0, 0)) ∧ Below w.heap.size w W) ⟨((HB5.out _ _).block _ (Array.getElem?_eq_some_iff.1 R3.out).1).trans R3.out, HN5.out _ _, B3.out.trans ((HB5.out _ _).mono B3.out.size)⟩ ?_
    rintro w4 ⟨r4, m4, b4⟩
    have R4 := Lib.hid r4
    have M4 := Lib.hid m4
    have B4 := Lib.hid b4
    clear r4 m4 b4 R3 B3 C3 HSX HB4 HN4 HB5 HN5 k0 hs HW
    generalize w3.heap.size = mb at *
    cases kk with
    | false =>
      have HV := Lib.hid (show v = false from HVV.out)
      clear HVV
      go_wp2_with (first
        | (refine wpList_build_to rfl 67 #[] rfl [] rfl _ rmZero ?_)
        | (with_reducible refine wpList_store_row rfl 67 _ _ rfl _ (brA zeroC ⟨#[]⟩) rfl rfl 67 _ R4.out (HI.out _ _) rfl (HO.out _ _) ?_))
      refine bodyPost_ret (res_cell_tmp rfl _ _ _ 67 _ _ _ rfl (setRow_heap _ _ _ _ _ _ R4.out) Tryz.underlying67 rfl (HI.out _ _)) rfl ?_
      rw [HV.out]
      exact ⟨_, _, rfl, below_setRow' B4.out (Nat.le_refl _) _⟩
    | true =>
      have HV := Lib.hid (show v = (goodZ Y && decide ((R.size : Int) = totZ Y)) from HVV.out)
      clear HVV
      generalize (goodZ Y && decide ((R.size : Int) = totZ Y)) = g at *
      go_wp2_with ((with_reducible refine wpList_load_row_g ?_ 67 _ rfl _ rfl 67 (brA Y R) (0, 0) _ M4.out Tryz.underlying67 rfl (HI.out Y R) ?_); rfl)
      refine (HGD.out _).mono ?_
      rintro e w5 ⟨rfl, b5⟩
      have R5 := Lib.hid ((b5.block _ (Array.getElem?_eq_some_iff.1 R4.out).1).trans R4.out)
      have M5 := Lib.hid ((b5.block _ (Array.getElem?_eq_some_iff.1 M4.out).1).trans M4.out)
      have B5 := Lib.hid (B4.out.trans (b5.mono B4.out.size))
      clear b5 R4 M4 B4
      cases g with
      | false =>
        go_wp2_with (first
          | (refine wpList_build_to rfl 67 #[] rfl [] rfl _ rmZero ?_)
          | (with_reducible refine wpList_store_row rfl 67 _ _ rfl _ (brA zeroC ⟨#[]⟩) rfl rfl 67 _ R5.out (HI.out _ _) rfl (HO.out _ _) ?_))
        refine bodyPost_ret (res_cell_tmp rfl _ _ _ 67 _ _ _ rfl (setRow_heap _ _ _ _ _ _ R5.out) Tryz.underlying67 rfl (HI.out _ _)) rfl ?_
        rw [HV.out]
        exact ⟨_, _, rfl, below_setRow' B5.out (Nat.le_refl _) _⟩
      | true =>
        go_wp2_with (first
          | (with_reducible refine wpList_load_row rfl 67 _ rfl _ rfl 67 (brA Y R) (0, 0) _ M5.out Tryz.underlying67 rfl (HI.out Y R) ?_)
          | (with_reducible refine wpList_store_row rfl 67 _ _ rfl _ (brA Y R) rfl rfl 67 _ R5.out (HI.out _ _) rfl (HO.out _ _) ?_))
        refine bodyPost_ret (res_cell_tmp rfl _ _ _ 67 _ _ _ rfl (setRow_heap _ _ _ _ _ _ R5.out) Tryz.underlying67 rfl (HI.out _ _)) rfl ?_
        rw [HV.out]
        exact ⟨_, _, rfl, below_setRow' B5.out (Nat.le_refl _) _⟩
end Go.Proofs.YtlechjpaldpgnaaGreatDoor
