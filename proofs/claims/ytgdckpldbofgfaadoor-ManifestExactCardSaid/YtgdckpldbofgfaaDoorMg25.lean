/-
  The walk of ManifestExact. Conditions: both tables of sha lie as the program's text lays them; the sums stand behind the slice; the numbers are ints.
-/
import Derived.Test.YtgdckpldbofgfaaDoorMg19
import Derived.Test.YtgdckpldbofgfaaDoorMg23
import Derived.Test.YtgdckpldbofgfaaDoorMg24
set_option maxRecDepth 100000
namespace Go.Proofs.YtgdckpldbofgfaaDoor.manifestExact
open Go.ChangeShapes Go.WideShapes Go.ChangeAt Go.RowKit Sh Pn Mf

structure Exs (t t2 : TypeId) (w : World) (ub : Nat) (m : Man) (A : Option Addr) (k : Nat) (B : Option Addr) (c : Nat) (W : World) : Prop where
  one : At W w.heap.size t m A k
  two : At W ub t2 m B c
  s1 : SIn W A k m.sums
  s2 : SIn W B c m.sums
  below : Below w.heap.size w W
theorem Exs.step {t t2 : TypeId} {w W W' : World} {ub : Nat} {m : Man} {A : Option Addr} {k : Nat} {B : Option Addr} {c : Nat} (h : Exs t t2 w ub m A k B c W) (hb : Below W.heap.size W W') : Exs t t2 w ub m A k B c W' :=
  ⟨h.one.keep hb, h.two.keep hb, h.s1.keep hb, h.s2.keep hb, h.below.trans (hb.mono h.below.size)⟩
theorem mak_sums (b v c : Int) (p : ByteArray) (f : Nat → UInt8) : (makM b v c p f).1.sums.length ≤ 64 := by
  unfold makM
  split
  · exact Nat.zero_le _
  · show (sumsP _ _ _).length ≤ 64
    rw [sumsP_length]
    exact need_most _
theorem mak_is (b v c : Int) (p : ByteArray) (f : Nat → UInt8) : (isM b v c p f = true ∧ (makM b v c p f).2 = 0) ∨ (isM b v c p f = false ∧ (makM b v c p f).2 = 1) := by
  unfold isM makM
  by_cases h : needM (headP b v c p f) = 0
  · rw [if_pos h, h]
    exact .inr ⟨rfl, rfl⟩
  · rw [if_neg h, decide_eq_true h]
    exact .inl ⟨rfl, rfl⟩
set_option maxRecDepth 100000 in
set_option maxHeartbeats 12800000 in
theorem walk (m : Man) (A : Option Addr) (k : Nat) (a : Int) (p d : ByteArray) (w : World) (hT : Tabs w) (hS : SIn w A k m.sums) (hw : ∀ j, -9223372036854775808 ≤ nthM m j ∧ nthM m j ≤ 9223372036854775807) :
    Calls Tryd.prog 3 #[.agg (manA m A k), .int .i64 a, .string p, .string d] w fun e w' => e = .returned (.bool true) ∧ Below w.heap.size w w' := by
  have HT := Lib.hid hT
  have HSI := Lib.hid hS
  have HW := Lib.hid hw
  have HI := Lib.hid (fun m A k => manI m A k)
  have HI2 := Lib.hid (fun m A k => manI2 m A k)
  have HO := Lib.hid (fun m A k => manA_one m A k)
  have HB0 := Lib.hid ((Below.refl w.heap.size w).alloc (Nat.le_refl _) (.cells (manA m A k) 26))
  have HA0 := Lib.hid (at_new w 26 m A k)
  clear hT hS hw
  go_enter Tryd.func3, Tryd.ntmps3
  go_wp2_with (fail)
  refine (awake20 _ (HT.out.below HB0.out)).mono ?_
  rintro e w1 ⟨rfl, b1⟩
  have A1 := Lib.hid (HA0.out.keep b1)
  have B1 := Lib.hid (HB0.out.trans (b1.mono HB0.out.size))
  have e4 := A1.out.sums
  clear b1 HA0 HB0
  by_cases h1 : 70 < m.sums.length
  · have t1 : decide (70 < (m.sums.length : Int)) = true := decide_eq_true (by omega)
    have t2 : decide (70 < m.sums.length) = true := decide_eq_true h1
    clear h1
    go_wp2_with (fail)
    exact bodyPost_ret (results_tmp rfl _ _ _) rfl ⟨rfl, B1.out⟩
  have t1 : decide (70 < (m.sums.length : Int)) = false := decide_eq_false (by omega)
  have t2 : decide (70 < m.sums.length) = false := decide_eq_false h1
  by_cases h2 : 8192 < p.size
  · have t3 : decide (8192 < (p.size : Int)) = true := decide_eq_true (by omega)
    have t4 : decide (8192 < p.size) = true := decide_eq_true h2
    clear h1 h2
    go_wp2_with (fail)
    exact bodyPost_ret (results_tmp rfl _ _ _) rfl ⟨rfl, B1.out⟩
  have t3 : decide (8192 < (p.size : Int)) = false := decide_eq_false (by omega)
  have t4 : decide (8192 < p.size) = false := decide_eq_false h2
  by_cases h3 : 512 < d.size
  · have t5 : decide (512 < (d.size : Int)) = true := decide_eq_true (by omega)
    have t6 : decide (512 < d.size) = true := decide_eq_true h3
    clear h1 h2 h3
    go_wp2_with (fail)
    exact bodyPost_ret (results_tmp rfl _ _ _) rfl ⟨rfl, B1.out⟩
  have t5 : decide (512 < (d.size : Int)) = false := decide_eq_false (by omega)
  have t6 : decide (512 < d.size) = false := decide_eq_false h3
  have HLN := Lib.hid (show m.sums.length ≤ 70 ∧ p.size ≤ 8192 ∧ d.size ≤ 512 by omega)
  have HMC := Lib.hid A1.out.cells
  clear h1 h2 h3
  go_wp2_with (with_reducible refine wpList_load_row rfl 26 _ rfl _ rfl 26 (manA m A k) (0, 0) _ HMC.out Tryd.underlying26 rfl (HI.out m A k) ?_)
  refine (law20_form w1 m A k (HSI.out.keep B1.out) (by have := HLN.out; omega)).mono ?_
  rintro e w2 ⟨B, c, rfl, s2, b2⟩
  have A2 := Lib.hid (A1.out.keep b2)
  have B2 := Lib.hid (B1.out.trans (b2.mono B1.out.size))
  have S2 := Lib.hid s2
  clear s2 b2 e4 t1 t2 t3 t4 t5 t6 A1 B1 HMC
  have HNW := Lib.hid (show ∀ o, (w2.alloc o).heap[w2.heap.size]? = some o from fun o => heap_alloc_new w2 o)
  have HXA := Lib.hid (fun cc => at_store (w := w2) (t := 30) m B c cc)
  have HXE := Lib.hid (fun cc => show Exs 26 30 w w2.heap.size m A k B c ((w2.alloc (.cells cc 30)).setRow w2.heap.size (manA m B c)) from
    ⟨A2.out.keep (HXA.out cc).2, (HXA.out cc).1, (HSI.out.keep B2.out).keep (HXA.out cc).2, S2.out.keep (HXA.out cc).2, B2.out.trans ((HXA.out cc).2.mono B2.out.size)⟩)
  have HXC := Lib.hid (fun cc => (HXA.out cc).1.cells)
  go_wp2_with (first
    | (with_reducible refine wpList_store_row rfl 30 _ _ rfl _ (manA m B c) rfl rfl 30 _ (HNW.out _) (HI2.out m B c) (by rw [manA_size]; kernel_rfl) (HO.out m B c) ?_)
    | (with_reducible refine wpList_load_row rfl 30 _ rfl _ rfl 30 (manA m B c) (0, 0) _ (HXC.out _) Tryd.underlying30 rfl (HI2.out m B c) ?_))
  refine mf_calls (fun W => Exs 26 30 w w2.heap.size m A k B c W) (HXE.out _) ?_
  rintro w3 x3
  have X3 := Lib.hid x3
  clear x3 HNW HXA HXE HXC A2 B2 S2
  generalize w2.heap.size = ub at *
  refine (ref20_count w3 m B c).mono ?_
  rintro e w4 ⟨rfl, b4⟩
  have X4 := Lib.hid (X3.out.step b4)
  clear b4 X3
  go_upto_region 7 with (fail)
  have HKS := Lib.hid (show ∀ W, Below w4.heap.size w4 W → W.rangeAt w.heap.size 0 (manA m A k).toList ∧ W.rangeAt ub 0 (manA m B c).toList ∧ W.cell? ⟨ub, 4, none⟩ = some (.slice B m.sums.length c) from fun W hW =>
    have h := X4.out.step hW
    ⟨h.one.row, h.two.row, h.two.sums⟩)
  have HX4 := Lib.hid (fun (W : World) (hW : Below w4.heap.size w4 W) => X4.out.step hW)
  have HTB := Lib.hid (fun (W : World) (hW : Below w4.heap.size w4 W) => HT.out.below (X4.out.step hW).below)
  obtain ⟨g, hg⟩ : ∃ g : Bool, decide (0 < countM m) = g := ⟨_, rfl⟩
  have HG1 := Lib.hid (fun (W : World) => show Calls Tryd.prog 10 #[.agg (manA m A k)] W fun e w' => e = .returned (.bool g) ∧ Below W.heap.size W w' from by
    have := mf_good W m A k
    rw [hg] at this
    exact this)
  have HC1 := Lib.hid (fun (W : World) => mf_count W m A k)
  have HL1 := Lib.hid (fun (W : World) => mf_length W m A k a)
  have HL2 := Lib.hid (fun (W : World) => ref20_length W m B c a)
  have HP1 := Lib.hid (fun (W : World) => mf_part W m A k a p (by have := HLN.out; omega))
  have HP2 := Lib.hid (fun (W : World) => ref20_part W m B c a p)
  have HK1 := Lib.hid (fun (W : World) (hW : Below w4.heap.size w4 W) => mf_check W m A k a d (by have := HLN.out; omega) (HX4.out W hW).s1 (HTB.out W hW))
  have HK2 := Lib.hid (fun (W : World) (hW : Below w4.heap.size w4 W) => ref20_check W m B c a d (HX4.out W hW).s2)
  have HR1 := Lib.hid (fun (W : World) (hW : Below w4.heap.size w4 W) => mf_root W m A k (HX4.out W hW).s1 (by have := HLN.out; omega) (HTB.out W hW))
  have HR2 := Lib.hid (fun (W : World) (hW : Below w4.heap.size w4 W) => rootR_any W m.sums B m.sums.length c rfl (by have := HLN.out; omega) (HX4.out W hW).s2)
  have HS1 := Lib.hid (fun (W : World) (hW : Below w4.heap.size w4 W) => show Calls Tryd.prog 20 #[.agg (manA m A k), .agg (manA m A k)] W fun e w' => e = .returned (.bool true) ∧ Below W.heap.size W w' from by
    have := mf_same W m A k m A k (HX4.out W hW).s1 (HX4.out W hW).s1 (by have := HLN.out; omega)
    rw [show sameM m m = true by unfold sameM; rw [same_refl, sameL_self]; simp] at this
    exact this)
  have E : ∀ W, (binOp .neq 24 (.agg (digF (rootF m.sums))) (.agg (digF (rootF m.sums)))).run Tryd.prog W = .ok (.bool false) W := fun W => by rw [run_neq_dig, same_refl]; rfl
  have g1 : decide (0 < (countM m : Int)) = g := by rw [← hg]; simp
  have g2 : decide (0 < countM m) = g := hg
  have g3 : (g != g) = false := bne_self_eq_false _
  have HGG := Lib.hid hg
  have n1 : ((countM m : Int) != (countM m : Int)) = false := bne_self_eq_false _
  have n2 : ((lengthM m a : Int) != (lengthM m a : Int)) = false := bne_self_eq_false _
  have n3 : ((partM m a p).toList != (partM m a p).toList) = false := bne_self_eq_false _
  have n4 : (checkM m a d != checkM m a d) = false := bne_self_eq_false _
  have b00 : Below w4.heap.size w4 w4.drew := below_drewN (Below.refl _ _) 1
  have k0 := HKS.out _ b00
  have HIL1 := Lib.hid (manIL m A k)
  have HIL2 := Lib.hid (manIL2 m B c)
  obtain ⟨N, hN⟩ : ∃ N, countM m = N := ⟨_, rfl⟩
  have HNN := Lib.hid hN
  rw [hN] at HC1 g1 g2 n1 ⊢
  clear hg hN
  generalize lengthM m a = L at *
  generalize partM m a p = X at *
  generalize checkM m a d = ck at *
  generalize rootF m.sums = R at *
  -- HAND
  refine wp_region_noPanic ?_
  refine wp_region_held_drew (S := (fun W : World => W.rangeAt w.heap.size 0 (manA m A k).toList ∧ W.rangeAt ub 0 (manA m B c).toList ∧ W.cell? ⟨ub, 4, none⟩ = some (.slice B m.sums.length c))) (by kernel_rfl) k0 (fun hHeld => ?_)
  refine wpAnyH_takeAt (i := 0) (v := .agg (manA m A k).toList.toArray) 37 rfl rfl (by kernel_rfl) (by kernel_rfl) (by kernel_rfl) (fun _ _ _ h => h) (yieldsIf_load_mid (by rfl) 26 _ rfl w.heap.size (0) rfl (manA m A k).toList _ (fun W hW => hW.1) Tryd.underlying26 rfl HIL1.out) hHeld ?_
  simp only [Act.put, List.setIfInBounds_toArray, List.set_cons_succ, List.set_cons_zero]
  refine wpAnyH_takeAt (i := 2) (v := .int .i64 (N : Int)) 39 rfl rfl (by kernel_rfl) (by kernel_rfl) (by kernel_rfl) (fun _ _ _ h => h) (Or.inl ⟨by rfl, ?_⟩) hHeld ?_
  · intro W hW
    try dsimp only at hW
    go_simp
  simp only [Act.put, List.setIfInBounds_toArray, List.set_cons_succ, List.set_cons_zero]
  refine wpAnyH_takeAt (i := 3) (v := .bool g) 40 rfl rfl (by kernel_rfl) (by kernel_rfl) (by kernel_rfl) (fun _ _ _ h => h) (Or.inl ⟨by rfl, ?_⟩) hHeld ?_
  · intro W hW
    try dsimp only at hW
    go_simp
  simp only [Act.put, List.setIfInBounds_toArray, List.set_cons_succ, List.set_cons_zero]
  refine wpAnyH_ready (rs := [1]) (by kernel_rfl) (by simp) ?_
  refine AllReadyH.cons rfl (fun K hK => ?_) AllReadyH.nil
  go_simp
  refine (HG1.out _).mono ?_
  rintro e v1 ⟨rfl, bb⟩
  have hk1 := b00.trans (bb.mono b00.size)
  clear bb
  refine hK.out _ _ (HKS.out _ hk1) (fun hHeld2 => ?_)
  clear hK K hHeld
  have hHeld := hHeld2
  clear hHeld2
  try simp only [Act.put, List.setIfInBounds_toArray, List.set_cons_succ, List.set_cons_zero]
  refine wpAnyH_takeAt (i := 4) (v := .bool false) 41 rfl rfl (by kernel_rfl) (by kernel_rfl) (by kernel_rfl) (fun _ _ _ h => h) (Or.inl ⟨by rfl, ?_⟩) hHeld ?_
  · intro W hW
    try dsimp only at hW
    go_simp
  simp only [Act.put, List.setIfInBounds_toArray, List.set_cons_succ, List.set_cons_zero]
  refine wpAnyH_takeAt (i := 5) (v := .bool false) 42 rfl rfl (by kernel_rfl) (by kernel_rfl) (by kernel_rfl) (fun _ _ _ h => h) (Or.inl ⟨by rfl, ?_⟩) hHeld ?_
  · intro W hW
    try dsimp only at hW
    go_simp
  simp only [Act.put, List.setIfInBounds_toArray, List.set_cons_succ, List.set_cons_zero]
  refine wpAnyH_takeAt (i := 6) (v := .agg (manA m A k).toList.toArray) 43 rfl rfl (by kernel_rfl) (by kernel_rfl) (by kernel_rfl) (fun _ _ _ h => h) (yieldsIf_load_mid (by rfl) 26 _ rfl w.heap.size (0) rfl (manA m A k).toList _ (fun W hW => hW.1) Tryd.underlying26 rfl HIL1.out) hHeld ?_
  simp only [Act.put, List.setIfInBounds_toArray, List.set_cons_succ, List.set_cons_zero]
  refine wpAnyH_takeAt (i := 8) (v := .int .i64 (N : Int)) 45 rfl rfl (by kernel_rfl) (by kernel_rfl) (by kernel_rfl) (fun _ _ _ h => h) (Or.inl ⟨by rfl, ?_⟩) hHeld ?_
  · intro W hW
    try dsimp only at hW
    go_simp
  simp only [Act.put, List.setIfInBounds_toArray, List.set_cons_succ, List.set_cons_zero]
  refine wpAnyH_ready (rs := [7]) (by kernel_rfl) (by simp) ?_
  refine AllReadyH.cons rfl (fun K hK => ?_) AllReadyH.nil
  go_simp
  refine (HC1.out _).mono ?_
  rintro e v2 ⟨rfl, bb⟩
  have hk2 := hk1.trans (bb.mono hk1.size)
  clear bb
  refine hK.out _ _ (HKS.out _ hk2) (fun hHeld2 => ?_)
  clear hK K hHeld
  have hHeld := hHeld2
  clear hHeld2
  try simp only [Act.put, List.setIfInBounds_toArray, List.set_cons_succ, List.set_cons_zero]
  refine wpAnyH_takeAt (i := 9) (v := .bool false) 46 rfl rfl (by kernel_rfl) (by kernel_rfl) (by kernel_rfl) (fun _ _ _ h => h) (Or.inl ⟨by rfl, ?_⟩) hHeld ?_
  · intro W hW
    try dsimp only at hW
    go_simp
  simp only [Act.put, List.setIfInBounds_toArray, List.set_cons_succ, List.set_cons_zero]
  refine wpAnyH_takeAt (i := 10) (v := .bool false) 47 rfl rfl (by kernel_rfl) (by kernel_rfl) (by kernel_rfl) (fun _ _ _ h => h) (Or.inl ⟨by rfl, ?_⟩) hHeld ?_
  · intro W hW
    try dsimp only at hW
    go_simp
  simp only [Act.put, List.setIfInBounds_toArray, List.set_cons_succ, List.set_cons_zero]
  refine wpAnyH_takeAt (i := 11) (v := .bool false) 48 rfl rfl (by kernel_rfl) (by kernel_rfl) (by kernel_rfl) (fun _ _ _ h => h) (Or.inl ⟨by rfl, ?_⟩) hHeld ?_
  · intro W hW
    try dsimp only at hW
    go_simp
  simp only [Act.put, List.setIfInBounds_toArray, List.set_cons_succ, List.set_cons_zero]
  refine wpAnyH_takeAt (i := 12) (v := .agg (manA m A k).toList.toArray) 49 rfl rfl (by kernel_rfl) (by kernel_rfl) (by kernel_rfl) (fun _ _ _ h => h) (yieldsIf_load_mid (by rfl) 26 _ rfl w.heap.size (0) rfl (manA m A k).toList _ (fun W hW => hW.1) Tryd.underlying26 rfl HIL1.out) hHeld ?_
  simp only [Act.put, List.setIfInBounds_toArray, List.set_cons_succ, List.set_cons_zero]
  refine wpAnyH_takeAt (i := 13) (v := .int .i64 a) 50 rfl rfl (by kernel_rfl) (by kernel_rfl) (by kernel_rfl) (fun _ _ _ h => h) (Or.inl ⟨by rfl, ?_⟩) hHeld ?_
  · intro W hW
    try dsimp only at hW
    go_simp
  simp only [Act.put, List.setIfInBounds_toArray, List.set_cons_succ, List.set_cons_zero]
  refine wpAnyH_takeAt (i := 15) (v := .agg (manA m B c).toList.toArray) 52 rfl rfl (by kernel_rfl) (by kernel_rfl) (by kernel_rfl) (fun _ _ _ h => h) (yieldsIf_load_mid (by rfl) 30 _ rfl ub (0) rfl (manA m B c).toList _ (fun W hW => hW.2.1) Tryd.underlying30 rfl HIL2.out) hHeld ?_
  simp only [Act.put, List.setIfInBounds_toArray, List.set_cons_succ, List.set_cons_zero]
  refine wpAnyH_takeAt (i := 16) (v := .int .i64 a) 53 rfl rfl (by kernel_rfl) (by kernel_rfl) (by kernel_rfl) (fun _ _ _ h => h) (Or.inl ⟨by rfl, ?_⟩) hHeld ?_
  · intro W hW
    try dsimp only at hW
    go_simp
  simp only [Act.put, List.setIfInBounds_toArray, List.set_cons_succ, List.set_cons_zero]
  refine wpAnyH_ready (rs := [14]) (by kernel_rfl) (by simp) ?_
  refine AllReadyH.cons rfl (fun K hK => ?_) AllReadyH.nil
  go_simp
  refine (HL1.out _).mono ?_
  rintro e v3 ⟨rfl, bb⟩
  have hk3 := hk2.trans (bb.mono hk2.size)
  clear bb
  refine hK.out _ _ (HKS.out _ hk3) (fun hHeld2 => ?_)
  clear hK K hHeld
  have hHeld := hHeld2
  clear hHeld2
  try simp only [Act.put, List.setIfInBounds_toArray, List.set_cons_succ, List.set_cons_zero]
  refine wpAnyH_ready (rs := [17]) (by kernel_rfl) (by simp) ?_
  refine AllReadyH.cons rfl (fun K hK => ?_) AllReadyH.nil
  go_simp
  refine (HL2.out _).mono ?_
  rintro e v4 ⟨rfl, bb⟩
  have hk4 := hk3.trans (bb.mono hk3.size)
  clear bb
  refine hK.out _ _ (HKS.out _ hk4) (fun hHeld2 => ?_)
  clear hK K hHeld
  have hHeld := hHeld2
  clear hHeld2
  try simp only [Act.put, List.setIfInBounds_toArray, List.set_cons_succ, List.set_cons_zero]
  refine wpAnyH_takeAt (i := 18) (v := .bool false) 55 rfl rfl (by kernel_rfl) (by kernel_rfl) (by kernel_rfl) (fun _ _ _ h => h) (Or.inl ⟨by rfl, ?_⟩) hHeld ?_
  · intro W hW
    try dsimp only at hW
    go_simp
  simp only [Act.put, List.setIfInBounds_toArray, List.set_cons_succ, List.set_cons_zero]
  refine wpAnyH_takeAt (i := 19) (v := .bool false) 56 rfl rfl (by kernel_rfl) (by kernel_rfl) (by kernel_rfl) (fun _ _ _ h => h) (Or.inl ⟨by rfl, ?_⟩) hHeld ?_
  · intro W hW
    try dsimp only at hW
    go_simp
  simp only [Act.put, List.setIfInBounds_toArray, List.set_cons_succ, List.set_cons_zero]
  refine wpAnyH_takeAt (i := 20) (v := .bool false) 57 rfl rfl (by kernel_rfl) (by kernel_rfl) (by kernel_rfl) (fun _ _ _ h => h) (Or.inl ⟨by rfl, ?_⟩) hHeld ?_
  · intro W hW
    try dsimp only at hW
    go_simp
  simp only [Act.put, List.setIfInBounds_toArray, List.set_cons_succ, List.set_cons_zero]
  refine wpAnyH_takeAt (i := 21) (v := .agg (manA m A k).toList.toArray) 58 rfl rfl (by kernel_rfl) (by kernel_rfl) (by kernel_rfl) (fun _ _ _ h => h) (yieldsIf_load_mid (by rfl) 26 _ rfl w.heap.size (0) rfl (manA m A k).toList _ (fun W hW => hW.1) Tryd.underlying26 rfl HIL1.out) hHeld ?_
  simp only [Act.put, List.setIfInBounds_toArray, List.set_cons_succ, List.set_cons_zero]
  refine wpAnyH_takeAt (i := 22) (v := .int .i64 a) 59 rfl rfl (by kernel_rfl) (by kernel_rfl) (by kernel_rfl) (fun _ _ _ h => h) (Or.inl ⟨by rfl, ?_⟩) hHeld ?_
  · intro W hW
    try dsimp only at hW
    go_simp
  simp only [Act.put, List.setIfInBounds_toArray, List.set_cons_succ, List.set_cons_zero]
  refine wpAnyH_takeAt (i := 23) (v := .string p) 60 rfl rfl (by kernel_rfl) (by kernel_rfl) (by kernel_rfl) (fun _ _ _ h => h) (Or.inl ⟨by rfl, ?_⟩) hHeld ?_
  · intro W hW
    try dsimp only at hW
    go_simp
  simp only [Act.put, List.setIfInBounds_toArray, List.set_cons_succ, List.set_cons_zero]
  refine wpAnyH_takeAt (i := 25) (v := .agg (manA m B c).toList.toArray) 62 rfl rfl (by kernel_rfl) (by kernel_rfl) (by kernel_rfl) (fun _ _ _ h => h) (yieldsIf_load_mid (by rfl) 30 _ rfl ub (0) rfl (manA m B c).toList _ (fun W hW => hW.2.1) Tryd.underlying30 rfl HIL2.out) hHeld ?_
  simp only [Act.put, List.setIfInBounds_toArray, List.set_cons_succ, List.set_cons_zero]
  refine wpAnyH_takeAt (i := 26) (v := .int .i64 a) 63 rfl rfl (by kernel_rfl) (by kernel_rfl) (by kernel_rfl) (fun _ _ _ h => h) (Or.inl ⟨by rfl, ?_⟩) hHeld ?_
  · intro W hW
    try dsimp only at hW
    go_simp
  simp only [Act.put, List.setIfInBounds_toArray, List.set_cons_succ, List.set_cons_zero]
  refine wpAnyH_takeAt (i := 27) (v := .string p) 64 rfl rfl (by kernel_rfl) (by kernel_rfl) (by kernel_rfl) (fun _ _ _ h => h) (Or.inl ⟨by rfl, ?_⟩) hHeld ?_
  · intro W hW
    try dsimp only at hW
    go_simp
  simp only [Act.put, List.setIfInBounds_toArray, List.set_cons_succ, List.set_cons_zero]
  refine wpAnyH_ready (rs := [24]) (by kernel_rfl) (by simp) ?_
  refine AllReadyH.cons rfl (fun K hK => ?_) AllReadyH.nil
  go_simp
  refine (HP1.out _).mono ?_
  rintro e v5 ⟨rfl, bb⟩
  have hk5 := hk4.trans (bb.mono hk4.size)
  clear bb
  refine hK.out _ _ (HKS.out _ hk5) (fun hHeld2 => ?_)
  clear hK K hHeld
  have hHeld := hHeld2
  clear hHeld2
  try simp only [Act.put, List.setIfInBounds_toArray, List.set_cons_succ, List.set_cons_zero]
  refine wpAnyH_ready (rs := [28]) (by kernel_rfl) (by simp) ?_
  refine AllReadyH.cons rfl (fun K hK => ?_) AllReadyH.nil
  go_simp
  refine (HP2.out _).mono ?_
  rintro e v6 ⟨rfl, bb⟩
  have hk6 := hk5.trans (bb.mono hk5.size)
  clear bb
  refine hK.out _ _ (HKS.out _ hk6) (fun hHeld2 => ?_)
  clear hK K hHeld
  have hHeld := hHeld2
  clear hHeld2
  try simp only [Act.put, List.setIfInBounds_toArray, List.set_cons_succ, List.set_cons_zero]
  refine wpAnyH_takeAt (i := 29) (v := .bool false) 66 rfl rfl (by kernel_rfl) (by kernel_rfl) (by kernel_rfl) (fun _ _ _ h => h) (Or.inl ⟨by rfl, ?_⟩) hHeld ?_
  · intro W hW
    try dsimp only at hW
    go_simp
  simp only [Act.put, List.setIfInBounds_toArray, List.set_cons_succ, List.set_cons_zero]
  refine wpAnyH_takeAt (i := 30) (v := .bool false) 67 rfl rfl (by kernel_rfl) (by kernel_rfl) (by kernel_rfl) (fun _ _ _ h => h) (Or.inl ⟨by rfl, ?_⟩) hHeld ?_
  · intro W hW
    try dsimp only at hW
    go_simp
  simp only [Act.put, List.setIfInBounds_toArray, List.set_cons_succ, List.set_cons_zero]
  refine wpAnyH_takeAt (i := 31) (v := .bool false) 68 rfl rfl (by kernel_rfl) (by kernel_rfl) (by kernel_rfl) (fun _ _ _ h => h) (Or.inl ⟨by rfl, ?_⟩) hHeld ?_
  · intro W hW
    try dsimp only at hW
    go_simp
  simp only [Act.put, List.setIfInBounds_toArray, List.set_cons_succ, List.set_cons_zero]
  refine wpAnyH_takeAt (i := 32) (v := .agg (manA m A k).toList.toArray) 69 rfl rfl (by kernel_rfl) (by kernel_rfl) (by kernel_rfl) (fun _ _ _ h => h) (yieldsIf_load_mid (by rfl) 26 _ rfl w.heap.size (0) rfl (manA m A k).toList _ (fun W hW => hW.1) Tryd.underlying26 rfl HIL1.out) hHeld ?_
  simp only [Act.put, List.setIfInBounds_toArray, List.set_cons_succ, List.set_cons_zero]
  refine wpAnyH_takeAt (i := 33) (v := .int .i64 a) 70 rfl rfl (by kernel_rfl) (by kernel_rfl) (by kernel_rfl) (fun _ _ _ h => h) (Or.inl ⟨by rfl, ?_⟩) hHeld ?_
  · intro W hW
    try dsimp only at hW
    go_simp
  simp only [Act.put, List.setIfInBounds_toArray, List.set_cons_succ, List.set_cons_zero]
  refine wpAnyH_takeAt (i := 34) (v := .string d) 71 rfl rfl (by kernel_rfl) (by kernel_rfl) (by kernel_rfl) (fun _ _ _ h => h) (Or.inl ⟨by rfl, ?_⟩) hHeld ?_
  · intro W hW
    try dsimp only at hW
    go_simp
  simp only [Act.put, List.setIfInBounds_toArray, List.set_cons_succ, List.set_cons_zero]
  refine wpAnyH_takeAt (i := 36) (v := .agg (manA m B c).toList.toArray) 73 rfl rfl (by kernel_rfl) (by kernel_rfl) (by kernel_rfl) (fun _ _ _ h => h) (yieldsIf_load_mid (by rfl) 30 _ rfl ub (0) rfl (manA m B c).toList _ (fun W hW => hW.2.1) Tryd.underlying30 rfl HIL2.out) hHeld ?_
  simp only [Act.put, List.setIfInBounds_toArray, List.set_cons_succ, List.set_cons_zero]
  refine wpAnyH_takeAt (i := 37) (v := .int .i64 a) 74 rfl rfl (by kernel_rfl) (by kernel_rfl) (by kernel_rfl) (fun _ _ _ h => h) (Or.inl ⟨by rfl, ?_⟩) hHeld ?_
  · intro W hW
    try dsimp only at hW
    go_simp
  simp only [Act.put, List.setIfInBounds_toArray, List.set_cons_succ, List.set_cons_zero]
  refine wpAnyH_takeAt (i := 38) (v := .string d) 75 rfl rfl (by kernel_rfl) (by kernel_rfl) (by kernel_rfl) (fun _ _ _ h => h) (Or.inl ⟨by rfl, ?_⟩) hHeld ?_
  · intro W hW
    try dsimp only at hW
    go_simp
  simp only [Act.put, List.setIfInBounds_toArray, List.set_cons_succ, List.set_cons_zero]
  refine wpAnyH_ready (rs := [35]) (by kernel_rfl) (by simp) ?_
  refine AllReadyH.cons rfl (fun K hK => ?_) AllReadyH.nil
  go_simp
  refine (HK1.out _ hk6).mono ?_
  rintro e v7 ⟨rfl, bb⟩
  have hk7 := hk6.trans (bb.mono hk6.size)
  clear bb
  refine hK.out _ _ (HKS.out _ hk7) (fun hHeld2 => ?_)
  clear hK K hHeld
  have hHeld := hHeld2
  clear hHeld2
  try simp only [Act.put, List.setIfInBounds_toArray, List.set_cons_succ, List.set_cons_zero]
  refine wpAnyH_ready (rs := [39]) (by kernel_rfl) (by simp) ?_
  refine AllReadyH.cons rfl (fun K hK => ?_) AllReadyH.nil
  go_simp
  refine (HK2.out _ hk7).mono ?_
  rintro e v8 ⟨rfl, bb⟩
  have hk8 := hk7.trans (bb.mono hk7.size)
  clear bb
  refine hK.out _ _ (HKS.out _ hk8) (fun hHeld2 => ?_)
  clear hK K hHeld
  have hHeld := hHeld2
  clear hHeld2
  try simp only [Act.put, List.setIfInBounds_toArray, List.set_cons_succ, List.set_cons_zero]
  refine wpAnyH_takeAt (i := 40) (v := .bool false) 77 rfl rfl (by kernel_rfl) (by kernel_rfl) (by kernel_rfl) (fun _ _ _ h => h) (Or.inl ⟨by rfl, ?_⟩) hHeld ?_
  · intro W hW
    try dsimp only at hW
    go_simp
  simp only [Act.put, List.setIfInBounds_toArray, List.set_cons_succ, List.set_cons_zero]
  refine wpAnyH_takeAt (i := 41) (v := .bool false) 78 rfl rfl (by kernel_rfl) (by kernel_rfl) (by kernel_rfl) (fun _ _ _ h => h) (Or.inl ⟨by rfl, ?_⟩) hHeld ?_
  · intro W hW
    try dsimp only at hW
    go_simp
  simp only [Act.put, List.setIfInBounds_toArray, List.set_cons_succ, List.set_cons_zero]
  refine wpAnyH_takeAt (i := 42) (v := .bool false) 79 rfl rfl (by kernel_rfl) (by kernel_rfl) (by kernel_rfl) (fun _ _ _ h => h) (Or.inl ⟨by rfl, ?_⟩) hHeld ?_
  · intro W hW
    try dsimp only at hW
    go_simp
  simp only [Act.put, List.setIfInBounds_toArray, List.set_cons_succ, List.set_cons_zero]
  refine wpAnyH_takeAt (i := 43) (v := .agg (manA m A k).toList.toArray) 80 rfl rfl (by kernel_rfl) (by kernel_rfl) (by kernel_rfl) (fun _ _ _ h => h) (yieldsIf_load_mid (by rfl) 26 _ rfl w.heap.size (0) rfl (manA m A k).toList _ (fun W hW => hW.1) Tryd.underlying26 rfl HIL1.out) hHeld ?_
  simp only [Act.put, List.setIfInBounds_toArray, List.set_cons_succ, List.set_cons_zero]
  refine wpAnyH_takeAt (i := 45) (v := .pointer (some ⟨ub, 4, none⟩)) 82 rfl rfl (by kernel_rfl) (by kernel_rfl) (by kernel_rfl) (fun _ _ _ h => h) (Or.inl ⟨by rfl, ?_⟩) hHeld ?_
  · intro W hW
    try dsimp only at hW
    go_simp
  simp only [Act.put, List.setIfInBounds_toArray, List.set_cons_succ, List.set_cons_zero]
  refine wpAnyH_takeAt (i := 46) (v := .slice B m.sums.length c) 83 rfl rfl (by kernel_rfl) (by kernel_rfl) (by kernel_rfl) (fun _ _ _ h => h) (Or.inl ⟨by rfl, ?_⟩) hHeld ?_
  · intro W hW
    try dsimp only at hW
    go_simp
  simp only [Act.put, List.setIfInBounds_toArray, List.set_cons_succ, List.set_cons_zero]
  refine wpAnyH_ready (rs := [44]) (by kernel_rfl) (by simp) ?_
  refine AllReadyH.cons rfl (fun K hK => ?_) AllReadyH.nil
  go_simp
  refine (HR1.out _ hk8).mono ?_
  rintro e v9 ⟨rfl, bb⟩
  have hk9 := hk8.trans (bb.mono hk8.size)
  clear bb
  refine hK.out _ _ (HKS.out _ hk9) (fun hHeld2 => ?_)
  clear hK K hHeld
  have hHeld := hHeld2
  clear hHeld2
  try simp only [Act.put, List.setIfInBounds_toArray, List.set_cons_succ, List.set_cons_zero]
  refine wpAnyH_ready (rs := [47]) (by kernel_rfl) (by simp) ?_
  refine AllReadyH.cons rfl (fun K hK => ?_) AllReadyH.nil
  go_simp
  refine (HR2.out _ hk9).mono ?_
  rintro e v10 ⟨rfl, bb⟩
  have hk10 := hk9.trans (bb.mono hk9.size)
  clear bb
  refine hK.out _ _ (HKS.out _ hk10) (fun hHeld2 => ?_)
  clear hK K hHeld
  have hHeld := hHeld2
  clear hHeld2
  try simp only [Act.put, List.setIfInBounds_toArray, List.set_cons_succ, List.set_cons_zero]
  refine wpAnyH_takeAt (i := 48) (v := .bool false) 85 rfl rfl (by kernel_rfl) (by kernel_rfl) (by kernel_rfl) (fun _ _ _ h => h) (Or.inl ⟨by rfl, ?_⟩) hHeld ?_
  · intro W hW
    try dsimp only at hW
    go_simp
  simp only [Act.put, List.setIfInBounds_toArray, List.set_cons_succ, List.set_cons_zero]
  refine wpAnyH_takeAt (i := 49) (v := .bool false) 86 rfl rfl (by kernel_rfl) (by kernel_rfl) (by kernel_rfl) (fun _ _ _ h => h) (Or.inl ⟨by rfl, ?_⟩) hHeld ?_
  · intro W hW
    try dsimp only at hW
    go_simp
  simp only [Act.put, List.setIfInBounds_toArray, List.set_cons_succ, List.set_cons_zero]
  refine wpAnyH_takeAt (i := 50) (v := .bool false) 87 rfl rfl (by kernel_rfl) (by kernel_rfl) (by kernel_rfl) (fun _ _ _ h => h) (Or.inl ⟨by rfl, ?_⟩) hHeld ?_
  · intro W hW
    try dsimp only at hW
    go_simp
  simp only [Act.put, List.setIfInBounds_toArray, List.set_cons_succ, List.set_cons_zero]
  refine wpAnyH_takeAt (i := 51) (v := .agg (manA m A k).toList.toArray) 88 rfl rfl (by kernel_rfl) (by kernel_rfl) (by kernel_rfl) (fun _ _ _ h => h) (yieldsIf_load_mid (by rfl) 26 _ rfl w.heap.size (0) rfl (manA m A k).toList _ (fun W hW => hW.1) Tryd.underlying26 rfl HIL1.out) hHeld ?_
  simp only [Act.put, List.setIfInBounds_toArray, List.set_cons_succ, List.set_cons_zero]
  refine wpAnyH_takeAt (i := 52) (v := .agg (manA m A k).toList.toArray) 89 rfl rfl (by kernel_rfl) (by kernel_rfl) (by kernel_rfl) (fun _ _ _ h => h) (yieldsIf_load_mid (by rfl) 26 _ rfl w.heap.size (0) rfl (manA m A k).toList _ (fun W hW => hW.1) Tryd.underlying26 rfl HIL1.out) hHeld ?_
  simp only [Act.put, List.setIfInBounds_toArray, List.set_cons_succ, List.set_cons_zero]
  refine wpAnyH_ready (rs := [53]) (by kernel_rfl) (by simp) ?_
  refine AllReadyH.cons rfl (fun K hK => ?_) AllReadyH.nil
  go_simp
  refine (HS1.out _ hk10).mono ?_
  rintro e v11 ⟨rfl, bb⟩
  have hk11 := hk10.trans (bb.mono hk10.size)
  clear bb
  refine hK.out _ _ (HKS.out _ hk11) (fun hHeld2 => ?_)
  clear hK K hHeld
  have hHeld := hHeld2
  clear hHeld2
  try simp only [Act.put, List.setIfInBounds_toArray, List.set_cons_succ, List.set_cons_zero]
  refine wpAnyH_takeAt (i := 54) (v := .bool false) 91 rfl rfl (by kernel_rfl) (by kernel_rfl) (by kernel_rfl) (fun _ _ _ h => h) (Or.inl ⟨by rfl, ?_⟩) hHeld ?_
  · intro W hW
    try dsimp only at hW
    go_simp
  simp only [Act.put, List.setIfInBounds_toArray, List.set_cons_succ, List.set_cons_zero]
  refine wpAnyH_takeAt (i := 55) (v := .bool false) 92 rfl rfl (by kernel_rfl) (by kernel_rfl) (by kernel_rfl) (fun _ _ _ h => h) (Or.inl ⟨by rfl, ?_⟩) hHeld ?_
  · intro W hW
    try dsimp only at hW
    go_simp
  simp only [Act.put, List.setIfInBounds_toArray, List.set_cons_succ, List.set_cons_zero]
  refine wpAnyH_done (by kernel_rfl) ?_ _
  refine NoPanic.normal ?_
  -- DNAH
  have X5 := Lib.hid (HX4.out _ hk11)
  clear hHeld E g1 g2 g3 n1 n2 n3 n4 b00 k0 hk1 hk2 hk3 hk4 hk5 hk6 hk7 hk8 hk9 hk10 hk11
  -- TAIL
  have HMC5 := Lib.hid X5.out.one.cells
  have HIR := Lib.hid (digIL m.res)
  have HIR2 := Lib.hid (digRL m.res)
  obtain ⟨pm, hpm⟩ : ∃ pm, makM m.b m.v m.c p m.res = pm := ⟨_, rfl⟩
  obtain ⟨isb, hib⟩ : ∃ isb, isM m.b m.v m.c p m.res = isb := ⟨_, rfl⟩
  have HPS := Lib.hid (show pm.1.sums.length ≤ 64 by rw [← hpm]; exact mak_sums _ _ _ _ _)
  have HPI := Lib.hid (show (isb = true ∧ pm.2 = 0) ∨ (isb = false ∧ pm.2 = 1) by rw [← hpm, ← hib]; exact mak_is _ _ _ _ _)
  have HM1 := Lib.hid (fun (W : World) (hW : Below w.heap.size w W) => show Calls Tryd.prog 23 #[.int .i64 m.b, .int .i64 m.v, .int .i64 m.c, .string p, .agg (digF m.res)] W fun e w' => ∃ A k, e = .returned (.tuple #[.agg (manA pm.1 A k), .int .i64 pm.2]) ∧ SIn w' A k pm.1.sums ∧ Below W.heap.size W w' from by
    have := mf_make W m.b m.v m.c p m.res (by have := HLN.out; omega) (HT.out.below hW)
    rw [hpm] at this
    exact this)
  have HM2 := Lib.hid (fun (W : World) => show Calls Tryd.prog 24 #[.int .i64 m.b, .int .i64 m.v, .int .i64 m.c, .string p, .agg (digF m.res)] W fun e w' => ∃ A k, e = .returned (.tuple #[.agg (manA pm.1 A k), .bool isb]) ∧ SIn w' A k pm.1.sums ∧ Below W.heap.size W w' from by
    have := ref20_make W m.b m.v m.c p m.res (by have := HLN.out; omega)
    rw [hpm, hib] at this
    exact this)
  have HBY := Lib.hid (fun (W : World) (hW : Below w.heap.size w W) (h0 : 0 < countM m) (h1 : SIn W A k m.sums) => mf_bytes W m A k h0 h1 (HT.out.below hW))
  have HBN := Lib.hid (fun (W : World) (h0 : countM m = 0) => mf_bytes_not W m A k h0)
  have HBR := Lib.hid (fun (W : World) (h1 : SIn W B c m.sums) => ref20_bytes W m B c h1 HLN.out.1 HW.out)
  have HTXT := Lib.hid (fun (h0 : 0 < countM m) => show textM m = textR m from text_root (by have := (countM_good h0).2.2; omega))
  clear hpm hib
  obtain ⟨pM, pE⟩ := pm
  have HAL := Lib.hid (fun (W : World) A k C d (h1 : SIn W A k pM.sums) (h2 : SIn W C d pM.sums) => law20_alike W pM A k C d h1 h2 (by have := HPS.out; simp only at this; omega))
  by_cases hn0 : 0 < N
  · have h0 : 0 < countM m := by rw [HNN.out]; exact hn0
    have y1 : decide (0 < (N : Int)) = true := decide_eq_true (by omega)
    have y2 : decide (0 < N) = true := decide_eq_true hn0
    have y3 : ((N : Int) == 0) = false := beq_eq_false_iff_ne.2 (by omega)
    have y4 : (N == 0) = false := beq_eq_false_iff_ne.2 (by omega)
    have HY := Lib.hid (And.intro y1 (And.intro y2 (And.intro y3 y4)))
    have HTE := Lib.hid (HTXT.out h0)
    have H0 := Lib.hid h0
    clear y1 y2 y3 y4 hn0 h0
    go_wp2_with (with_reducible refine wpList_load_row rfl 26 _ rfl _ rfl 26 (manA m A k) (0, 0) _ HMC5.out Tryd.underlying26 rfl (HI.out m A k) ?_)
    refine (HBY.out _ X5.out.below H0.out X5.out.s1).mono ?_
    rintro e w5 ⟨rfl, b5⟩
    have X5' := Lib.hid (X5.out.step b5)
    have HMU := Lib.hid X5'.out.two.cells
    clear b5 X5 HMC5
    rw [HTE.out]
    obtain ⟨y1, y2, y3, y4⟩ := HY.out
    go_wp2_with ((with_reducible refine wpList_load_row_g ?_ 30 _ rfl _ rfl 30 (manA m B c) (0, 0) _ HMU.out Tryd.underlying30 rfl (HI2.out m B c) ?_); rfl)
    refine (HBR.out _ X5'.out.s2).mono ?_
    rintro e w6 ⟨rfl, b6⟩
    have X6 := Lib.hid (X5'.out.step b6)
    have s3 : (((⟨(textR m).toArray⟩ : ByteArray)).toList != ((⟨(textR m).toArray⟩ : ByteArray)).toList) = false := bne_self_eq_false _
    clear b6 X5' HMU
    generalize (⟨(textR m).toArray⟩ : ByteArray) = Y at *
    go_upto_region 12 with (fail)
    clear y1 y2 y3 y4 s3
    have e0 := X6.out.one.base
    have e1 := X6.out.one.ver
    have e3 := X6.out.one.chunk
    have HRES := Lib.hid X6.out.one.res
    go_wp2_with (with_reducible refine wpList_load_mid rfl 24 _ rfl w.heap.size 5 rfl (digF m.res).toList _ HRES.out Tryd.underlying24 rfl HIR.out ?_)
    refine (HM1.out _ X6.out.below).mono ?_
    rintro e w7 ⟨A', k', rfl, s7, b7⟩
    have X7 := Lib.hid (X6.out.step b7)
    have S7 := Lib.hid s7
    clear s7 b7 e0 e1 e3 HRES X6
    have HNW := Lib.hid (show ∀ o, (w7.alloc o).heap[w7.heap.size]? = some o from fun o => heap_alloc_new w7 o)
    have HXA := Lib.hid (fun cc => at_store (w := w7) (t := 26) pM A' k' cc)
    go_upto_region 13 with (with_reducible refine wpList_store_row rfl 26 _ _ rfl _ (manA pM A' k') rfl rfl 26 _ (HNW.out _) (HI.out pM A' k') (by rw [manA_size]; kernel_rfl) (HO.out pM A' k') ?_)
    refine gen_world (fun W => Exs 26 30 w ub m A k B c W ∧ At W w7.heap.size 26 pM A' k' ∧ SIn W A' k' pM.sums) ⟨X7.out.step (HXA.out _).2, (HXA.out _).1, S7.out.keep (HXA.out _).2⟩ ?_
    rintro w8 ⟨x8, a8, s8⟩
    have X8 := Lib.hid x8
    have A8 := Lib.hid a8
    have S8 := Lib.hid s8
    have e0 := x8.one.base
    have e1 := x8.one.ver
    have e3 := x8.one.chunk
    have HRES := Lib.hid x8.two.res
    clear x8 a8 s8 HNW HXA X7 S7
    generalize w7.heap.size = xb at *
    go_wp2_with (with_reducible refine wpList_load_mid rfl 23 _ rfl ub 5 rfl (digF m.res).toList _ HRES.out Tryd.underlying23 rfl HIR2.out ?_)
    refine (HM2.out _).mono ?_
    rintro e w9 ⟨C, dd, rfl, s9, b9⟩
    have X9 := Lib.hid (X8.out.step b9)
    have A9 := Lib.hid (A8.out.keep b9)
    have S9 := Lib.hid (S8.out.keep b9)
    have R9 := Lib.hid s9
    clear s9 b9 e0 e1 e3 HRES X8 A8 S8
    have HNW := Lib.hid (show ∀ o, (w9.alloc o).heap[w9.heap.size]? = some o from fun o => heap_alloc_new w9 o)
    have HXA := Lib.hid (fun cc => at_store (w := w9) (t := 30) pM C dd cc)
    go_upto_region 14 with (with_reducible refine wpList_store_row rfl 30 _ _ rfl _ (manA pM C dd) rfl rfl 30 _ (HNW.out _) (HI2.out pM C dd) (by rw [manA_size]; kernel_rfl) (HO.out pM C dd) ?_)
    refine gen_world (fun W => At W xb 26 pM A' k' ∧ At W w9.heap.size 30 pM C dd ∧ SIn W A' k' pM.sums ∧ SIn W C dd pM.sums ∧ Below w.heap.size w W) ⟨A9.out.keep (HXA.out _).2, (HXA.out _).1, S9.out.keep (HXA.out _).2, R9.out.keep (HXA.out _).2, X9.out.below.trans ((HXA.out _).2.mono X9.out.below.size)⟩ ?_
    rintro w10 ⟨a10, c10, s10, r10, b10⟩
    have HM10 := Lib.hid a10.cells
    have HC10 := Lib.hid c10.cells
    have S10 := Lib.hid s10
    have R10 := Lib.hid r10
    have B10 := Lib.hid b10
    clear a10 c10 s10 r10 b10 HNW HXA X9 A9 S9 R9
    generalize w9.heap.size = yb at *
    rcases HPI.out with ⟨rfl, hp2⟩ | ⟨rfl, hp2⟩
    all_goals
      try dsimp only at hp2
      subst hp2
      go_wp2_with (first
        | ((with_reducible refine wpList_load_row_g ?_ 26 _ rfl _ rfl 26 (manA pM A' k') (0, 0) _ HM10.out Tryd.underlying26 rfl (HI.out pM A' k') ?_); rfl)
        | ((with_reducible refine wpList_load_row_g ?_ 30 _ rfl _ rfl 30 (manA pM C dd) (0, 0) _ HC10.out Tryd.underlying30 rfl (HI2.out pM C dd) ?_); rfl))
      refine (HAL.out _ A' k' C dd S10.out R10.out).mono ?_
      rintro e w11 ⟨rfl, b11⟩
      have B11 := Lib.hid (B10.out.trans (b11.mono B10.out.size))
      clear b11
      go_wp2_with (fail)
      exact bodyPost_ret (results_tmp rfl _ _ _) rfl ⟨rfl, B11.out⟩
  · have h0 : countM m = 0 := by rw [HNN.out]; omega
    have y1 : decide (0 < (N : Int)) = false := decide_eq_false (by omega)
    have y2 : decide (0 < N) = false := decide_eq_false hn0
    have y3 : ((N : Int) == 0) = true := beq_iff_eq.2 (by omega)
    have y4 : (N == 0) = true := beq_iff_eq.2 (by omega)
    have HY := Lib.hid (And.intro y1 (And.intro y2 (And.intro y3 y4)))
    have H0 := Lib.hid h0
    clear y1 y2 y3 y4 hn0 h0
    go_wp2_with (with_reducible refine wpList_load_row rfl 26 _ rfl _ rfl 26 (manA m A k) (0, 0) _ HMC5.out Tryd.underlying26 rfl (HI.out m A k) ?_)
    refine (HBN.out _ H0.out).mono ?_
    rintro e w5 ⟨rfl, b5⟩
    have X6 := Lib.hid (X5.out.step b5)
    clear b5 X5 HMC5
    obtain ⟨y1, y2, y3, y4⟩ := HY.out
    go_upto_region 12 with (fail)
    clear y1 y2 y3 y4
    have e0 := X6.out.one.base
    have e1 := X6.out.one.ver
    have e3 := X6.out.one.chunk
    have HRES := Lib.hid X6.out.one.res
    go_wp2_with (with_reducible refine wpList_load_mid rfl 24 _ rfl w.heap.size 5 rfl (digF m.res).toList _ HRES.out Tryd.underlying24 rfl HIR.out ?_)
    refine (HM1.out _ X6.out.below).mono ?_
    rintro e w7 ⟨A', k', rfl, s7, b7⟩
    have X7 := Lib.hid (X6.out.step b7)
    have S7 := Lib.hid s7
    clear s7 b7 e0 e1 e3 HRES X6
    have HNW := Lib.hid (show ∀ o, (w7.alloc o).heap[w7.heap.size]? = some o from fun o => heap_alloc_new w7 o)
    have HXA := Lib.hid (fun cc => at_store (w := w7) (t := 26) pM A' k' cc)
    go_upto_region 13 with (with_reducible refine wpList_store_row rfl 26 _ _ rfl _ (manA pM A' k') rfl rfl 26 _ (HNW.out _) (HI.out pM A' k') (by rw [manA_size]; kernel_rfl) (HO.out pM A' k') ?_)
    refine gen_world (fun W => Exs 26 30 w ub m A k B c W ∧ At W w7.heap.size 26 pM A' k' ∧ SIn W A' k' pM.sums) ⟨X7.out.step (HXA.out _).2, (HXA.out _).1, S7.out.keep (HXA.out _).2⟩ ?_
    rintro w8 ⟨x8, a8, s8⟩
    have X8 := Lib.hid x8
    have A8 := Lib.hid a8
    have S8 := Lib.hid s8
    have e0 := x8.one.base
    have e1 := x8.one.ver
    have e3 := x8.one.chunk
    have HRES := Lib.hid x8.two.res
    clear x8 a8 s8 HNW HXA X7 S7
    generalize w7.heap.size = xb at *
    go_wp2_with (with_reducible refine wpList_load_mid rfl 23 _ rfl ub 5 rfl (digF m.res).toList _ HRES.out Tryd.underlying23 rfl HIR2.out ?_)
    refine (HM2.out _).mono ?_
    rintro e w9 ⟨C, dd, rfl, s9, b9⟩
    have X9 := Lib.hid (X8.out.step b9)
    have A9 := Lib.hid (A8.out.keep b9)
    have S9 := Lib.hid (S8.out.keep b9)
    have R9 := Lib.hid s9
    clear s9 b9 e0 e1 e3 HRES X8 A8 S8
    have HNW := Lib.hid (show ∀ o, (w9.alloc o).heap[w9.heap.size]? = some o from fun o => heap_alloc_new w9 o)
    have HXA := Lib.hid (fun cc => at_store (w := w9) (t := 30) pM C dd cc)
    go_upto_region 14 with (with_reducible refine wpList_store_row rfl 30 _ _ rfl _ (manA pM C dd) rfl rfl 30 _ (HNW.out _) (HI2.out pM C dd) (by rw [manA_size]; kernel_rfl) (HO.out pM C dd) ?_)
    refine gen_world (fun W => At W xb 26 pM A' k' ∧ At W w9.heap.size 30 pM C dd ∧ SIn W A' k' pM.sums ∧ SIn W C dd pM.sums ∧ Below w.heap.size w W) ⟨A9.out.keep (HXA.out _).2, (HXA.out _).1, S9.out.keep (HXA.out _).2, R9.out.keep (HXA.out _).2, X9.out.below.trans ((HXA.out _).2.mono X9.out.below.size)⟩ ?_
    rintro w10 ⟨a10, c10, s10, r10, b10⟩
    have HM10 := Lib.hid a10.cells
    have HC10 := Lib.hid c10.cells
    have S10 := Lib.hid s10
    have R10 := Lib.hid r10
    have B10 := Lib.hid b10
    clear a10 c10 s10 r10 b10 HNW HXA X9 A9 S9 R9
    generalize w9.heap.size = yb at *
    rcases HPI.out with ⟨rfl, hp2⟩ | ⟨rfl, hp2⟩
    all_goals
      try dsimp only at hp2
      subst hp2
      go_wp2_with (first
        | ((with_reducible refine wpList_load_row_g ?_ 26 _ rfl _ rfl 26 (manA pM A' k') (0, 0) _ HM10.out Tryd.underlying26 rfl (HI.out pM A' k') ?_); rfl)
        | ((with_reducible refine wpList_load_row_g ?_ 30 _ rfl _ rfl 30 (manA pM C dd) (0, 0) _ HC10.out Tryd.underlying30 rfl (HI2.out pM C dd) ?_); rfl))
      refine (HAL.out _ A' k' C dd S10.out R10.out).mono ?_
      rintro e w11 ⟨rfl, b11⟩
      have B11 := Lib.hid (B10.out.trans (b11.mono B10.out.size))
      clear b11
      go_wp2_with (fail)
      exact bodyPost_ret (results_tmp rfl _ _ _) rfl ⟨rfl, B11.out⟩
end Go.Proofs.YtgdckpldbofgfaaDoor.manifestExact
