/-
  Package parcel: New. Conditions: the sums stand behind the slice, at most a thousand.
  Package parcel: Put. Conditions: the parcel stands in its blocks; both tables of sha lie as the program's text lays them; a chunk has fewer than 2^47 bytes.
  Package parcel: Text. Condition: the parcel stands in its blocks.
-/
import Derived.Test.YtlechjpaldpgnaaGreatDoorMg26
import Derived.Test.YtlechjpaldpgnaaGreatDoorMg25
import Derived.Test.YtlechjpaldpgnaaGreatDoorMg27
import Derived.Test.YtlechjpaldpgnaaGreatDoorMg9
import Derived.Test.YtlechjpaldpgnaaGreatDoorMg24
import Derived.Test.YtlechjpaldpgnaaGreatDoorMg3
import Derived.Lib.LazyBuf
set_option maxRecDepth 100000
namespace Go.Proofs.YtlechjpaldpgnaaGreatDoor
open Go.ChangeShapes Go.WideShapes Go.ChangeAt Go.RowKit Sh Pn Mf Bt Pc

theorem dcells_one' (L : List (Nat → UInt8)) : ∀ u ∈ dcells L, u.oneCell' = true := fun u hu => by
  unfold dcells at hu
  obtain ⟨f, _, h⟩ := List.mem_flatMap.1 hu
  exact Array.all_eq_true_iff_forall_mem.1 (hoDig f) u (by simpa using h)
theorem own_formG {w : World} {base : Nat} {e : TypeId} {size n : Nat} {v : Value} {xs : List Value} (h : w.ownsRow base e size v n xs) (hv : v ≠ .slice none 0 0) : ∃ g cap, v = .slice (some ⟨g, 0, none⟩) n cap ∧ base ≤ g := by
  rcases h.2 with ⟨hn, _⟩ | ⟨g, cap, cur, rfl, hb, _⟩
  · exact absurd hn hv
  · exact ⟨g, cap, rfl, hb⟩
theorem own_sin {w : World} {base g n c : Nat} {e : TypeId} {L : List (Nat → UInt8)} (hL : L.length = n) (h : w.ownsRow base e 32 (.slice (some ⟨g, 0, none⟩) n c) n (dcells L)) : SIn w (some ⟨g, 0, none⟩) c L := by
  rcases h.2 with ⟨h1, h2⟩ | ⟨g', cap, cur, hv, _, _, hc, _⟩
  · cases h1
  · injection hv with h3 _ h5
    refine ⟨by omega, fun _ => ⟨g, 0, rfl, fun j u hj => ?_⟩⟩
    have := h.cells (g := g) rfl j u hj
    rwa [Addr.add_lit] at this
set_option maxRecDepth 100000 in
set_option maxHeartbeats 800000 in
theorem clone_digs (w : World) (A : Option Addr) (n c : Nat) (L : List (Nat → UInt8)) (hL : L.length = n) (h1 : 1 ≤ n) (hn : n ≤ 1000) (hS : SIn w A c L) :
    Calls Tryz.prog 33 #[.slice A n c] w fun e w' => ∃ t ct, e = .returned (.slice (some ⟨t, 0, none⟩) n ct) ∧ SIn w' (some ⟨t, 0, none⟩) ct L ∧ w.heap.size ≤ t ∧ Below w.heap.size w w' := by
  obtain ⟨pb, po, rfl, hd⟩ := hS.2 (by omega)
  have HD := Lib.hid (digs_lt hd (by omega))
  obtain ⟨i0, hi, hz0, hz1, hz2⟩ := info_parts infoD
  have HI := Lib.hid hi
  have HZ0 := Lib.hid hz0
  have HZ1 := Lib.hid hz1
  have HZ2 := Lib.hid hz2
  have HZS := Lib.hid (show (Value.agg (digF fun _ => 0)).cells.size = 32 from vals_size 32 _)
  have HN := Lib.hid hn
  have HL := Lib.hid hL
  have HLN := Lib.hid (show (dcells L).length = n * 32 by rw [dcells_length, hL, Nat.mul_comm])
  have HO1 := Lib.hid (dcells_one' L)
  have HOWN := Lib.hid (show (w.alloc (.cells #[] 24)).ownsRow w.heap.size 24 32 (.slice (some ⟨w.heap.size, 0, none⟩) 0 0) 0 [] from World.ownsRow_made w #[] 0 (Nat.le_refl _) (Nat.zero_le _) rfl)
  have HSRC := Lib.hid (show ∀ j u, (dcells L)[j]? = some u → (w.alloc (.cells #[] 24)).cell? ((⟨pb, po, none⟩ : Addr).add j) = some u from fun j u hj => by
    rw [Addr.add_lit, World.cell?_alloc_lt _ _ _ HD.out]
    exact hd j u hj)
  clear hi hz0 hz1 hz2 hn hd hS hL
  have heq : ∀ W : World, (binOp .eql 22 (.slice (some ⟨pb, po, none⟩) n c) (.slice none 0 0)).run Tryz.prog W = .ok (.bool false) W := fun W => run_eql_slice_nil W _ _ _ n c Tryz.underlying22
  go_enter Tryz.func33, Tryz.ntmps33
  go_wp2_with (first
    | (with_reducible refine wpList_buildNone rfl 22 24 rfl i0 Tryz.underlying22 HI.out ?_)
    | (at_builtin; refine wpList_append_own _ rfl (.tmp 5) (.tmp 6) 22 rfl w.heap.size 24 i0 _ 32 32 Tryz.underlying22 HI.out HZ0.out HZ1.out HZ2.out HZS.out (by omega) (.slice (some ⟨w.heap.size, 0, none⟩) 0 0) 0 [] rfl HOWN.out ⟨pb, po, none⟩ n c (dcells L) rfl HLN.out HSRC.out HO1.out (by have := HN.out; unfold maxLen; omega) (by have := HN.out; omega) (by simp) ?_; intro v9 w9 hown9 hg9 hnil; obtain ⟨g9, c9, rfl, hg9b⟩ := own_formG hown9 (fun h' => by have := (hnil.1 h').1; simp at this)))
  rw [Nat.zero_add, List.nil_append] at hown9
  have hb := ((Below.refl w.heap.size w).alloc (Nat.le_refl _) (.cells #[] 24)).grown hg9 (by simp) (fun k hk => by
    have : k = w.heap.size := by simpa [Value.ownBlock] using hk.symm
    omega)
  refine bodyPost_ret (results_tmp rfl _ _ _) rfl ?_
  exact ⟨g9, c9, rfl, own_sin HL.out hown9, hg9b, hb⟩
theorem pcBuilt (m : Man) (A : Option Addr) (k sb ab n : Nat) : Tryz.prog.built 44 [(0, .agg (manA m A k)), (1, .pointer (some ⟨sb, 0, none⟩)), (2, .slice (some ⟨ab, 0, none⟩) n n)] = some (manA m A k ++ tailP sb ab n) := by kernel_rfl
theorem infoSt : (Tryz.prog.info? 9).map (fun i => (i.zero, i.size, i.bytes)) = some (some (.string ⟨#[]⟩), 1, 16) := by kernel_rfl
theorem new_ends {B : Nat} {w5 W : World} {m : Man} {t ct : Nat} (hBt : B ≤ t) (_hBw : B ≤ w5.heap.size) (hS : SIn w5 (some ⟨t, 0, none⟩) ct m.sums) (n1 : 1 ≤ m.sums.length) (n2 : m.sums.length ≤ 64) (hb : Below w5.heap.size w5 W) (sb ab : Nat) (h1 : w5.heap.size ≤ sb) (h2 : w5.heap.size ≤ ab) (hne : sb ≠ ab)
    (hs : W.heap[sb]? = some (sobj m.sums.length fun _ => false)) (hr : W.rowIs ab 9 m.sums.length (fun _ => .string ⟨#[]⟩)) :
    Pcl B (W.alloc (.cells (manA m (some ⟨t, 0, none⟩) ct ++ tailP sb ab m.sums.length) 44)) W.heap.size m (some ⟨t, 0, none⟩) ct sb ab noQ ∧ Below w5.heap.size w5 (W.alloc (.cells (manA m (some ⟨t, 0, none⟩) ct ++ tailP sb ab m.sums.length) 44)) := by
  have hA : Below W.heap.size W (W.alloc (.cells (manA m (some ⟨t, 0, none⟩) ct ++ tailP sb ab m.sums.length) 44)) := (Below.refl _ _).alloc (Nat.le_refl _) _
  have hls := sobj_lt hs
  have hla := hr.lt
  have hsz := hb.size
  have ht := sin_lt hS n1 _ rfl
  simp only at ht
  refine ⟨⟨⟨heap_alloc_new W _⟩, (hS.keep hb).keep hA, sobj_below hs hA, hr.of_block (hA.block _ hla), n1, n2, fun _ => Nat.zero_le _, by omega, by omega, hne, fun ad e => ?_, by omega, by omega, by omega, fun ad e => ?_⟩, hb.trans (hA.mono hsz)⟩
  · injection e with e
    subst e
    exact ⟨by show t ≠ sb; omega, by show t ≠ ab; omega⟩
  · injection e with e
    subst e
    exact hBt
theorem pc_new_not (w : World) (m : Man) (A : Option Addr) (k : Nat) (h : countM m = 0) :
    Calls Tryz.prog 8 #[.agg (manA m A k)] w fun e w' => e = .returned (.tuple #[.pointer none, .int .i64 1]) ∧ Below w.heap.size w w' := by
  have HG := Lib.hid (fun W => mf_good W m A k)
  rw [h] at HG
  have HC := Lib.hid (at_new w 26 m A k).cells
  have HB := Lib.hid ((Below.refl w.heap.size w).alloc (Nat.le_refl _) (.cells (manA m A k) 26))
  clear h
  go_enter Tryz.func8, Tryz.ntmps8
  go_wp2_with (with_reducible refine wpList_load_row rfl 26 _ rfl _ rfl 26 (manA m A k) (0, 0) _ HC.out Tryz.underlying26 rfl (manI m A k) ?_)
  refine (HG.out _).mono ?_
  rintro e w1 ⟨rfl, b1⟩
  have B1 := Lib.hid (HB.out.trans (b1.mono HB.out.size))
  clear b1
  go_wp2_with (fail)
  refine bodyPost_ret (results_tmp2 rfl _ _ _) rfl ?_
  exact ⟨rfl, B1.out⟩
set_option maxRecDepth 100000 in
set_option maxHeartbeats 3200000 in
theorem pc_new (w : World) (m : Man) (A : Option Addr) (k : Nat) (h : 0 < countM m) (hS : SIn w A k m.sums) :
    Calls Tryz.prog 8 #[.agg (manA m A k)] w fun e w' => ∃ p sb ab t ct, e = .returned (.tuple #[.pointer (some ⟨p, 0, none⟩), .int .i64 0]) ∧ Pcl w.heap.size w' p m (some ⟨t, 0, none⟩) ct sb ab noQ ∧ Below w.heap.size w w' := by
  obtain ⟨hg, hl, hcn⟩ := countM_good h
  have hgi := headB_iff.1 hg
  have hn1 : 1 ≤ m.sums.length := by omega
  have hn2 : m.sums.length ≤ 64 := by omega
  have HN := Lib.hid (And.intro hn1 hn2)
  have HG := Lib.hid (fun W => mf_good W m A k)
  rw [decide_eq_true h] at HG
  have HCO := Lib.hid (fun W => mf_count W m A k)
  rw [hcn] at HCO
  have HSI := Lib.hid hS
  have HA := Lib.hid (at_new w 26 m A k)
  have HB := Lib.hid ((Below.refl w.heap.size w).alloc (Nat.le_refl _) (.cells (manA m A k) 26))
  have HC := Lib.hid HA.out.cells
  clear h hS hg hl hcn hgi
  go_enter Tryz.func8, Tryz.ntmps8
  go_wp2_with (with_reducible refine wpList_load_row rfl 26 _ rfl _ rfl 26 (manA m A k) (0, 0) _ HC.out Tryz.underlying26 rfl (manI m A k) ?_)
  refine (HG.out _).mono ?_
  rintro e w1 ⟨rfl, b1⟩
  have A1 := Lib.hid (HA.out.keep b1)
  have B1 := Lib.hid (HB.out.trans (b1.mono HB.out.size))
  have C1 := Lib.hid A1.out.cells
  clear b1 HA HB HC
  go_wp2_with (with_reducible refine wpList_load_row rfl 26 _ rfl _ rfl 26 (manA m A k) (0, 0) _ C1.out Tryz.underlying26 rfl (manI m A k) ?_)
  refine (HCO.out _).mono ?_
  rintro e w2 ⟨rfl, b2⟩
  have A2 := Lib.hid (A1.out.keep b2)
  have B2 := Lib.hid (B1.out.trans (b2.mono B1.out.size))
  have e4 := A2.out.sums
  clear b2 A1 B1 C1
  go_wp2_with (fail)
  refine (clone_digs w2 A m.sums.length k m.sums rfl hn1 (by omega) (HSI.out.keep B2.out)).mono ?_
  rintro e w3 ⟨t, ct, rfl, s3, hbt, b3⟩
  have A3 := Lib.hid (A2.out.keep b3)
  have B3 := Lib.hid (B2.out.trans (b3.mono B2.out.size))
  have S3 := Lib.hid s3
  have HT := Lib.hid (show w.heap.size < t from Nat.lt_of_lt_of_le A2.out.lt hbt)
  have e4' := A3.out.sums
  have f4 := A3.out.fz 4
  clear s3 b3 hbt e4
  go_upto_region 5 with (fail)
  refine gen_world (fun W => At W w.heap.size 26 m (some ⟨t, 0, none⟩) ct ∧ SIn W (some ⟨t, 0, none⟩) ct m.sums ∧ Below w.heap.size w W) ⟨A3.out.setSums m.sums (some ⟨t, 0, none⟩) m.sums.length ct rfl, sin_block S3.out (fun ad e => ?_), B3.out.setCell (Nat.le_refl _) _⟩ ?_
  · injection e with e
    subst e
    exact heap_setCell_other _ _ _ _ (by have := HT.out; show t ≠ w.heap.size; omega)
  rintro w5 ⟨a5, s5, b5⟩
  have B5 := Lib.hid b5
  have HFN := Lib.hid (fun W hb sb ab h1 h2 hne hs hr => new_ends (B := w.heap.size) (w5 := w5) (W := W) (m := m) (t := t) (ct := ct) (Nat.le_of_lt HT.out) b5.size s5 hn1 hn2 hb sb ab h1 h2 hne hs hr)
  have HKS := Lib.hid (show ∀ W, Below w5.heap.size w5 W → W.rangeAt w.heap.size 0 (manA m (some ⟨t, 0, none⟩) ct).toList from fun W hW j u hj => by
    have ha := a5.keep hW
    rw [cell_of_row _ _ (0 + j) _ _ _ ha.cells, Nat.zero_add, ← hj, Array.getElem?_toList])
  have HIL := Lib.hid (pcIL m (some ⟨t, 0, none⟩) ct)
  have HBN := Lib.hid (fun W => bits_new W m.sums.length hn1 (by omega))
  have hmk : ∀ W, (Instr.makeSlice 42 (.int .i64 (m.sums.length : Int)) (.int .i64 (m.sums.length : Int))).run Tryz.prog W = .ok (.slice (some ⟨W.heap.size, 0, none⟩) m.sums.length m.sums.length) (W.alloc (.cells (madeCells #[.string ⟨#[]⟩] m.sums.length) 9)) := fun W =>
    run_make_row' 42 9 (.string ⟨#[]⟩) 16 Tryz.underlying42 infoSt rfl .i64 .i64 m.sums.length (by omega) (by omega) W
  have k0 := HKS.out _ (below_drewN (Below.refl w5.heap.size w5) 1)
  obtain ⟨mb, hmb⟩ : ∃ mb, mb = w.heap.size := ⟨_, rfl⟩
  have HMB := Lib.hid hmb
  rw [← hmb] at HKS k0 ⊢
  clear a5 s5 b5 A2 B2 A3 B3 S3 e4' f4 hmb
  go_wp2_with (fail)
  refine wp_region_noPanic ?_
  refine wp_region_held_drew (S := fun W : World => W.rangeAt mb 0 (manA m (some ⟨t, 0, none⟩) ct).toList) (by kernel_rfl) k0 (fun hHeld => ?_)
  refine wpAnyH_takeAt (i := 0) (v := .agg (manA m (some ⟨t, 0, none⟩) ct).toList.toArray) 14 rfl rfl (by kernel_rfl) (by kernel_rfl) (by kernel_rfl) (fun _ _ _ h => h) (yieldsIf_load_mid (by rfl) 26 _ rfl mb 0 rfl (manA m (some ⟨t, 0, none⟩) ct).toList _ (fun W hW => hW) Tryz.underlying26 rfl HIL.out) hHeld ?_
  simp only [Act.put, List.setIfInBounds_toArray, List.set_cons_succ, List.set_cons_zero]
  refine wpAnyH_takeAt (i := 1) (v := .int .i64 (m.sums.length : Int)) 15 rfl rfl (by kernel_rfl) (by kernel_rfl) (by kernel_rfl) (fun _ _ _ h => h) (Or.inl ⟨by rfl, ?_⟩) hHeld ?_
  · intro W hW
    try dsimp only at hW
    go_simp
  simp only [Act.put, List.setIfInBounds_toArray, List.set_cons_succ, List.set_cons_zero]
  refine wpAnyH_takeAt (i := 3) (v := .int .i64 (m.sums.length : Int)) 17 rfl rfl (by kernel_rfl) (by kernel_rfl) (by kernel_rfl) (fun _ _ _ h => h) (Or.inl ⟨by rfl, ?_⟩) hHeld ?_
  · intro W hW
    try dsimp only at hW
    go_simp
  simp only [Act.put, List.setIfInBounds_toArray, List.set_cons_succ, List.set_cons_zero]
  refine wpAnyH_ready (rs := [2, 4]) (by kernel_rfl) (by simp) ?_
  refine AllReadyH.cons rfl (fun K hK => ?_) (AllReadyH.cons rfl (fun K hK => ?_) AllReadyH.nil)
  · go_simp
    refine (HBN.out w5.drew).mono ?_
    rintro e w6 ⟨sb, rfl, hsb, s6, b6⟩
    have hb6 : Below w5.heap.size w5 w6 := (below_drewN (Below.refl _ _) 1).trans b6
    refine hK.out _ _ (HKS.out _ hb6) (fun hHeld2 => ?_)
    clear hK K hHeld
    have hHeld := hHeld2
    clear hHeld2
    try simp only [Act.put, List.setIfInBounds_toArray, List.set_cons_succ, List.set_cons_zero]
    refine wpAnyH_ready (rs := [4]) (by kernel_rfl) (by simp) ?_
    refine AllReadyH.cons rfl (fun K hK => ?_) AllReadyH.nil
    go_simp
    have hb7 : Below w5.heap.size w5 (w6.alloc (.cells (madeCells #[.string ⟨#[]⟩] m.sums.length) 9)) := hb6.alloc hb6.size _
    have k7 := HKS.out _ hb7
    refine hK.out _ _ k7 (fun hHeld2 => ?_)
    clear hK K hHeld
    have hHeld := hHeld2
    clear hHeld2
    try simp only [Act.put, List.setIfInBounds_toArray, List.set_cons_succ, List.set_cons_zero]
    have HFI := Lib.hid (HFN.out _ hb7 sb w6.heap.size (Nat.le_trans (by simp) hsb) hb6.size (by have := sobj_lt s6; omega) (sobj_below s6 ((Below.refl _ _).alloc (Nat.le_refl _) _)) (World.rowIs_made w6 (.string ⟨#[]⟩) m.sums.length 9))
    refine wpAnyH_ready (rs := [5]) (by kernel_rfl) (by simp) ?_
    refine AllReadyH.cons rfl (fun K hK => ?_) AllReadyH.nil
    refine step_struct (by rfl) 44 #[(0, .tmp 14), (1, .tmp 16), (2, .tmp 18)] (by rfl) _ (by rw [Array.toList_map]; exact pcBuilt m (some ⟨t, 0, none⟩) ct sb _ _) ?_
    refine hK.out _ _ k7 (fun hHeld2 => ?_)
    clear hK K hHeld
    have hHeld := hHeld2
    clear hHeld2
    try simp only [Act.put, List.setIfInBounds_toArray]
    refine wpAnyH_ready (rs := [6]) (by kernel_rfl) (by simp) ?_
    refine AllReadyH.cons rfl (fun K hK => ?_) AllReadyH.nil
    go_simp
    refine hK.out _ _ (HKS.out _ (hb7.alloc hb7.size _)) (fun hHeld2 => ?_)
    clear hK K hHeld
    have hHeld := hHeld2
    clear hHeld2
    try simp only [Act.put, List.setIfInBounds_toArray, List.set_cons_succ, List.set_cons_zero]
    refine wpAnyH_takeAt (i := 7) (v := .pointer (some ⟨(w6.alloc (.cells (madeCells #[.string ⟨#[]⟩] m.sums.length) 9)).heap.size, 0, none⟩)) 2 rfl rfl (by kernel_rfl) (by kernel_rfl) (by kernel_rfl) (fun _ _ _ h => h) (Or.inl ⟨by rfl, ?_⟩) hHeld ?_
    · intro W hW
      try dsimp only at hW
      go_simp
    simp only [Act.put, List.setIfInBounds_toArray, List.set_cons_succ, List.set_cons_zero]
    refine wpAnyH_takeAt (i := 8) (v := .int .i64 0) 3 rfl rfl (by kernel_rfl) (by kernel_rfl) (by kernel_rfl) (fun _ _ _ h => h) (Or.inl ⟨by rfl, ?_⟩) hHeld ?_
    · intro W hW
      try dsimp only at hW
      go_simp
    simp only [Act.put, List.setIfInBounds_toArray, List.set_cons_succ, List.set_cons_zero]
    refine wpAnyH_done (by kernel_rfl) ?_ _
    refine NoPanic.normal ?_
    go_wp2_with (fail)
    refine bodyPost_ret (results_tmp2 rfl _ _ _) rfl ?_
    exact ⟨_, sb, _, t, ct, rfl, HFI.out.1, B5.out.trans (HFI.out.2.mono B5.out.size)⟩
  · go_simp
    have hb6 : Below w5.heap.size w5 (w5.drew.alloc (.cells (madeCells #[.string ⟨#[]⟩] m.sums.length) 9)) := (below_drewN (Below.refl _ _) 1).alloc (Nat.le_refl _) _
    refine hK.out _ _ (HKS.out _ hb6) (fun hHeld2 => ?_)
    clear hK K hHeld
    have hHeld := hHeld2
    clear hHeld2
    try simp only [Act.put, List.setIfInBounds_toArray, List.set_cons_succ, List.set_cons_zero]
    refine wpAnyH_ready (rs := [2]) (by kernel_rfl) (by simp) ?_
    refine AllReadyH.cons rfl (fun K hK => ?_) AllReadyH.nil
    go_simp
    refine (HBN.out _).mono ?_
    rintro e w6 ⟨sb, rfl, hsb, s6, b6⟩
    have hb7 : Below w5.heap.size w5 w6 := hb6.trans (b6.mono hb6.size)
    have k7 := HKS.out _ hb7
    refine hK.out _ _ k7 (fun hHeld2 => ?_)
    clear hK K hHeld
    have hHeld := hHeld2
    clear hHeld2
    try simp only [Act.put, List.setIfInBounds_toArray, List.set_cons_succ, List.set_cons_zero]
    have hr6 := (World.rowIs_made w5.drew (.string ⟨#[]⟩) m.sums.length 9)
    have HFI := Lib.hid (HFN.out _ hb7 sb w5.heap.size (Nat.le_trans hb6.size hsb) (Nat.le_refl _) (fun e => by rw [e] at hsb; simp at hsb; omega) s6 (hr6.of_block (b6.block _ hr6.lt)))
    refine wpAnyH_ready (rs := [5]) (by kernel_rfl) (by simp) ?_
    refine AllReadyH.cons rfl (fun K hK => ?_) AllReadyH.nil
    refine step_struct (by rfl) 44 #[(0, .tmp 14), (1, .tmp 16), (2, .tmp 18)] (by rfl) _ (by rw [Array.toList_map]; exact pcBuilt m (some ⟨t, 0, none⟩) ct sb _ _) ?_
    refine hK.out _ _ k7 (fun hHeld2 => ?_)
    clear hK K hHeld
    have hHeld := hHeld2
    clear hHeld2
    try simp only [Act.put, List.setIfInBounds_toArray]
    refine wpAnyH_ready (rs := [6]) (by kernel_rfl) (by simp) ?_
    refine AllReadyH.cons rfl (fun K hK => ?_) AllReadyH.nil
    go_simp
    refine hK.out _ _ (HKS.out _ (hb7.alloc hb7.size _)) (fun hHeld2 => ?_)
    clear hK K hHeld
    have hHeld := hHeld2
    clear hHeld2
    try simp only [Act.put, List.setIfInBounds_toArray, List.set_cons_succ, List.set_cons_zero]
    refine wpAnyH_takeAt (i := 7) (v := .pointer (some ⟨(w6).heap.size, 0, none⟩)) 2 rfl rfl (by kernel_rfl) (by kernel_rfl) (by kernel_rfl) (fun _ _ _ h => h) (Or.inl ⟨by rfl, ?_⟩) hHeld ?_
    · intro W hW
      try dsimp only at hW
      go_simp
    simp only [Act.put, List.setIfInBounds_toArray, List.set_cons_succ, List.set_cons_zero]
    refine wpAnyH_takeAt (i := 8) (v := .int .i64 0) 3 rfl rfl (by kernel_rfl) (by kernel_rfl) (by kernel_rfl) (fun _ _ _ h => h) (Or.inl ⟨by rfl, ?_⟩) hHeld ?_
    · intro W hW
      try dsimp only at hW
      go_simp
    simp only [Act.put, List.setIfInBounds_toArray, List.set_cons_succ, List.set_cons_zero]
    refine wpAnyH_done (by kernel_rfl) ?_ _
    refine NoPanic.normal ?_
    go_wp2_with (fail)
    refine bodyPost_ret (results_tmp2 rfl _ _ _) rfl ?_
    exact ⟨_, sb, _, t, ct, rfl, HFI.out.1, B5.out.trans (HFI.out.2.mono B5.out.size)⟩
end Go.Proofs.YtlechjpaldpgnaaGreatDoor
namespace Go.Proofs.YtlechjpaldpgnaaGreatDoor
open Go.ChangeShapes Go.WideShapes Go.ChangeAt Go.RowKit Sh Pn Mf Bt Pc

theorem has_one {W : World} {sb n : Nat} {u : Nat → Bool} (hs : W.heap[sb]? = some (sobj n u)) (hn : n ≤ 1024) {i : Nat} (hi : i < n) :
    Calls Tryz.prog 39 #[.pointer (some ⟨sb, 0, none⟩), .slice (some ⟨W.heap.size, 0, none⟩) 1 1] (W.alloc (.cells #[.int .i64 (i : Int)] 3)) fun e w' => e = .returned (.bool (u i)) ∧ Below W.heap.size W w' := by
  have h1 := sobj_below hs ((Below.refl W.heap.size W).alloc (Nat.le_refl _) (.cells #[.int .i64 (i : Int)] 3))
  refine (bits_Has _ sb n u h1 _ 1 1 (fun _ => (i : Int)) (by omega) (ints1 W i) hn).mono ?_
  rintro e w' ⟨rfl, j, rfl⟩
  rw [allAt_one, isIn_nat u hi]
  exact ⟨rfl, below_drewN ((Below.refl _ _).alloc (Nat.le_refl _) _) j⟩
theorem add_one {W : World} {sb n : Nat} {u : Nat → Bool} (hs : W.heap[sb]? = some (sobj n u)) (hn : n ≤ 1024) {i : Nat} (hi : i < n) :
    Calls Tryz.prog 40 #[.pointer (some ⟨sb, 0, none⟩), .slice (some ⟨W.heap.size, 0, none⟩) 1 1] (W.alloc (.cells #[.int .i64 (i : Int)] 3)) fun e w' => e = .returned (.int .i64 0) ∧ w'.heap[sb]? = some (sobj n (upd u i true)) ∧ Only W w' sb := by
  have h1 := sobj_below hs ((Below.refl W.heap.size W).alloc (Nat.le_refl _) (.cells #[.int .i64 (i : Int)] 3))
  refine (bits_Add _ sb n u h1 hn _ 1 1 (fun _ => (i : Int)) (by omega) (ints1 W i) (allIn_one (fitsB_of hi)) (fun _ a ha => ?_)).mono ?_
  · injection ha with ha
    rw [← ha]
    have := sobj_lt hs
    show W.heap.size ≠ sb
    omega
  · rintro e w' ⟨rfl, hs, ho⟩
    exact ⟨rfl, hs, ((Only.refl W sb).alloc _).trans ho⟩
set_option maxRecDepth 100000 in
set_option maxHeartbeats 3200000 in
theorem pc_put {B : Nat} {w : World} {p : Nat} {m : Man} {A : Option Addr} {k sb ab : Nat} {q : Nat → ByteArray} (h : Pcl B w p m A k sb ab q) (a : Int) (d : ByteArray) (hd : d.size ≤ 140737488355328) (hT : Tabs w) :
    Calls Tryz.prog 12 #[.pointer (some ⟨p, 0, none⟩), .int .i64 a, .string d] w fun e w' => e = .returned (.int .i64 (putE m q a d)) ∧ Pcl B w' p m A k sb ab (putS m q a d) ∧ Only2 w w' sb ab := by
  have HC := Lib.hid (mf_check w m A k a d (by omega) h.sin hT)
  have HM := Lib.hid h.hd.man
  have HIL := Lib.hid (pcIL m A k)
  have H := Lib.hid h
  by_cases hc : checkM m a d = 0
  case neg =>
    have HE := Lib.hid (show putE m q a d = checkM m a d from if_neg hc)
    have HS := Lib.hid (show putS m q a d = q from if_neg (by rw [HE.out]; exact hc))
    have t1 : (checkM m a d != 0) = true := bne_iff_ne.2 hc
    generalize checkM m a d = z at *
    clear h hc
    go_enter Tryz.func12, Tryz.ntmps12
    go_wp2_with (with_reducible refine wpList_load_mid rfl 26 _ rfl p 0 rfl (manA m A k).toList _ HM.out Tryz.underlying26 rfl HIL.out ?_)
    refine HC.out.mono ?_
    rintro e w1 ⟨rfl, b1⟩
    go_wp2_with (fail)
    refine bodyPost_ret (results_tmp rfl _ _ _) rfl ?_
    rw [HE.out, HS.out]
    exact ⟨rfl, H.out.keep b1, Only2.of_below b1 _ _⟩
  obtain ⟨i, F⟩ := fits_of hc
  have ha := F.ha
  subst ha
  have HF := Lib.hid F
  have hin := F.hi
  have hn1 : m.sums.length ≤ 1024 := by have := F.hn; omega
  have HHS := Lib.hid (fun (W : World) (hW : Below w.heap.size w W) => has_one (H.out.keep hW).set hn1 hin)
  have HAD := Lib.hid (fun (W : World) (hW : Below w.heap.size w W) => add_one (H.out.keep hW).set hn1 hin)
  have HPE := Lib.hid (show putE m q (i : Int) d = if hasQ q i = true then 9 else 0 from if_pos hc)
  have HPS := Lib.hid (show putS m q (i : Int) d = if putE m q (i : Int) d = 0 then putQ q i d else q from rfl)
  rw [hc] at HC
  clear hc F
  cases hu : hasQ q i with
  | true =>
    rw [hu] at HHS HPE
    have HE := Lib.hid (show putE m q (i : Int) d = 9 from HPE.out)
    have HS := Lib.hid (show putS m q (i : Int) d = q from HPS.out.trans (if_neg (by rw [HE.out]; decide)))
    clear h hu
    go_enter Tryz.func12, Tryz.ntmps12
    go_wp2_with (with_reducible refine wpList_load_mid rfl 26 _ rfl p 0 rfl (manA m A k).toList _ HM.out Tryz.underlying26 rfl HIL.out ?_)
    refine HC.out.mono ?_
    rintro e w1 ⟨rfl, b1⟩
    have B1 := Lib.hid b1
    have c37 := (H.out.keep b1).c37
    clear b1
    go_wp2_with (fail)
    refine (HHS.out w1 B1.out).mono ?_
    rintro e w2 ⟨rfl, b2⟩
    have B2 := Lib.hid (B1.out.trans (b2.mono B1.out.size))
    clear b2
    go_wp2_with (fail)
    refine bodyPost_ret (results_tmp rfl _ _ _) rfl ?_
    rw [HE.out, HS.out]
    exact ⟨rfl, H.out.keep B2.out, Only2.of_below B2.out _ _⟩
  | false =>
    rw [hu] at HHS HPE
    have HE := Lib.hid (show putE m q (i : Int) d = 0 from HPE.out)
    have HS := Lib.hid (show putS m q (i : Int) d = putQ q i d from HPS.out.trans (if_pos HE.out))
    have HCL := Lib.hid (fun W => clone_any d W (by omega))
    clear h hu hT
    have x0 : (i : Int) < (m.sums.length : Int) := by omega
    have x2 : 0 ≤ (i : Int) := by omega
    go_enter Tryz.func12, Tryz.ntmps12
    go_wp2_with (with_reducible refine wpList_load_mid rfl 26 _ rfl p 0 rfl (manA m A k).toList _ HM.out Tryz.underlying26 rfl HIL.out ?_)
    refine HC.out.mono ?_
    rintro e w1 ⟨rfl, b1⟩
    have B1 := Lib.hid b1
    have c37 := (H.out.keep b1).c37
    clear b1
    go_wp2_with (fail)
    refine (HHS.out w1 B1.out).mono ?_
    rintro e w2 ⟨rfl, b2⟩
    have B2 := Lib.hid (B1.out.trans (b2.mono B1.out.size))
    clear b2 c37
    have c37 := (H.out.keep B2.out).c37
    go_wp2_with (fail)
    refine (HAD.out w2 B2.out).mono ?_
    rintro e w3 ⟨rfl, s3, o3⟩
    have S3 := Lib.hid s3
    have O3 := Lib.hid o3
    clear s3 o3 c37
    have HP2 := Lib.hid (H.out.keep B2.out)
    have k0 : w3.drew.cell? ⟨p, 38, none⟩ = some (.slice (some ⟨ab, 0, none⟩) m.sums.length m.sums.length) := (O3.out.cell (a := ⟨p, 38, none⟩) HP2.out.hd.lt HP2.out.ps).trans HP2.out.c38
    have HK := Lib.hid (show ∀ W, Below w3.heap.size w3 W → W.cell? ⟨p, 38, none⟩ = some (.slice (some ⟨ab, 0, none⟩) m.sums.length m.sums.length) ∧ W.cell? ⟨ab, i, none⟩ = some (.string (q i)) ∧ W.frozen? ⟨ab, i, none⟩ = false from fun W hW => by
      have hr := (O3.out.row HP2.out.row (fun e => HP2.out.sa e.symm))
      have hr2 := hr.of_block (hW.block _ hr.lt)
      exact ⟨(hW.cell (p := ⟨p, 38, none⟩) (Nat.lt_of_lt_of_le HP2.out.hd.lt O3.out.size)).trans k0, hr2.cell hin, hr2.frozen i⟩)
    go_wp2_with (fail)
    -- HANDV 0
    refine wp_region_noPanic ?_
    refine wp_region_heldV (S := (fun W : World => W.cell? ⟨p, 38, none⟩ = some (.slice (some ⟨ab, 0, none⟩) m.sums.length m.sums.length))) 8 (by kernel_rfl) (by kernel_rfl) (by kernel_rfl) (by kernel_rfl) (by decide) k0 (fun hHeld => ?_)
    refine wpAnyV_take (i := 0) (v := .pointer (some ⟨p, 0, none⟩)) 38 rfl rfl (by decide) (by kernel_rfl) (by kernel_rfl) (fun _ _ _ h => h) (Or.inl ⟨by rfl, ?_⟩) hHeld ?_
    · intro W hW
      try dsimp only at hW
      go_simp
    simp only [Act.put, List.setIfInBounds_toArray, List.set_cons_succ, List.set_cons_zero]
    refine wpAnyV_take (i := 1) (v := .pointer (some ⟨p, 0, none⟩)) 39 rfl rfl (by decide) (by kernel_rfl) (by kernel_rfl) (fun _ _ _ h => h) (Or.inl ⟨by rfl, ?_⟩) hHeld ?_
    · intro W hW
      try dsimp only at hW
      go_simp
    simp only [Act.put, List.setIfInBounds_toArray, List.set_cons_succ, List.set_cons_zero]
    refine wpAnyV_take (i := 2) (v := .pointer (some ⟨p, 38, none⟩)) 40 rfl rfl (by decide) (by kernel_rfl) (by kernel_rfl) (fun _ _ _ h => h) (Or.inl ⟨by rfl, ?_⟩) hHeld ?_
    · intro W hW
      try dsimp only at hW
      go_simp
    simp only [Act.put, List.setIfInBounds_toArray, List.set_cons_succ, List.set_cons_zero]
    refine wpAnyV_take (i := 3) (v := .slice (some ⟨ab, 0, none⟩) m.sums.length m.sums.length) 41 rfl rfl (by decide) (by kernel_rfl) (by kernel_rfl) (fun _ _ _ h => h) (Or.inl ⟨by rfl, ?_⟩) hHeld ?_
    · intro W hW
      try dsimp only at hW
      go_simp
    simp only [Act.put, List.setIfInBounds_toArray, List.set_cons_succ, List.set_cons_zero]
    refine wpAnyV_take (i := 4) (v := .int .i64 (i : Int)) 42 rfl rfl (by decide) (by kernel_rfl) (by kernel_rfl) (fun _ _ _ h => h) (Or.inl ⟨by rfl, ?_⟩) hHeld ?_
    · intro W hW
      try dsimp only at hW
      go_simp
    simp only [Act.put, List.setIfInBounds_toArray, List.set_cons_succ, List.set_cons_zero]
    refine wpAnyV_take (i := 5) (v := .string d) 43 rfl rfl (by decide) (by kernel_rfl) (by kernel_rfl) (fun _ _ _ h => h) (Or.inl ⟨by rfl, ?_⟩) hHeld ?_
    · intro W hW
      try dsimp only at hW
      go_simp
    simp only [Act.put, List.setIfInBounds_toArray, List.set_cons_succ, List.set_cons_zero]
    refine wpAnyV_one (i := 6) (by kernel_rfl) rfl (by decide) (fun K hK => ?_)
    go_simp
    refine (HCL.out _).mono ?_
    rintro e w4 ⟨rfl, b4⟩
    have B4 := Lib.hid (show Below w3.heap.size w3 w4 from (below_drewN (Below.refl w3.heap.size w3) 1).trans b4)
    have k4 := HK.out _ B4.out
    clear b4
    refine hK.out _ _ k4.1 (fun hHeld2 => ?_)
    clear hK K hHeld
    have hHeld := hHeld2
    clear hHeld2
    try simp only [Act.put, List.setIfInBounds_toArray, List.set_cons_succ, List.set_cons_zero]
    refine wpAnyV_take (i := 7) (v := .pointer (some ⟨ab, i, none⟩)) 45 rfl rfl (by decide) (by kernel_rfl) (by kernel_rfl) (fun _ _ _ h => h) (Or.inl ⟨by rfl, ?_⟩) hHeld ?_
    · intro W hW
      try dsimp only at hW
      go_simp
    simp only [Act.put, List.setIfInBounds_toArray, List.set_cons_succ, List.set_cons_zero]
    obtain ⟨k41, k42, k43⟩ := k4
    refine wpAnyV_last (by kernel_rfl) rfl (by kernel_rfl) (fun K hK => ?_)
    go_simp
    refine hK.out _ _ ?_
    refine NoPanic.normal ?_
    -- VDNAH 0
    go_wp2_with (fail)
    refine bodyPost_ret (results_tmp rfl _ _ _) rfl ?_
    rw [HE.out, HS.out]
    obtain ⟨hp, ho⟩ := HP2.out.put HF.out O3.out S3.out B4.out
    exact ⟨rfl, hp, (Only2.of_below B2.out _ _).trans ho⟩
end Go.Proofs.YtlechjpaldpgnaaGreatDoor
namespace Go.Proofs.YtlechjpaldpgnaaGreatDoor
open Go.ChangeShapes Go.WideShapes Go.ChangeAt Go.RowKit Sh Pn Mf Bt Pc

theorem pcLess (j n : Nat) (h : j < n) : n - ((j : Int) + 1).toNat < n - (j : Int).toNat := by omega
set_option maxRecDepth 100000 in
set_option maxHeartbeats 1600000 in
theorem pc_text {B : Nat} {w : World} {p : Nat} {m : Man} {A : Option Addr} {k sb ab : Nat} {q : Nat → ByteArray} (h : Pcl B w p m A k sb ab q) :
    Calls Tryz.prog 13 #[.pointer (some ⟨p, 0, none⟩)] w fun e w' => e = .returned (.tuple #[.string (textP q m.sums.length), .int .i64 (textE q m.sums.length)]) ∧ Below w.heap.size w w' := by
  have HW := Lib.hid (pc_whole h)
  have H := Lib.hid h
  cases hv : wholeB q m.sums.length with
  | false =>
    have HE := Lib.hid (show textP q m.sums.length = ⟨#[]⟩ ∧ textE q m.sums.length = 7 by unfold textP textE; rw [hv]; exact ⟨rfl, rfl⟩)
    rw [hv] at HW
    clear h hv
    go_enter Tryz.func13, Tryz.ntmps13
    go_wp2_with (fail)
    refine HW.out.mono ?_
    rintro e w1 ⟨rfl, b1⟩
    go_wp2_with (fail)
    refine bodyPost_ret (results_tmp2 rfl _ _ _) rfl ?_
    rw [HE.out.1, HE.out.2]
    exact ⟨rfl, b1⟩
  | true =>
    have HE := Lib.hid (show textP q m.sums.length = ⟨(catP q m.sums.length).toArray⟩ ∧ textE q m.sums.length = 0 by unfold textP textE; rw [hv]; exact ⟨rfl, rfl⟩)
    rw [hv] at HW
    have HN := Lib.hid h.n2
    have HF := Lib.hid (catP_length h.fit)
    have HFT := Lib.hid h.fit
    clear h hv
    go_enter Tryz.func13, Tryz.ntmps13
    go_wp2_with (fail)
    refine HW.out.mono ?_
    rintro e w1 ⟨rfl, b1⟩
    have HB1 := Lib.hid b1
    have H1 := Lib.hid (H.out.keep b1)
    clear b1 HW H
    go_upto_region 6 with (fail)
    have HNB := Lib.hid (show ∀ o, Below w1.heap.size w1 (w1.alloc o) from fun o => (Below.refl _ _).alloc (Nat.le_refl _) o)
    refine gen_world (fun W => Lib.IsBuilder 94 5 w1.heap.size w1.heap.size (Lib.byteCells []) W ∧ Below w1.heap.size w1 W) ⟨bld_new w1, HNB.out _⟩ ?_
    rintro w2 ⟨i2, b2⟩
    have I2 := Lib.hid i2
    have B2 := Lib.hid b2
    have c38 := (H1.out.keep b2).c38
    clear i2 b2 HNB
    go_wp2_with (fail)
    go_loopw [17] (fun i wr => ∃ j : Nat, i = .int .i64 (j : Int) ∧ j ≤ m.sums.length ∧ Lib.IsBuilder 94 5 w1.heap.size w1.heap.size (Lib.byteCells (catP q j)) wr ∧ Below w1.heap.size w1 wr) (fun i _ => match i with | .int _ j => m.sums.length - j.toNat | _ => 0)
    case atStart => exact ⟨0, rfl, Nat.zero_le _, I2.out, B2.out⟩
    case round =>
      clear I2 B2 c38
      obtain ⟨j, rfl, hj, hi, hb⟩ := hrel
      have HI := Lib.hid hi
      have HB := Lib.hid hb
      clear hi hb
      by_cases hlt : j < m.sums.length
      · have x0 : (j : Int) < (m.sums.length : Int) := by omega
        have x1 : decide ((j : Int) < (m.sums.length : Int)) = true := decide_eq_true x0
        have x2 : 0 ≤ (j : Int) := by omega
        have c := (H1.out.keep HB.out).row.cell hlt
        have HLT := Lib.hid hlt
        have HWR := Lib.hid (show Calls Tryz.prog 42 #[.pointer (some ⟨w1.heap.size, 0, none⟩), .string (q j)] wr fun e w' => e = .returned (.tuple #[.int .i64 (q j).size, .nilIface]) ∧ Lib.IsBuilder 94 5 w1.heap.size w1.heap.size (Lib.byteCells (catP q (j + 1))) w' ∧ Below w1.heap.size w1 w' from
          (bld_write w1.heap.size w1.heap.size _ (q j) wr HI.out (by rw [bld_length]; have := HF.out j; have := HFT.out j; have := HN.out; omega) HB.out.size).mono fun _ _ ⟨he, ha, hb⟩ => ⟨he, by rw [catP_next, ← bld_cells]; exact .inr ha, HB.out.trans hb⟩)
        have hw1 := IntWalk.wrap64_in ((j : Int) + 1) (by have := HN.out; omega)
        clear hlt hj
        go_wp2_with (fail)
        refine HWR.out.mono ?_
        rintro e w3 ⟨rfl, i3, b3⟩
        have I3 := Lib.hid i3
        have B3 := Lib.hid b3
        clear i3 b3 c HI HB HWR
        go_wp2_with (fail)
        try rw [hw1]
        exact ⟨⟨j + 1, rfl, HLT.out, I3.out, B3.out⟩, pcLess j _ HLT.out⟩
      · have hje : j = m.sums.length := by omega
        have x0 : ¬ (j : Int) < (m.sums.length : Int) := by omega
        have x1 : decide ((j : Int) < (m.sums.length : Int)) = false := decide_eq_false x0
        have HJ := Lib.hid hje
        have HS := Lib.hid (bld_string w1.heap.size w1.heap.size _ wr HI.out HB.out.size)
        clear hje hlt hj
        go_wp2_with (fail)
        refine HS.out.mono ?_
        rintro e w3 ⟨rfl, b3⟩
        have B3 := Lib.hid (HB1.out.trans ((HB.out.trans b3).mono HB1.out.size))
        clear b3
        go_wp2_with (fail)
        refine bodyPost_ret (results_tmp2 rfl _ _ _) rfl ?_
        rw [HE.out.1, HE.out.2, HJ.out]
        exact ⟨rfl, B3.out⟩
end Go.Proofs.YtlechjpaldpgnaaGreatDoor
