/-
  What layer 18's statements ask first: some answers by number. Condition: the tables lie where they are looked up.
-/
import Derived.Test.YtnfiojcfbohafaaDoorMg21
import Derived.Test.YtnfiojcfbohafaaDoorMg17
import Derived.Test.YtnfiojcfbohafaaDoorMg25
import Derived.Test.YtnfiojcfbohafaaDoorMg6
import Derived.Test.YtnfiojcfbohafaaDoorMg12
set_option maxRecDepth 100000
namespace Go.Proofs.YtnfiojcfbohafaaDoor
open Go.ChangeShapes Go.WideShapes Go.ChangeAt Go.RowKit Cf Vc Br Nr Sf Ac Sp Gn

namespace Gn
def ex18 : Cfg := ⟨3, 2, 1, 1, 1, 4⟩
def zs42 : ByteArray := textD (List.replicate 42 0)
theorem ex18_good : goodZ ex18 = true := by decide +kernel
theorem ex18_ok : Ok ex18 zs42 := ⟨good_iff.1 ex18_good, by decide +kernel⟩
theorem ex18_some : genT ex18 zs42 (takeD [65536, 131072, 0]) 3 0 [1] = [1, 2] := by decide +kernel
theorem ex18_none : genT ex18 zs42 (takeD []) 3 0 [1] = [] := by decide +kernel
theorem ex18_next : nextZ 1 [8, 0, 0] = 0 ∧ nextZ 65536 [8, 0, 0] = 1 := by decide +kernel
theorem conv42 {W : World} {g : Nat} (h : W.rowIs g 5 42 (fun _ => .int .u8 0)) : (convert 45 9 (.slice (some ⟨g, 0, none⟩) 42 42)).run Tryd.prog W = .ok (.string zs42) W :=
  run_textD (D := List.replicate 42 0) (h.congr fun i hi => by
    rw [prt_all _ _ _ _ hi, List.getD_eq_getElem?_getD, List.getElem?_map, List.getElem?_replicate, if_pos hi]
    rfl) (by simp)
end Gn
set_option maxRecDepth 100000 in
set_option maxHeartbeats 6400000 in
theorem awake18 (w : World) (hp : POn w) (hg : GOn w) : Calls Tryd.prog 7 #[] w fun e w' => e = .returned (.bool true) ∧ Below w.heap.size w w' := by
  have HO := Lib.hid (fun W => show Calls Tryd.prog 11 #[.agg #[.int .i64 3, .int .i64 2, .int .i64 1, .int .i64 1, .int .i64 1, .int .i64 4], .string zs42] W fun e w' => ∃ b, e = .returned (.tuple #[.pointer (some ⟨b, 0, none⟩), .int .i64 0]) ∧ W.heap.size ≤ b ∧ w'.heap[b]? = some (brO ex18 zs42) ∧ Below W.heap.size W w' from brain_of W ex18 zs42 ex18_ok)
  have HG1 := Lib.hid (fun (W : World) (b : Nat) (T D : Option Addr) (h : W.heap[b]? = some (brO ex18 zs42)) (hW : Below w.heap.size w W) (hT : KIn .i64 W T [1]) (hD : KIn .i64 W D [65536, 131072, 0]) => show Calls Tryd.prog 12 #[.pointer (some ⟨b, 0, none⟩), .slice T 1 1, .int .i64 3, .slice D 3 3] W fun e w' => ∃ A c, e = .returned (.tuple #[.slice A 2 c, .int .i64 0]) ∧ KIn .i64 w' A [1, 2] ∧ Below W.heap.size W w' from
    (gen_gen W b ex18 zs42 h ex18_ok T 1 1 [1] rfl (by omega) hT D 3 3 [65536, 131072, 0] rfl hD 3 (by decide +kernel) (hp.below hW (Nat.le_refl _)) (hg.below hW (Nat.le_refl _))).mono fun e w' ⟨A, c, h1, h2, _, h4⟩ => by
      rw [ex18_some] at h1 h2
      exact ⟨A, c, h1, h2, h4⟩)
  have HG2 := Lib.hid (fun (W : World) (b : Nat) (T : Option Addr) (h : W.heap[b]? = some (brO ex18 zs42)) (hW : Below w.heap.size w W) (hT : KIn .i64 W T [1]) => show Calls Tryd.prog 12 #[.pointer (some ⟨b, 0, none⟩), .slice T 1 1, .int .i64 3, .slice none 0 0] W fun e w' => ∃ A c, e = .returned (.tuple #[.slice A 0 c, .int .i64 0]) ∧ Below W.heap.size W w' from
    (gen_gen W b ex18 zs42 h ex18_ok T 1 1 [1] rfl (by omega) hT none 0 0 [] rfl (KIn.nil _ _ _) 3 (by decide +kernel) (hp.below hW (Nat.le_refl _)) (hg.below hW (Nat.le_refl _))).mono fun e w' ⟨A, c, h1, _, _, h4⟩ => by
      rw [ex18_none] at h1
      exact ⟨A, c, h1, h4⟩)
  have HG3 := Lib.hid (fun (W : World) (b : Nat) (T : Option Addr) (h : W.heap[b]? = some (brO ex18 zs42)) (hT : KIn .i64 W T [1, 1]) => show Calls Tryd.prog 12 #[.pointer (some ⟨b, 0, none⟩), .slice T 2 2, .int .i64 3, .slice none 0 0] W fun e w' => e = .returned (.tuple #[.slice none 0 0, .int .i64 12]) ∧ Below W.heap.size W w' from
    gen_gen_not W b ex18 zs42 h T 2 2 [1, 1] rfl (by omega) hT none 0 0 3 (by decide +kernel))
  have HN1 := Lib.hid (fun (W : World) (A : Option Addr) (hW : Below w.heap.size w W) (hA : KIn .i64 W A [8, 0, 0]) => show Calls Tryd.prog 8 #[.int .i64 1, .slice A 3 3] W fun e w' => e = .returned (.int .i64 0) ∧ Below W.heap.size W w' from by
    have := gen_next W 1 A 3 3 [8, 0, 0] rfl (by omega) hA (hp.below hW (Nat.le_refl _))
    rw [ex18_next.1] at this
    exact this)
  have HN2 := Lib.hid (fun (W : World) (A : Option Addr) (hW : Below w.heap.size w W) (hA : KIn .i64 W A [8, 0, 0]) => show Calls Tryd.prog 8 #[.int .i64 65536, .slice A 3 3] W fun e w' => e = .returned (.int .i64 1) ∧ Below W.heap.size W w' from by
    have := gen_next W 65536 A 3 3 [8, 0, 0] rfl (by omega) hA (hp.below hW (Nat.le_refl _))
    rw [ex18_next.2] at this
    exact this)
  obtain ⟨i0, hi0, hz0, hz1, hz2⟩ := info_parts info_u8
  have hmk : ∀ W, (Instr.makeSlice 45 (.int .i64 42) (.int .i64 42)).run Tryd.prog W = .ok (.slice (some ⟨W.heap.size, 0, none⟩) 42 42) (W.alloc (.cells (madeCells #[.int .u8 0] 42) 5)) := fun W =>
    run_make_row 45 5 i0 (.int .u8 0) Tryd.underlying45 hi0 hz0 hz1 rfl .i64 .i64 42 (by rw [hz2]; omega) (by omega) W
  have hr1 := World.rowIs_made (w.alloc (.cells #[.int .i64 3, .int .i64 2, .int .i64 1, .int .i64 1, .int .i64 1, .int .i64 4] 28)) (.int .u8 0) 42 5
  rw [World.size_alloc] at hr1
  have hcv : (convert 45 9 (.slice (some ⟨w.heap.size + 1, 0, none⟩) 42 42)).run Tryd.prog ((w.alloc (.cells #[.int .i64 3, .int .i64 2, .int .i64 1, .int .i64 1, .int .i64 1, .int .i64 4] 28)).alloc (.cells (madeCells #[.int .u8 0] 42) 5)).drew = .ok (.string zs42) ((w.alloc (.cells #[.int .i64 3, .int .i64 2, .int .i64 1, .int .i64 1, .int .i64 1, .int .i64 4] 28)).alloc (.cells (madeCells #[.int .u8 0] 42) 5)).drew := conv42 (W := ((w.alloc (.cells #[.int .i64 3, .int .i64 2, .int .i64 1, .int .i64 1, .int .i64 1, .int .i64 4] 28)).alloc (.cells (madeCells #[.int .u8 0] 42) 5)).drew) hr1.drew
  have HBA := Lib.hid (show Below w.heap.size w ((w.alloc (.cells #[.int .i64 3, .int .i64 2, .int .i64 1, .int .i64 1, .int .i64 1, .int .i64 4] 28)).alloc (.cells (madeCells #[.int .u8 0] 42) 5)).drew from below_drewN (((Below.refl _ _).alloc (Nat.le_refl _) _).alloc (by simp) _) 1)
  have HLT := Lib.hid (show w.heap.size < ((w.alloc (.cells #[.int .i64 3, .int .i64 2, .int .i64 1, .int .i64 1, .int .i64 1, .int .i64 4] 28)).alloc (.cells (madeCells #[.int .u8 0] 42) 5)).drew.heap.size from by show _ < ((w.alloc (.cells #[.int .i64 3, .int .i64 2, .int .i64 1, .int .i64 1, .int .i64 1, .int .i64 4] 28)).alloc (.cells (madeCells #[.int .u8 0] 42) 5)).heap.size; simp; omega)
  clear hr1
  have hb0 := (Below.refl w.heap.size w).alloc (Nat.le_refl _) (.cells #[.int .i64 3, .int .i64 2, .int .i64 1, .int .i64 1, .int .i64 1, .int .i64 4] 28)
  have HB0 := Lib.hid (below_drewN hb0 1)
  have HH0 := heap_alloc_new w (.cells #[.int .i64 3, .int .i64 2, .int .i64 1, .int .i64 1, .int .i64 1, .int .i64 4] 28)
  have HK := Lib.hid (fun (W : World) (h : W.heap[w.heap.size]? = some (.cells #[.int .i64 3, .int .i64 2, .int .i64 1, .int .i64 1, .int .i64 1, .int .i64 4] 28 (0, 0))) => show W.cell? ⟨w.heap.size, 0, none⟩ = some (.int .i64 3) ∧ W.cell? ⟨w.heap.size, 1, none⟩ = some (.int .i64 2) ∧ W.cell? ⟨w.heap.size, 2, none⟩ = some (.int .i64 1) ∧ W.cell? ⟨w.heap.size, 3, none⟩ = some (.int .i64 1) ∧ W.cell? ⟨w.heap.size, 4, none⟩ = some (.int .i64 1) ∧ W.cell? ⟨w.heap.size, 5, none⟩ = some (.int .i64 4) from
    ⟨by rw [cell_of_row _ _ _ _ _ _ h]; rfl, by rw [cell_of_row _ _ _ _ _ _ h]; rfl, by rw [cell_of_row _ _ _ _ _ _ h]; rfl, by rw [cell_of_row _ _ _ _ _ _ h]; rfl, by rw [cell_of_row _ _ _ _ _ _ h]; rfl, by rw [cell_of_row _ _ _ _ _ _ h]; rfl⟩)
  have k0 := HK.out (w.alloc (.cells #[.int .i64 3, .int .i64 2, .int .i64 1, .int .i64 1, .int .i64 1, .int .i64 4] 28)).drew HH0
  have HHA := Lib.hid (fun o => heap_alloc_old (w.alloc (.cells #[.int .i64 3, .int .i64 2, .int .i64 1, .int .i64 1, .int .i64 1, .int .i64 4] 28)) o (Array.getElem?_eq_some_iff.1 HH0).1 |>.trans HH0)
  have HHO := Lib.hid HH0
  clear hi0 hz0 hz1 hz2 hb0 HH0 hp hg
  go_enter Tryd.func7, Tryd.ntmps7
  go_wp2_with (fail)
  -- HAND
  refine wp_region_noPanic ?_
  refine wp_region_held_drew (S := (fun W : World => W.cell? ⟨w.heap.size, 0, none⟩ = some (.int .i64 3) ∧ W.cell? ⟨w.heap.size, 1, none⟩ = some (.int .i64 2) ∧ W.cell? ⟨w.heap.size, 2, none⟩ = some (.int .i64 1) ∧ W.cell? ⟨w.heap.size, 3, none⟩ = some (.int .i64 1) ∧ W.cell? ⟨w.heap.size, 4, none⟩ = some (.int .i64 1) ∧ W.cell? ⟨w.heap.size, 5, none⟩ = some (.int .i64 4))) (by kernel_rfl) k0 (fun hHeld => ?_)
  refine wpAnyH_takeAt (i := 0) (v := .agg #[.int .i64 3, .int .i64 2, .int .i64 1, .int .i64 1, .int .i64 1, .int .i64 4]) 12 rfl rfl (by kernel_rfl) (by kernel_rfl) (by kernel_rfl) (fun _ _ _ h => h) (Or.inl ⟨by rfl, ?_⟩) hHeld ?_
  · intro W hW
    try dsimp only at hW
    go_simp
  simp only [Act.put, List.setIfInBounds_toArray, List.set_cons_succ, List.set_cons_zero]
  refine wpAnyH_ready (rs := [1]) (by kernel_rfl) (by simp) ?_
  refine AllReadyH.cons rfl (fun K hK => ?_) AllReadyH.nil
  go_simp
  refine hK.out _ _ (HK.out _ (HHA.out _)) (fun hHeld2 => ?_)
  clear hK K hHeld
  have hHeld := hHeld2
  clear hHeld2
  try simp only [Act.put, List.setIfInBounds_toArray, List.set_cons_succ, List.set_cons_zero]
  refine wpAnyH_ready (rs := [2]) (by kernel_rfl) (by simp) ?_
  refine AllReadyH.cons rfl (fun K hK => ?_) AllReadyH.nil
  go_simp
  refine hK.out _ _ (HK.out _ (HHA.out _)) (fun hHeld2 => ?_)
  clear hK K hHeld
  have hHeld := hHeld2
  clear hHeld2
  try simp only [Act.put, List.setIfInBounds_toArray, List.set_cons_succ, List.set_cons_zero]
  refine wpAnyH_ready (rs := [3]) (by kernel_rfl) (by simp) ?_
  refine AllReadyH.cons rfl (fun K hK => ?_) AllReadyH.nil
  go_simp
  refine (HO.out _).mono ?_
  rintro e w1 ⟨b, rfl, hb, hh, b1⟩
  have HB1 := Lib.hid (HBA.out.trans (b1.mono HBA.out.size))
  have HH1 := Lib.hid hh
  have k1 := HK.out w1 ((b1.block _ HLT.out).trans (HHA.out _))
  clear b1 hb hh
  refine hK.out _ _ k1 (fun hHeld2 => ?_)
  clear hK K hHeld
  have hHeld := hHeld2
  clear hHeld2
  try simp only [Act.put, List.setIfInBounds_toArray, List.set_cons_succ, List.set_cons_zero]
  refine wpAnyH_takeAt (i := 4) (v := .tuple #[.pointer (some ⟨b, 0, none⟩), .int .i64 0]) 11 rfl rfl (by kernel_rfl) (by kernel_rfl) (by kernel_rfl) (fun _ _ _ h => h) (Or.inl ⟨by rfl, ?_⟩) hHeld ?_
  · intro W hW
    try dsimp only at hW
    go_simp
  simp only [Act.put, List.setIfInBounds_toArray, List.set_cons_succ, List.set_cons_zero]
  refine wpAnyH_takeAt (i := 5) (v := .pointer (some ⟨b, 0, none⟩)) 16 rfl rfl (by kernel_rfl) (by kernel_rfl) (by kernel_rfl) (fun _ _ _ h => h) (Or.inl ⟨by rfl, ?_⟩) hHeld ?_
  · intro W hW
    try dsimp only at hW
    go_simp
  simp only [Act.put, List.setIfInBounds_toArray, List.set_cons_succ, List.set_cons_zero]
  refine wpAnyH_takeAt (i := 6) (v := .int .i64 0) 17 rfl rfl (by kernel_rfl) (by kernel_rfl) (by kernel_rfl) (fun _ _ _ h => h) (Or.inl ⟨by rfl, ?_⟩) hHeld ?_
  · intro W hW
    try dsimp only at hW
    go_simp
  simp only [Act.put, List.setIfInBounds_toArray, List.set_cons_succ, List.set_cons_zero]
  refine wpAnyH_takeAt (i := 7) (v := .pointer (some ⟨b, 0, none⟩)) 2 rfl rfl (by kernel_rfl) (by kernel_rfl) (by kernel_rfl) (fun _ _ _ h => h) (Or.inl ⟨by rfl, ?_⟩) hHeld ?_
  · intro W hW
    try dsimp only at hW
    go_simp
  simp only [Act.put, List.setIfInBounds_toArray, List.set_cons_succ, List.set_cons_zero]
  refine wpAnyH_takeAt (i := 8) (v := .int .i64 0) 3 rfl rfl (by kernel_rfl) (by kernel_rfl) (by kernel_rfl) (fun _ _ _ h => h) (Or.inl ⟨by rfl, ?_⟩) hHeld ?_
  · intro W hW
    try dsimp only at hW
    go_simp
  simp only [Act.put, List.setIfInBounds_toArray, List.set_cons_succ, List.set_cons_zero]
  refine wpAnyH_done (by kernel_rfl) ?_ _
  refine NoPanic.normal ?_
  -- DNAH
  clear k0 k1 hcv hmk HK HHA HHO HBA HB0 HLT HO
  have HA2 := Lib.hid ((Below.refl w1.heap.size w1).alloc (Nat.le_refl _) (.cells #[.int .i64 1] 3))
  have HA3 := Lib.hid (HA2.out.alloc HA2.out.size (.cells #[.int .i64 65536, .int .i64 131072, .int .i64 0] 3))
  go_wp2_with (fail)
  refine (HG1.out _ b (some ⟨w1.heap.size, 0, none⟩) (some ⟨w1.heap.size + 1, 0, none⟩) (Br.stays HH1.out HA3.out) (HB1.out.trans (HA3.out.mono HB1.out.size)) ((kin1 w1 w1.heap.size 1 rfl).alloc _) (kin3 (w1.alloc (.cells #[.int .i64 1] 3)) (w1.heap.size + 1) 65536 131072 0 (by simp))).mono ?_
  rintro e w2 ⟨A, c, rfl, hka, b2⟩
  have HB2 := Lib.hid (HB1.out.trans ((HA3.out.trans (b2.mono HA3.out.size)).mono HB1.out.size))
  have HH2 := Lib.hid (Br.stays HH1.out (HA3.out.trans (b2.mono HA3.out.size)))
  have HK2 := Lib.hid hka
  have HA4 := Lib.hid ((Below.refl w2.heap.size w2).alloc (Nat.le_refl _) (.cells #[.int .i64 1] 3))
  clear hka b2 HG1
  go_wp2_with (fail)
  refine (HG2.out _ b (some ⟨w2.heap.size, 0, none⟩) (Br.stays HH2.out HA4.out) (HB2.out.trans (HA4.out.mono HB2.out.size)) (kin1 w2 w2.heap.size 1 rfl)).mono ?_
  rintro e w3 ⟨A2, c2, rfl, b3⟩
  have HW3 := Lib.hid (HA4.out.trans (b3.mono HA4.out.size))
  have HB3 := Lib.hid (HB2.out.trans (HW3.out.mono HB2.out.size))
  have HH3 := Lib.hid (Br.stays HH2.out HW3.out)
  have HK3 := Lib.hid (HK2.out.below HW3.out (Nat.le_refl _))
  have HA5 := Lib.hid ((Below.refl w3.heap.size w3).alloc (Nat.le_refl _) (.cells #[.int .i64 1, .int .i64 1] 3))
  clear b3 HG2
  go_wp2_with (fail)
  refine (HG3.out _ b (some ⟨w3.heap.size, 0, none⟩) (Br.stays HH3.out HA5.out) (kin2 w3 w3.heap.size 1 1 rfl)).mono ?_
  rintro e w4 ⟨rfl, b4⟩
  have HW4 := Lib.hid (HA5.out.trans (b4.mono HA5.out.size))
  have HB4 := Lib.hid (HB3.out.trans (HW4.out.mono HB3.out.size))
  have HK4 := Lib.hid (HK3.out.below HW4.out (Nat.le_refl _))
  have HA6 := Lib.hid ((Below.refl w4.heap.size w4).alloc (Nat.le_refl _) (.cells #[.int .i64 1, .int .i64 2] 3))
  clear b4 HG3
  go_wp2_with (fail)
  refine (ints_any _ A 2 c (some ⟨w4.heap.size, 0, none⟩) 2 2 [1, 2] [1, 2] rfl rfl (by omega) (HK4.out.alloc _) (kin2 w4 w4.heap.size 1 2 rfl)).mono ?_
  rintro e w5 ⟨rfl, q, rfl⟩
  have HW5 := Lib.hid (below_drewN HA6.out q)
  have HB5 := Lib.hid (HB4.out.trans (HW5.out.mono HB4.out.size))
  generalize (w4.alloc (.cells #[.int .i64 1, .int .i64 2] 3)).drewN q = w6 at HB5 ⊢
  have HA7 := Lib.hid ((Below.refl w6.heap.size w6).alloc (Nat.le_refl _) (.cells #[.int .i64 8, .int .i64 0, .int .i64 0] 3))
  go_wp2_with (fail)
  refine (HN1.out _ (some ⟨w6.heap.size, 0, none⟩) (HB5.out.trans (HA7.out.mono HB5.out.size)) (kin3 w6 w6.heap.size 8 0 0 rfl)).mono ?_
  rintro e w7 ⟨rfl, b7⟩
  have HW7 := Lib.hid (HA7.out.trans (b7.mono HA7.out.size))
  have HB7 := Lib.hid (HB5.out.trans (HW7.out.mono HB5.out.size))
  have HA8 := Lib.hid ((Below.refl w7.heap.size w7).alloc (Nat.le_refl _) (.cells #[.int .i64 8, .int .i64 0, .int .i64 0] 3))
  clear b7
  go_wp2_with (fail)
  refine (HN2.out _ (some ⟨w7.heap.size, 0, none⟩) (HB7.out.trans (HA8.out.mono HB7.out.size)) (kin3 w7 w7.heap.size 8 0 0 rfl)).mono ?_
  rintro e w8 ⟨rfl, b8⟩
  have HB8 := Lib.hid (HB7.out.trans ((HA8.out.trans (b8.mono HA8.out.size)).mono HB7.out.size))
  clear b8
  go_wp2_with (fail)
  exact bodyPost_ret (results_tmp rfl _ _ _) rfl ⟨rfl, HB8.out⟩
end Go.Proofs.YtnfiojcfbohafaaDoor
