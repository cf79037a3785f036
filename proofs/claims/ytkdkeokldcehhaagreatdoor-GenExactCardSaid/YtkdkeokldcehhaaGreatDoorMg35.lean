/-
  What layer 18's statements ask first: some answers by number. Condition: the tables lie where they are looked up.
  What layer 18's statements stand on: whether a model is small. No conditions.
  GenExact: of every small model, prompt and draws what is said, or why nothing is, is the document's. The walk. Condition: the tables lie where they are looked up.
-/
import Derived.Test.YtkdkeokldcehhaaGreatDoorMg30
import Derived.Test.YtkdkeokldcehhaaGreatDoorMg25
import Derived.Test.YtkdkeokldcehhaaGreatDoorMg34
import Derived.Test.YtkdkeokldcehhaaGreatDoorMg6
import Derived.Test.YtkdkeokldcehhaaGreatDoorMg12
import Derived.Test.YtkdkeokldcehhaaGreatDoorMg33
set_option maxRecDepth 100000
namespace Go.Proofs.YtkdkeokldcehhaaGreatDoor
open Go.ChangeShapes Go.WideShapes Go.ChangeAt Go.RowKit Cf Vc Br Nr Sf Ac Sp Gn

namespace Gn
def ex18 : Cfg := ⟨3, 2, 1, 1, 1, 4⟩
def zs42 : ByteArray := textD (List.replicate 42 0)
theorem ex18_good : goodZ ex18 = true := by decide +kernel
theorem ex18_ok : Ok ex18 zs42 := ⟨good_iff.1 ex18_good, by decide +kernel⟩
theorem ex18_some : genT ex18 zs42 (takeD [65536, 131072, 0]) 3 0 [1] = [1, 2] := by decide +kernel
theorem ex18_none : genT ex18 zs42 (takeD []) 3 0 [1] = [] := by decide +kernel
theorem ex18_next : nextZ 1 [8, 0, 0] = 0 ∧ nextZ 65536 [8, 0, 0] = 1 := by decide +kernel
theorem conv42 {W : World} {g : Nat} (h : W.rowIs g 5 42 (fun _ => .int .u8 0)) : (convert 59 9 (.slice (some ⟨g, 0, none⟩) 42 42)).run Tryz.prog W = .ok (.string zs42) W :=
  run_textD (D := List.replicate 42 0) (h.congr fun i hi => by
    rw [prt_all _ _ _ _ hi, List.getD_eq_getElem?_getD, List.getElem?_map, List.getElem?_replicate, if_pos hi]
    rfl) (by simp)
end Gn
set_option maxRecDepth 100000 in
set_option maxHeartbeats 6400000 in
theorem awake18 (w : World) (hp : POn w) (hg : GOn w) : Calls Tryz.prog 17 #[] w fun e w' => e = .returned (.bool true) ∧ Below w.heap.size w w' := by
  have HO := Lib.hid (fun W => show Calls Tryz.prog 7 #[.agg #[.int .i64 3, .int .i64 2, .int .i64 1, .int .i64 1, .int .i64 1, .int .i64 4], .string zs42] W fun e w' => ∃ b, e = .returned (.tuple #[.pointer (some ⟨b, 0, none⟩), .int .i64 0]) ∧ W.heap.size ≤ b ∧ w'.heap[b]? = some (brO ex18 zs42) ∧ Below W.heap.size W w' from brain_of W ex18 zs42 ex18_ok)
  have HG1 := Lib.hid (fun (W : World) (b : Nat) (T D : Option Addr) (h : W.heap[b]? = some (brO ex18 zs42)) (hW : Below w.heap.size w W) (hT : KIn .i64 W T [1]) (hD : KIn .i64 W D [65536, 131072, 0]) => show Calls Tryz.prog 19 #[.pointer (some ⟨b, 0, none⟩), .slice T 1 1, .int .i64 3, .slice D 3 3] W fun e w' => ∃ A c, e = .returned (.tuple #[.slice A 2 c, .int .i64 0]) ∧ KIn .i64 w' A [1, 2] ∧ Below W.heap.size W w' from
    (gen_gen W b ex18 zs42 h ex18_ok T 1 1 [1] rfl (by omega) hT D 3 3 [65536, 131072, 0] rfl hD 3 (by decide +kernel) (hp.below hW (Nat.le_refl _)) (hg.below hW (Nat.le_refl _))).mono fun e w' ⟨A, c, h1, h2, _, h4⟩ => by
      rw [ex18_some] at h1 h2
      exact ⟨A, c, h1, h2, h4⟩)
  have HG2 := Lib.hid (fun (W : World) (b : Nat) (T : Option Addr) (h : W.heap[b]? = some (brO ex18 zs42)) (hW : Below w.heap.size w W) (hT : KIn .i64 W T [1]) => show Calls Tryz.prog 19 #[.pointer (some ⟨b, 0, none⟩), .slice T 1 1, .int .i64 3, .slice none 0 0] W fun e w' => ∃ A c, e = .returned (.tuple #[.slice A 0 c, .int .i64 0]) ∧ Below W.heap.size W w' from
    (gen_gen W b ex18 zs42 h ex18_ok T 1 1 [1] rfl (by omega) hT none 0 0 [] rfl (KIn.nil _ _ _) 3 (by decide +kernel) (hp.below hW (Nat.le_refl _)) (hg.below hW (Nat.le_refl _))).mono fun e w' ⟨A, c, h1, _, _, h4⟩ => by
      rw [ex18_none] at h1
      exact ⟨A, c, h1, h4⟩)
  have HG3 := Lib.hid (fun (W : World) (b : Nat) (T : Option Addr) (h : W.heap[b]? = some (brO ex18 zs42)) (hT : KIn .i64 W T [1, 1]) => show Calls Tryz.prog 19 #[.pointer (some ⟨b, 0, none⟩), .slice T 2 2, .int .i64 3, .slice none 0 0] W fun e w' => e = .returned (.tuple #[.slice none 0 0, .int .i64 12]) ∧ Below W.heap.size W w' from
    gen_gen_not W b ex18 zs42 h T 2 2 [1, 1] rfl (by omega) hT none 0 0 3 (by decide +kernel))
  have HN1 := Lib.hid (fun (W : World) (A : Option Addr) (hW : Below w.heap.size w W) (hA : KIn .i64 W A [8, 0, 0]) => show Calls Tryz.prog 43 #[.int .i64 1, .slice A 3 3] W fun e w' => e = .returned (.int .i64 0) ∧ Below W.heap.size W w' from by
    have := gen_next W 1 A 3 3 [8, 0, 0] rfl (by omega) hA (hp.below hW (Nat.le_refl _))
    rw [ex18_next.1] at this
    exact this)
  have HN2 := Lib.hid (fun (W : World) (A : Option Addr) (hW : Below w.heap.size w W) (hA : KIn .i64 W A [8, 0, 0]) => show Calls Tryz.prog 43 #[.int .i64 65536, .slice A 3 3] W fun e w' => e = .returned (.int .i64 1) ∧ Below W.heap.size W w' from by
    have := gen_next W 65536 A 3 3 [8, 0, 0] rfl (by omega) hA (hp.below hW (Nat.le_refl _))
    rw [ex18_next.2] at this
    exact this)
  obtain ⟨i0, hi0, hz0, hz1, hz2⟩ := info_parts info_u8
  have hmk : ∀ W, (Instr.makeSlice 59 (.int .i64 42) (.int .i64 42)).run Tryz.prog W = .ok (.slice (some ⟨W.heap.size, 0, none⟩) 42 42) (W.alloc (.cells (madeCells #[.int .u8 0] 42) 5)) := fun W =>
    run_make_row 59 5 i0 (.int .u8 0) Tryz.underlying59 hi0 hz0 hz1 rfl .i64 .i64 42 (by rw [hz2]; omega) (by omega) W
  have hr1 := World.rowIs_made (w.alloc (.cells #[.int .i64 3, .int .i64 2, .int .i64 1, .int .i64 1, .int .i64 1, .int .i64 4] 23)) (.int .u8 0) 42 5
  rw [World.size_alloc] at hr1
  have hcv : (convert 59 9 (.slice (some ⟨w.heap.size + 1, 0, none⟩) 42 42)).run Tryz.prog ((w.alloc (.cells #[.int .i64 3, .int .i64 2, .int .i64 1, .int .i64 1, .int .i64 1, .int .i64 4] 23)).alloc (.cells (madeCells #[.int .u8 0] 42) 5)).drew = .ok (.string zs42) ((w.alloc (.cells #[.int .i64 3, .int .i64 2, .int .i64 1, .int .i64 1, .int .i64 1, .int .i64 4] 23)).alloc (.cells (madeCells #[.int .u8 0] 42) 5)).drew := conv42 (W := ((w.alloc (.cells #[.int .i64 3, .int .i64 2, .int .i64 1, .int .i64 1, .int .i64 1, .int .i64 4] 23)).alloc (.cells (madeCells #[.int .u8 0] 42) 5)).drew) hr1.drew
  have HBA := Lib.hid (show Below w.heap.size w ((w.alloc (.cells #[.int .i64 3, .int .i64 2, .int .i64 1, .int .i64 1, .int .i64 1, .int .i64 4] 23)).alloc (.cells (madeCells #[.int .u8 0] 42) 5)).drew from below_drewN (((Below.refl _ _).alloc (Nat.le_refl _) _).alloc (by simp) _) 1)
  have HLT := Lib.hid (show w.heap.size < ((w.alloc (.cells #[.int .i64 3, .int .i64 2, .int .i64 1, .int .i64 1, .int .i64 1, .int .i64 4] 23)).alloc (.cells (madeCells #[.int .u8 0] 42) 5)).drew.heap.size from by show _ < ((w.alloc (.cells #[.int .i64 3, .int .i64 2, .int .i64 1, .int .i64 1, .int .i64 1, .int .i64 4] 23)).alloc (.cells (madeCells #[.int .u8 0] 42) 5)).heap.size; simp; omega)
  clear hr1
  have hb0 := (Below.refl w.heap.size w).alloc (Nat.le_refl _) (.cells #[.int .i64 3, .int .i64 2, .int .i64 1, .int .i64 1, .int .i64 1, .int .i64 4] 23)
  have HB0 := Lib.hid (below_drewN hb0 1)
  have HH0 := heap_alloc_new w (.cells #[.int .i64 3, .int .i64 2, .int .i64 1, .int .i64 1, .int .i64 1, .int .i64 4] 23)
  have HK := Lib.hid (fun (W : World) (h : W.heap[w.heap.size]? = some (.cells #[.int .i64 3, .int .i64 2, .int .i64 1, .int .i64 1, .int .i64 1, .int .i64 4] 23 (0, 0))) => show W.cell? ⟨w.heap.size, 0, none⟩ = some (.int .i64 3) ∧ W.cell? ⟨w.heap.size, 1, none⟩ = some (.int .i64 2) ∧ W.cell? ⟨w.heap.size, 2, none⟩ = some (.int .i64 1) ∧ W.cell? ⟨w.heap.size, 3, none⟩ = some (.int .i64 1) ∧ W.cell? ⟨w.heap.size, 4, none⟩ = some (.int .i64 1) ∧ W.cell? ⟨w.heap.size, 5, none⟩ = some (.int .i64 4) from
    ⟨by rw [cell_of_row _ _ _ _ _ _ h]; rfl, by rw [cell_of_row _ _ _ _ _ _ h]; rfl, by rw [cell_of_row _ _ _ _ _ _ h]; rfl, by rw [cell_of_row _ _ _ _ _ _ h]; rfl, by rw [cell_of_row _ _ _ _ _ _ h]; rfl, by rw [cell_of_row _ _ _ _ _ _ h]; rfl⟩)
  have k0 := HK.out (w.alloc (.cells #[.int .i64 3, .int .i64 2, .int .i64 1, .int .i64 1, .int .i64 1, .int .i64 4] 23)).drew HH0
  have HHA := Lib.hid (fun o => heap_alloc_old (w.alloc (.cells #[.int .i64 3, .int .i64 2, .int .i64 1, .int .i64 1, .int .i64 1, .int .i64 4] 23)) o (Array.getElem?_eq_some_iff.1 HH0).1 |>.trans HH0)
  have HHO := Lib.hid HH0
  clear hi0 hz0 hz1 hz2 hb0 HH0 hp hg
  go_enter Tryz.func17, Tryz.ntmps17
  go_wp2_with (fail)
  -- HAND
  refine wp_region_noPanic ?_
  refine wp_region_held_drew (S := (fun W : World => W.cell? ⟨w.heap.size, 0, none⟩ = some (.int .i64 3) ∧ W.cell? ⟨w.heap.size, 1, none⟩ = some (.int .i64 2) ∧ W.cell? ⟨w.heap.size, 2, none⟩ = some (.int .i64 1) ∧ W.cell? ⟨w.heap.size, 3, none⟩ = some (.int .i64 1) ∧ W.cell? ⟨w.heap.size, 4, none⟩ = some (.int .i64 1) ∧ W.cell? ⟨w.heap.size, 5, none⟩ = some (.int .i64 4))) (by kernel_rfl) k0 (fun hHeld => ?_)
  refine wpAnyH_takeAt (i := 0) (v := .agg #[.int .i64 3, .int .i64 2, .int .i64 1, .int .i64 1, .int .i64 1, .int .i64 4]) 12 rfl rfl (by kernel_rfl) (by kernel_rfl) (by kernel_rfl) (fun _ _ _ h => h) (Or.inl ⟨by rfl, ?_⟩) hHeld ?_
  · intro W hW
    try dsimp only at hW
    go_simp
  simp only [Act.put, List.setIfInBounds_toArray, List.set_cons_succ, List.set_cons_zero]
  refine wpAnyH_ready (rs := [1]) (by kernel_rfl) (by simp) ?_
  refine AllReadyH.cons rfl (fun K hK => ?_) AllReadyH.nil
  go_simp
  refine hK.out _ _ (HK.out _ (HHA.out _)) (fun hHeld2 => ?_)
  clear hK K hHeld
  have hHeld := hHeld2
  clear hHeld2
  try simp only [Act.put, List.setIfInBounds_toArray, List.set_cons_succ, List.set_cons_zero]
  refine wpAnyH_ready (rs := [2]) (by kernel_rfl) (by simp) ?_
  refine AllReadyH.cons rfl (fun K hK => ?_) AllReadyH.nil
  go_simp
  refine hK.out _ _ (HK.out _ (HHA.out _)) (fun hHeld2 => ?_)
  clear hK K hHeld
  have hHeld := hHeld2
  clear hHeld2
  try simp only [Act.put, List.setIfInBounds_toArray, List.set_cons_succ, List.set_cons_zero]
  refine wpAnyH_ready (rs := [3]) (by kernel_rfl) (by simp) ?_
  refine AllReadyH.cons rfl (fun K hK => ?_) AllReadyH.nil
  go_simp
  refine (HO.out _).mono ?_
  rintro e w1 ⟨b, rfl, hb, hh, b1⟩
  have HB1 := Lib.hid (HBA.out.trans (b1.mono HBA.out.size))
  have HH1 := Lib.hid hh
  have k1 := HK.out w1 ((b1.block _ HLT.out).trans (HHA.out _))
  clear b1 hb hh
  refine hK.out _ _ k1 (fun hHeld2 => ?_)
  clear hK K hHeld
  have hHeld := hHeld2
  clear hHeld2
  try simp only [Act.put, List.setIfInBounds_toArray, List.set_cons_succ, List.set_cons_zero]
  refine wpAnyH_takeAt (i := 4) (v := .tuple #[.pointer (some ⟨b, 0, none⟩), .int .i64 0]) 11 rfl rfl (by kernel_rfl) (by kernel_rfl) (by kernel_rfl) (fun _ _ _ h => h) (Or.inl ⟨by rfl, ?_⟩) hHeld ?_
  · intro W hW
    try dsimp only at hW
    go_simp
  simp only [Act.put, List.setIfInBounds_toArray, List.set_cons_succ, List.set_cons_zero]
  refine wpAnyH_takeAt (i := 5) (v := .pointer (some ⟨b, 0, none⟩)) 16 rfl rfl (by kernel_rfl) (by kernel_rfl) (by kernel_rfl) (fun _ _ _ h => h) (Or.inl ⟨by rfl, ?_⟩) hHeld ?_
  · intro W hW
    try dsimp only at hW
    go_simp
  simp only [Act.put, List.setIfInBounds_toArray, List.set_cons_succ, List.set_cons_zero]
  refine wpAnyH_takeAt (i := 6) (v := .int .i64 0) 17 rfl rfl (by kernel_rfl) (by kernel_rfl) (by kernel_rfl) (fun _ _ _ h => h) (Or.inl ⟨by rfl, ?_⟩) hHeld ?_
  · intro W hW
    try dsimp only at hW
    go_simp
  simp only [Act.put, List.setIfInBounds_toArray, List.set_cons_succ, List.set_cons_zero]
  refine wpAnyH_takeAt (i := 7) (v := .pointer (some ⟨b, 0, none⟩)) 2 rfl rfl (by kernel_rfl) (by kernel_rfl) (by kernel_rfl) (fun _ _ _ h => h) (Or.inl ⟨by rfl, ?_⟩) hHeld ?_
  · intro W hW
    try dsimp only at hW
    go_simp
  simp only [Act.put, List.setIfInBounds_toArray, List.set_cons_succ, List.set_cons_zero]
  refine wpAnyH_takeAt (i := 8) (v := .int .i64 0) 3 rfl rfl (by kernel_rfl) (by kernel_rfl) (by kernel_rfl) (fun _ _ _ h => h) (Or.inl ⟨by rfl, ?_⟩) hHeld ?_
  · intro W hW
    try dsimp only at hW
    go_simp
  simp only [Act.put, List.setIfInBounds_toArray, List.set_cons_succ, List.set_cons_zero]
  refine wpAnyH_done (by kernel_rfl) ?_ _
  refine NoPanic.normal ?_
  -- DNAH
  clear k0 k1 hcv hmk HK HHA HHO HBA HB0 HLT HO
  have HA2 := Lib.hid ((Below.refl w1.heap.size w1).alloc (Nat.le_refl _) (.cells #[.int .i64 1] 3))
  have HA3 := Lib.hid (HA2.out.alloc HA2.out.size (.cells #[.int .i64 65536, .int .i64 131072, .int .i64 0] 3))
  go_wp2_with (fail)
  refine (HG1.out _ b (some ⟨w1.heap.size, 0, none⟩) (some ⟨w1.heap.size + 1, 0, none⟩) (Br.stays HH1.out HA3.out) (HB1.out.trans (HA3.out.mono HB1.out.size)) ((kin1 w1 w1.heap.size 1 rfl).alloc _) (kin3 (w1.alloc (.cells #[.int .i64 1] 3)) (w1.heap.size + 1) 65536 131072 0 (by simp))).mono ?_
  rintro e w2 ⟨A, c, rfl, hka, b2⟩
  have HB2 := Lib.hid (HB1.out.trans ((HA3.out.trans (b2.mono HA3.out.size)).mono HB1.out.size))
  have HH2 := Lib.hid (Br.stays HH1.out (HA3.out.trans (b2.mono HA3.out.size)))
  have HK2 := Lib.hid hka
  have HA4 := Lib.hid ((Below.refl w2.heap.size w2).alloc (Nat.le_refl _) (.cells #[.int .i64 1] 3))
  clear hka b2 HG1
  go_wp2_with (fail)
  refine (HG2.out _ b (some ⟨w2.heap.size, 0, none⟩) (Br.stays HH2.out HA4.out) (HB2.out.trans (HA4.out.mono HB2.out.size)) (kin1 w2 w2.heap.size 1 rfl)).mono ?_
  rintro e w3 ⟨A2, c2, rfl, b3⟩
  have HW3 := Lib.hid (HA4.out.trans (b3.mono HA4.out.size))
  have HB3 := Lib.hid (HB2.out.trans (HW3.out.mono HB2.out.size))
  have HH3 := Lib.hid (Br.stays HH2.out HW3.out)
  have HK3 := Lib.hid (HK2.out.below HW3.out (Nat.le_refl _))
  have HA5 := Lib.hid ((Below.refl w3.heap.size w3).alloc (Nat.le_refl _) (.cells #[.int .i64 1, .int .i64 1] 3))
  clear b3 HG2
  go_wp2_with (fail)
  refine (HG3.out _ b (some ⟨w3.heap.size, 0, none⟩) (Br.stays HH3.out HA5.out) (kin2 w3 w3.heap.size 1 1 rfl)).mono ?_
  rintro e w4 ⟨rfl, b4⟩
  have HW4 := Lib.hid (HA5.out.trans (b4.mono HA5.out.size))
  have HB4 := Lib.hid (HB3.out.trans (HW4.out.mono HB3.out.size))
  have HK4 := Lib.hid (HK3.out.below HW4.out (Nat.le_refl _))
  have HA6 := Lib.hid ((Below.refl w4.heap.size w4).alloc (Nat.le_refl _) (.cells #[.int .i64 1, .int .i64 2] 3))
  clear b4 HG3
  go_wp2_with (fail)
  refine (ints_any18 _ A 2 c (some ⟨w4.heap.size, 0, none⟩) 2 2 [1, 2] [1, 2] rfl rfl (by omega) (HK4.out.alloc _) (kin2 w4 w4.heap.size 1 2 rfl)).mono ?_
  rintro e w5 ⟨rfl, q, rfl⟩
  have HW5 := Lib.hid (below_drewN HA6.out q)
  have HB5 := Lib.hid (HB4.out.trans (HW5.out.mono HB4.out.size))
  generalize (w4.alloc (.cells #[.int .i64 1, .int .i64 2] 3)).drewN q = w6 at HB5 ⊢
  have HA7 := Lib.hid ((Below.refl w6.heap.size w6).alloc (Nat.le_refl _) (.cells #[.int .i64 8, .int .i64 0, .int .i64 0] 3))
  go_wp2_with (fail)
  refine (HN1.out _ (some ⟨w6.heap.size, 0, none⟩) (HB5.out.trans (HA7.out.mono HB5.out.size)) (kin3 w6 w6.heap.size 8 0 0 rfl)).mono ?_
  rintro e w7 ⟨rfl, b7⟩
  have HW7 := Lib.hid (HA7.out.trans (b7.mono HA7.out.size))
  have HB7 := Lib.hid (HB5.out.trans (HW7.out.mono HB5.out.size))
  have HA8 := Lib.hid ((Below.refl w7.heap.size w7).alloc (Nat.le_refl _) (.cells #[.int .i64 8, .int .i64 0, .int .i64 0] 3))
  clear b7
  go_wp2_with (fail)
  refine (HN2.out _ (some ⟨w7.heap.size, 0, none⟩) (HB7.out.trans (HA8.out.mono HB7.out.size)) (kin3 w7 w7.heap.size 8 0 0 rfl)).mono ?_
  rintro e w8 ⟨rfl, b8⟩
  have HB8 := Lib.hid (HB7.out.trans ((HA8.out.trans (b8.mono HA8.out.size)).mono HB7.out.size))
  clear b8
  go_wp2_with (fail)
  exact bodyPost_ret (results_tmp rfl _ _ _) rfl ⟨rfl, HB8.out⟩
end Go.Proofs.YtkdkeokldcehhaaGreatDoor
namespace Go.Proofs.YtkdkeokldcehhaaGreatDoor
open Go.ChangeShapes Go.WideShapes Go.ChangeAt Go.RowKit Cf Vc Br Nr Sf Ac Sp Gn

namespace Gn
def smallG (x : Cfg) : Bool := decide (x.d ≤ 6) && (decide (x.n ≤ 6) && (decide (x.b ≤ 2) && (decide (x.v ≤ 8) && decide (x.c ≤ 12))))
/-- Of fewer at most too. -/
theorem errG_less {x : Cfg} {M : Nat} {pr : List Int} (h : errG x (M : Int) pr = 0) {j : Nat} (h1 : 1 ≤ j) (h2 : j ≤ M) : errG x (j : Int) pr = 0 := by
  obtain ⟨a, b, c, d, e⟩ := errG_ok.1 h
  exact errG_ok.2 ⟨a, by omega, by omega, d, by omega⟩
theorem errG_most {x : Cfg} {most : Int} {pr : List Int} (h : errG x most pr = 0) : ∃ M : Nat, most = (M : Int) ∧ 1 ≤ M ∧ M ≤ 32 := by
  obtain ⟨_, b, c, _⟩ := errG_ok.1 h
  exact ⟨most.toNat, by omega, by omega, by omega⟩
theorem getD_left {ds : List Int} {j : Nat} (h : j < ds.length) (z : Int) : (ds ++ [z]).getD j 0 = ds.getD j 0 := by
  rw [List.getD_eq_getElem?_getD, List.getElem?_append_left h, List.getD_eq_getElem?_getD]
theorem getD_zero (ds : List Int) (j : Nat) : (ds ++ [0]).getD j 0 = ds.getD j 0 := by
  by_cases h : j < ds.length
  · exact getD_left h 0
  · rw [List.getD_eq_getElem?_getD, List.getElem?_append_right (by omega), List.getD_eq_getElem?_getD, List.getElem?_eq_none (l := ds) (by omega)]
    cases h : j - ds.length <;> simp
end Gn
set_option maxRecDepth 100000 in
set_option maxHeartbeats 1600000 in
theorem small18 (x : Cfg) (w : World) : Calls Tryz.prog 18 #[cfV x] w fun e w' => e = .returned (.bool (smallG x)) ∧ Below w.heap.size w w' := by
  have HB0 := Lib.hid ((Below.refl w.heap.size w).alloc (Nat.le_refl _) (cfO 23 x))
  have HH0 := heap_alloc_new w (cfO 23 x)
  obtain ⟨e0, e1, e2, e3, e4, e5⟩ := six HH0
  unfold cfO cfA at HB0 e0 e1 e2 e3 e4 e5
  have HV := Lib.hid (show smallG x = (decide (x.d ≤ 6) && (decide (x.n ≤ 6) && (decide (x.b ≤ 2) && (decide (x.v ≤ 8) && decide (x.c ≤ 12))))) from rfl)
  generalize smallG x = r at HV ⊢
  unfold cfV cfA
  clear HH0
  by_cases h1 : x.d ≤ 6
  · have t1 : decide (x.d ≤ 6) = true := decide_eq_true h1
    by_cases h2 : x.n ≤ 6
    · have t2 : decide (x.n ≤ 6) = true := decide_eq_true h2
      by_cases h3 : x.b ≤ 2
      · have t3 : decide (x.b ≤ 2) = true := decide_eq_true h3
        by_cases h4 : x.v ≤ 8
        · have t4 : decide (x.v ≤ 8) = true := decide_eq_true h4
          by_cases h5 : x.c ≤ 12
          · have t5 : decide (x.c ≤ 12) = true := decide_eq_true h5
            have HW := Lib.hid (show r = true from by rw [HV.out, t1, t2, t3, t4, t5]; rfl)
            go_enter Tryz.func18, Tryz.ntmps18
            go_wp2_with (fail)
            exact bodyPost_ret (results_tmp rfl _ _ _) rfl ⟨by rw [HW.out]; rfl, HB0.out⟩
          · have t5 : decide (x.c ≤ 12) = false := decide_eq_false h5
            have HW := Lib.hid (show r = false from by rw [HV.out, t1, t2, t3, t4, t5]; rfl)
            go_enter Tryz.func18, Tryz.ntmps18
            go_wp2_with (fail)
            exact bodyPost_ret (results_tmp rfl _ _ _) rfl ⟨by rw [HW.out]; rfl, HB0.out⟩
        · have t4 : decide (x.v ≤ 8) = false := decide_eq_false h4
          have HW := Lib.hid (show r = false from by rw [HV.out, t1, t2, t3, t4]; rfl)
          go_enter Tryz.func18, Tryz.ntmps18
          go_wp2_with (fail)
          exact bodyPost_ret (results_tmp rfl _ _ _) rfl ⟨by rw [HW.out]; rfl, HB0.out⟩
      · have t3 : decide (x.b ≤ 2) = false := decide_eq_false h3
        have HW := Lib.hid (show r = false from by rw [HV.out, t1, t2, t3]; rfl)
        go_enter Tryz.func18, Tryz.ntmps18
        go_wp2_with (fail)
        exact bodyPost_ret (results_tmp rfl _ _ _) rfl ⟨by rw [HW.out]; rfl, HB0.out⟩
    · have t2 : decide (x.n ≤ 6) = false := decide_eq_false h2
      have HW := Lib.hid (show r = false from by rw [HV.out, t1, t2]; rfl)
      go_enter Tryz.func18, Tryz.ntmps18
      go_wp2_with (fail)
      exact bodyPost_ret (results_tmp rfl _ _ _) rfl ⟨by rw [HW.out]; rfl, HB0.out⟩
  · have t1 : decide (x.d ≤ 6) = false := decide_eq_false h1
    have HW := Lib.hid (show r = false from by rw [HV.out, t1]; rfl)
    go_enter Tryz.func18, Tryz.ntmps18
    go_wp2_with (fail)
    exact bodyPost_ret (results_tmp rfl _ _ _) rfl ⟨by rw [HW.out]; rfl, HB0.out⟩
end Go.Proofs.YtkdkeokldcehhaaGreatDoor
namespace Go.Proofs.YtkdkeokldcehhaaGreatDoor
open Go.ChangeShapes Go.WideShapes Go.ChangeAt Go.RowKit Cf Vc Br Nr Sf Ac Sp Gn Rf

set_option maxRecDepth 100000 in
set_option maxHeartbeats 3200000 in
theorem ref18_gen_not (w : World) (x : Cfg) (s : ByteArray) (hk : Ok x s) (T : Option Addr) (m d : Nat) (ts : List Int) (most : Int) (D : Option Addr) (nd cd : Nat) (gr : Bool) (hT : ts.length = m) (hm : m ≤ 1000000) (hK : KIn .i64 w T ts) (he : errG x most ts ≠ 0) :
    Calls Tryz.prog 20 #[mdV x s, .slice T m d, .int .i64 most, .slice D nd cd, .bool gr] w fun e w' => e = .returned (.tuple #[.slice none 0 0, .int .i64 (errG x most ts)]) ∧ Below w.heap.size w w' := by
  have HB0 := Lib.hid (show Below w.heap.size w (w.alloc (mdO x s)) from (Below.refl _ _).alloc (Nat.le_refl _) _)
  have HCK := Lib.hid (ref18_check (w.alloc (mdO x s)) x s hk T m d ts most hT hm (hK.below ((Below.refl w.heap.size w).alloc (Nat.le_refl _) _) (Nat.le_refl _)))
  generalize errG x most ts = r at HCK he ⊢
  have t0 : (r != 0) = true := bne_iff_ne.2 he
  have t1 : (r == 0) = false := beq_eq_false_iff_ne.2 he
  unfold mdV mdO brA at HCK
  unfold mdO brA at HB0
  unfold mdV brA
  clear hk hT hm hK he
  go_enter Tryz.func20, Tryz.ntmps20
  go_wp2_with (fail)
  refine HCK.out.mono ?_
  rintro e w2 ⟨rfl, b2⟩
  have HB2 := Lib.hid (HB0.out.trans (b2.mono HB0.out.size))
  clear b2
  go_wp2_with (fail)
  exact bodyPost_ret (results_tmp2 rfl _ _ _) rfl ⟨rfl, HB2.out⟩
namespace genExact
/-- What is said, or why nothing is. -/
def SR (w : World) (G : List Int) (r : Int) (e : Ending) (w' : World) : Prop := ∃ A c, e = .returned (.tuple #[.slice A G.length c, .int .i64 r]) ∧ KIn .i64 w' A G ∧ Below w.heap.size w w'
theorem sr_said {w w' : World} {G : List Int} {e : Ending} (h : SaidSays w G e w') : SR w G 0 e w' := by
  obtain ⟨A, c, h1, h2, _, h4⟩ := h
  exact ⟨A, c, h1, h2, h4⟩
theorem sr_not {w w' : World} {r : Int} {e : Ending} (h : e = .returned (.tuple #[.slice none 0 0, .int .i64 r]) ∧ Below w.heap.size w w') : SR w [] r e w' := ⟨none, 0, h.1, KIn.nil _ _ _, h.2⟩
set_option maxRecDepth 100000 in
set_option maxHeartbeats 12800000 in
theorem walk (w : World) (x : Cfg) (s : ByteArray) (T : Option Addr) (n c : Nat) (ts : List Int) (most : Int) (D : Option Addr) (nd cd : Nat) (ds : List Int) (hts : ts.length = n) (hK : KIn .i64 w T ts) (hds : ds.length = nd) (hD : KIn .i64 w D ds) (hpg : POn w ∧ GOn w) :
    Calls Tryz.prog 4 #[cfV x, .string s, .slice T n c, .int .i64 most, .slice D nd cd] w fun e w' => e = .returned (.bool true) ∧ Below w.heap.size w w' := by
  have HAW := Lib.hid (fun W (hW : Below w.heap.size w W) => awake18 W (hpg.1.below hW (Nat.le_refl _)) (hpg.2.below hW (Nat.le_refl _)))
  have HB0 := Lib.hid ((Below.refl w.heap.size w).alloc (Nat.le_refl _) (cfO 23 x))
  have HH0 := Lib.hid (heap_alloc_new w (cfO 23 x))
  have HSM := Lib.hid (fun W => small18 x W)
  have HPG := Lib.hid hpg
  have HTS := Lib.hid hts
  have HK := Lib.hid hK
  have HDS := Lib.hid hds
  have HD := Lib.hid hD
  clear hpg hts hK hds hD
  by_cases h1 : 20 < n
  · have t0 : 20 < (n : Int) := by omega
    have t1 : decide (20 < (n : Int)) = true := decide_eq_true t0
    unfold cfV cfA at *
    unfold cfO cfA at HB0
    go_enter Tryz.func4, Tryz.ntmps4
    go_wp2_with (fail)
    refine (HAW.out _ HB0.out).mono ?_
    rintro e w1 ⟨rfl, b1⟩
    have HB1 := Lib.hid (HB0.out.trans (b1.mono HB0.out.size))
    clear b1
    go_wp2_with (fail)
    exact bodyPost_ret (results_tmp rfl _ _ _) rfl ⟨rfl, HB1.out⟩
  have t0 : ¬ 20 < (n : Int) := by omega
  have t1 : decide (20 < (n : Int)) = false := decide_eq_false t0
  by_cases h2 : 20 < nd
  · have t2 : 20 < (nd : Int) := by omega
    have t3 : decide (20 < (nd : Int)) = true := decide_eq_true t2
    unfold cfV cfA at *
    unfold cfO cfA at HB0
    go_enter Tryz.func4, Tryz.ntmps4
    go_wp2_with (fail)
    refine (HAW.out _ HB0.out).mono ?_
    rintro e w1 ⟨rfl, b1⟩
    have HB1 := Lib.hid (HB0.out.trans (b1.mono HB0.out.size))
    clear b1
    go_wp2_with (fail)
    exact bodyPost_ret (results_tmp rfl _ _ _) rfl ⟨rfl, HB1.out⟩
  have t2 : ¬ 20 < (nd : Int) := by omega
  have t3 : decide (20 < (nd : Int)) = false := decide_eq_false t2
  have HN := Lib.hid (show n ≤ 20 ∧ nd ≤ 20 by omega)
  have hk0 : cfO 23 x = .cells #[.int .i64 x.v, .int .i64 x.d, .int .i64 x.h, .int .i64 x.b, .int .i64 x.n, .int .i64 x.c] 23 (0, 0) := rfl
  have HKO := Lib.hid hk0
  have HOK := Lib.hid (fun (W : World) (h : Ok x s) => brain_of W x s h)
  have HNO := Lib.hid (fun (h : ¬ Ok x s) => show ∃ m : Int, m ≠ 0 ∧ ∀ W, Calls Tryz.prog 7 #[cfV x, .string s] W fun e w' => e = .returned (.tuple #[.pointer none, .int .i64 m]) ∧ Below W.heap.size W w' from by
    cases hgz : goodZ x with
    | false => exact ⟨1, by decide, fun W => brain_of_arg W x s hgz⟩
    | true => exact ⟨5, by decide, fun W => brain_of_form W x s hgz fun hs => h ⟨good_iff.1 hgz, hs⟩⟩)
  clear h1 h2 hk0
  unfold cfV cfA at HSM HOK HNO ⊢
  unfold cfO cfA at HB0
  go_enter Tryz.func4, Tryz.ntmps4
  go_wp2_with (fail)
  refine (HAW.out _ HB0.out).mono ?_
  rintro e w1 ⟨rfl, b1⟩
  have HB1 := Lib.hid (HB0.out.trans (b1.mono HB0.out.size))
  have HH1 := Lib.hid (Cf.stays HH0.out b1)
  clear b1 HAW HB0 HH0
  obtain ⟨e0, e1, e2, e3, e4, e5⟩ := six HH1.out
  go_wp2_with (fail)
  refine (HSM.out _).mono ?_
  rintro e w2 ⟨rfl, b2⟩
  have HB2 := Lib.hid (HB1.out.trans (b2.mono HB1.out.size))
  have HH2 := Lib.hid (Cf.stays HH1.out b2)
  clear b2 e0 e1 e2 e3 e4 e5 HB1 HH1 HSM
  cases smallG x with
  | false =>
    go_wp2_with (fail)
    exact bodyPost_ret (results_tmp rfl _ _ _) rfl ⟨rfl, HB2.out⟩
  | true =>
  by_cases h3 : 2048 < s.size
  · have t4 : 2048 < (s.size : Int) := by omega
    have t5 : decide (2048 < (s.size : Int)) = true := decide_eq_true t4
    go_wp2_with (fail)
    exact bodyPost_ret (results_tmp rfl _ _ _) rfl ⟨rfl, HB2.out⟩
  have t4 : ¬ 2048 < (s.size : Int) := by omega
  have t5 : decide (2048 < (s.size : Int)) = false := decide_eq_false t4
  obtain ⟨e0, e1, e2, e3, e4, e5⟩ := six HH2.out
  by_cases hk : Ok x s
  case neg =>
    obtain ⟨m, hm, ho⟩ := HNO.out hk
    have HO := Lib.hid ho
    have t8 : (m != 0) = true := bne_iff_ne.2 hm
    clear ho hm HNO HOK
    go_wp2_with (fail)
    refine (HO.out _).mono ?_
    rintro e w3 ⟨rfl, b3⟩
    have HB3 := Lib.hid (HB2.out.trans (b3.mono HB2.out.size))
    clear b3
    go_wp2_with (fail)
    exact bodyPost_ret (results_tmp rfl _ _ _) rfl ⟨rfl, HB3.out⟩
  case pos =>
    -- what each of them says
    obtain ⟨Ga, Gb, r, hla, hlb, hg1, hr1, hg2, hr2⟩ : ∃ (Ga Gb : List Int) (r : Int), Ga.length ≤ 32 ∧ Gb.length ≤ 32 ∧
        (∀ W b, Below w.heap.size w W → W.heap[b]? = some (brO x s) → Calls Tryz.prog 19 #[.pointer (some ⟨b, 0, none⟩), .slice T n c, .int .i64 most, .slice D nd cd] W (SR W Ga r)) ∧
        (∀ W, Below w.heap.size w W → Calls Tryz.prog 20 #[mdV x s, .slice T n c, .int .i64 most, .slice D nd cd, .bool false] W (SR W Ga r)) ∧
        (∀ W b, Below w.heap.size w W → W.heap[b]? = some (brO x s) → Calls Tryz.prog 21 #[.pointer (some ⟨b, 0, none⟩), .slice T n c, .int .i64 most] W (SR W Gb r) ∧ Calls Tryz.prog 23 #[.pointer (some ⟨b, 0, none⟩), .int .i64 most, .slice T n c] W fun e w' => e = .returned (.int .i64 r) ∧ Below W.heap.size W w') ∧
        (∀ W, Below w.heap.size w W → Calls Tryz.prog 20 #[mdV x s, .slice T n c, .int .i64 most, .slice none 0 0, .bool true] W (SR W Gb r)) := by
      have hn := HN.out
      have hts := HTS.out
      have hds := HDS.out
      by_cases he : errG x most ts = 0
      · obtain ⟨M, rfl, _, hM⟩ := errG_most he
        refine ⟨genT x s (takeD ds) M 0 ts, genT x s takeB M 0 ts, 0, Nat.le_trans (genT_length _ _ _ _ _ _) hM, Nat.le_trans (genT_length _ _ _ _ _ _) hM, fun W b hW hb => ?_, fun W hW => ?_, fun W b hW hb => ⟨?_, ?_⟩, fun W hW => ?_⟩
        · exact (gen_gen W b x s hb hk T n c ts hts (by omega) (HK.out.below hW (Nat.le_refl _)) D nd cd ds hds (HD.out.below hW (Nat.le_refl _)) M he (HPG.out.1.below hW (Nat.le_refl _)) (HPG.out.2.below hW (Nat.le_refl _))).mono fun e w' h => sr_said h
        · exact (ref18_gen W x s hk T n c ts M D nd cd ds false hts (by omega) (HK.out.below hW (Nat.le_refl _)) hds (HD.out.below hW (Nat.le_refl _)) he).mono fun e w' h => sr_said h
        · exact (gen_greedy W b x s hb hk T n c ts hts (by omega) (HK.out.below hW (Nat.le_refl _)) M he (HPG.out.1.below hW (Nat.le_refl _)) (HPG.out.2.below hW (Nat.le_refl _))).mono fun e w' h => sr_said h
        · have := gen_check W T n c ts (M : Int) b x s hb hts (by omega) (HK.out.below hW (Nat.le_refl _))
          rwa [he] at this
        · exact (ref18_gen W x s hk T n c ts M none 0 0 [] true hts (by omega) (HK.out.below hW (Nat.le_refl _)) rfl (KIn.nil _ _ _) he).mono fun e w' h => sr_said h
      · refine ⟨[], [], errG x most ts, Nat.zero_le _, Nat.zero_le _, fun W b hW hb => ?_, fun W hW => ?_, fun W b hW hb => ⟨?_, ?_⟩, fun W hW => ?_⟩
        · exact (gen_gen_not W b x s hb T n c ts hts (by omega) (HK.out.below hW (Nat.le_refl _)) D nd cd most he).mono fun e w' h => sr_not h
        · exact (ref18_gen_not W x s hk T n c ts most D nd cd false hts (by omega) (HK.out.below hW (Nat.le_refl _)) he).mono fun e w' h => sr_not h
        · exact (gen_greedy_not W b x s hb T n c ts hts (by omega) (HK.out.below hW (Nat.le_refl _)) most he).mono fun e w' h => sr_not h
        · exact gen_check W T n c ts most b x s hb hts (by omega) (HK.out.below hW (Nat.le_refl _))
        · exact (ref18_gen_not W x s hk T n c ts most none 0 0 true hts (by omega) (HK.out.below hW (Nat.le_refl _)) he).mono fun e w' h => sr_not h
    have HO := Lib.hid (fun W => HOK.out W hk)
    have HG1 := Lib.hid hg1
    have HR1 := Lib.hid hr1
    have HG2 := Lib.hid hg2
    have HR2 := Lib.hid hr2
    have HLL := Lib.hid (And.intro hla hlb)
    clear hg1 hr1 hg2 hr2 hla hlb hk HNO HOK h3 HPG
    unfold mdV brA at HR1 HR2
    go_wp2_with (fail)
    refine (HO.out _).mono ?_
    rintro e w3 ⟨b, rfl, hb, hh3, b3⟩
    have HB3 := Lib.hid (HB2.out.trans (b3.mono HB2.out.size))
    have HH3 := Lib.hid hh3
    have HC3 := Lib.hid (Cf.stays HH2.out b3)
    clear hb hh3 b3 e0 e1 e2 e3 e4 e5 HO HH2 HB2
    obtain ⟨e0, e1, e2, e3, e4, e5⟩ := six HC3.out
    go_upto_region 9 with (fail)
    have HB4 := Lib.hid (HB3.out.alloc HB3.out.size (.cells #[.int .i64 x.v, .int .i64 x.d, .int .i64 x.h, .int .i64 x.b, .int .i64 x.n, .int .i64 x.c, .string s] 35))
    have HH4 := Lib.hid (show (w3.alloc (.cells #[.int .i64 x.v, .int .i64 x.d, .int .i64 x.h, .int .i64 x.b, .int .i64 x.n, .int .i64 x.c, .string s] 35)).heap[b]? = some (brO x s) from (heap_alloc_old _ _ (Array.getElem?_eq_some_iff.1 HH3.out).1).trans HH3.out)
    have HM4 := Lib.hid (show (w3.alloc (.cells #[.int .i64 x.v, .int .i64 x.d, .int .i64 x.h, .int .i64 x.b, .int .i64 x.n, .int .i64 x.c, .string s] 35)).heap[w3.heap.size]? = some (mdO x s) from heap_alloc_new w3 _)
    generalize hq : w3.heap.size = q at HM4
    generalize w3.alloc (.cells #[.int .i64 x.v, .int .i64 x.d, .int .i64 x.h, .int .i64 x.b, .int .i64 x.n, .int .i64 x.c, .string s] 35) = w4 at HB4 HH4 HM4 ⊢
    try rw [hq]
    clear e0 e1 e2 e3 e4 e5 HB3 HH3 HC3 hq
    go_wp2_with (fail)
    refine (HG1.out w4 b HB4.out HH4.out).mono ?_
    rintro e w5 ⟨A5, c5, rfl, k5, b5⟩
    have HB5 := Lib.hid (HB4.out.trans (b5.mono HB4.out.size))
    have HH5 := Lib.hid (Rf.stays HH4.out b5)
    have HM5 := Lib.hid (Rf.stays HM4.out b5)
    have HK5 := Lib.hid k5
    clear k5 b5
    obtain ⟨e0, e1, e2, e3, e4, e5, e6⟩ := Rf.seven HM5.out
    go_wp2_with (fail)
    refine (HR1.out w5 HB5.out).mono ?_
    rintro e w6 ⟨A6, c6, rfl, k6, b6⟩
    have HB6 := Lib.hid (HB5.out.trans (b6.mono HB5.out.size))
    have HH6 := Lib.hid (Rf.stays HH5.out b6)
    have HM6 := Lib.hid (Rf.stays HM5.out b6)
    have HK56 := Lib.hid (HK5.out.below b6 (Nat.le_refl _))
    have HK6 := Lib.hid k6
    clear k6 b6 e0 e1 e2 e3 e4 e5 e6 HH4 HM4 HB4 HK5 HB5 HH5 HM5
    go_wp2_with (fail)
    refine (HG2.out w6 b HB6.out HH6.out).1.mono ?_
    rintro e w7 ⟨A7, c7, rfl, k7, b7⟩
    have HB7 := Lib.hid (HB6.out.trans (b7.mono HB6.out.size))
    have HH7 := Lib.hid (Rf.stays HH6.out b7)
    have HM7 := Lib.hid (Rf.stays HM6.out b7)
    have HK57 := Lib.hid (HK56.out.below b7 (Nat.le_refl _))
    have HK67 := Lib.hid (HK6.out.below b7 (Nat.le_refl _))
    have HK7 := Lib.hid k7
    clear k7 b7 HK56 HK6 HB6 HH6 HM6
    obtain ⟨e0, e1, e2, e3, e4, e5, e6⟩ := Rf.seven HM7.out
    go_wp2_with (fail)
    refine (HR2.out w7 HB7.out).mono ?_
    rintro e w8 ⟨A8, c8, rfl, k8, b8⟩
    have HB8 := Lib.hid (HB7.out.trans (b8.mono HB7.out.size))
    have HH8 := Lib.hid (Rf.stays HH7.out b8)
    have HK58 := Lib.hid (HK57.out.below b8 (Nat.le_refl _))
    have HK68 := Lib.hid (HK67.out.below b8 (Nat.le_refl _))
    have HK78 := Lib.hid (HK7.out.below b8 (Nat.le_refl _))
    have HK8 := Lib.hid k8
    clear k8 b8 e0 e1 e2 e3 e4 e5 e6 HK57 HK67 HK7 HB7 HH7 HM7
    have HI1 := Lib.hid (show Calls Tryz.prog 22 #[.slice A5 Ga.length c5, .slice A6 Ga.length c6] w8 fun e w' => e = .returned (.bool true) ∧ Below w8.heap.size w8 w' from by
      have := ints_any18 w8 A5 Ga.length c5 A6 Ga.length c6 Ga Ga rfl rfl (by have := HLL.out; omega) HK58.out HK68.out
      rw [decide_eq_true rfl] at this
      exact this.mono fun e w' ⟨h1, d, h2⟩ => ⟨h1, by rw [h2]; exact below_drewN (Below.refl _ _) d⟩)
    have HI2 := Lib.hid (fun (W : World) (hW : Below w8.heap.size w8 W) => show Calls Tryz.prog 22 #[.slice A7 Gb.length c7, .slice A8 Gb.length c8] W fun e w' => e = .returned (.bool true) ∧ Below W.heap.size W w' from by
      have := ints_any18 W A7 Gb.length c7 A8 Gb.length c8 Gb Gb rfl rfl (by have := HLL.out; omega) (HK78.out.below hW (Nat.le_refl _)) (HK8.out.below hW (Nat.le_refl _))
      rw [decide_eq_true rfl] at this
      exact this.mono fun e w' ⟨h1, d, h2⟩ => ⟨h1, by rw [h2]; exact below_drewN (Below.refl _ _) d⟩)
    have HN1 := Lib.hid (fun (W : World) => gen_gen_nil W T n c most none 0 0)
    have HN2 := Lib.hid (fun (W : World) => gen_greedy_nil W T n c most)
    have HN3 := Lib.hid (fun (W : World) => gen_check_nil W none 0 0 most)
    clear HK58 HK68 HK78 HK8 HG1 HR1 HR2
    go_wp2_with (first | (go_at_call 22; refine HI1.out.mono ?_; rintro e w9 ⟨rfl, b9⟩; have HB9 := Lib.hid b9; clear b9 HI1) | (go_at_call 22; refine (HI2.out _ HB9.out).mono ?_; rintro e wa ⟨rfl, ba⟩; have HBA := Lib.hid (HB8.out.trans ((HB9.out.trans (ba.mono HB9.out.size)).mono HB8.out.size)); have HHA := Lib.hid (Rf.stays (Rf.stays HH8.out HB9.out) ba); clear ba) | (go_at_call 23; refine (HG2.out _ b HBA.out HHA.out).2.mono ?_; rintro e wb ⟨rfl, bb⟩; have HBB := Lib.hid (HBA.out.trans (bb.mono HBA.out.size)); clear bb))
    refine (HN1.out _).mono ?_
    rintro e wc ⟨rfl, bc⟩
    have HBC := Lib.hid (HBB.out.trans (bc.mono HBB.out.size))
    clear bc
    go_wp2_with (fail)
    refine (HN2.out _).mono ?_
    rintro e wd ⟨rfl, bd⟩
    have HBD := Lib.hid (HBC.out.trans (bd.mono HBC.out.size))
    clear bd
    go_wp2_with (first | (go_at_call 23; refine (HN3.out _).mono ?_; rintro e we ⟨rfl, be⟩; have HBE := Lib.hid (HBD.out.trans (be.mono HBD.out.size)); clear be))
    exact bodyPost_ret (results_tmp rfl _ _ _) rfl ⟨rfl, HBE.out⟩
end genExact
end Go.Proofs.YtkdkeokldcehhaaGreatDoor
