/-
  What layer 17's statements ask first: some answers by number. Condition: the tables lie where they are looked up.
  What layer 17's statements stand on: whether a model is small, the tables, and a row of entries that a law gathers. No conditions but those of each lemma.
-/
import Derived.Test.YtkdkeokldcehhaaGreatDoorMg21
import Derived.Test.YtkdkeokldcehhaaGreatDoorMg18
import Derived.Test.YtkdkeokldcehhaaGreatDoorMg32
import Derived.Test.YtkdkeokldcehhaaGreatDoorMg6
import Derived.Test.YtkdkeokldcehhaaGreatDoorMg14
import Derived.Test.YtkdkeokldcehhaaGreatDoorMg31
set_option maxRecDepth 100000
namespace Go.Proofs.YtkdkeokldcehhaaGreatDoor
open Go.ChangeShapes Go.WideShapes Go.ChangeAt Go.RowKit Cf Vc Br Nr Sf Ac Sp

section
variable (w : World) (A : Option Addr) (n c : Nat) (Q : List (Er × Ent)) (tok : Int)
theorem step_step_not (b : Nat) (x : Cfg) (s : ByteArray) (h : w.heap[b]? = some (brO x s)) (hk : Ok x s) (hQ : Q.length = n) (hn : n ≤ 1000000) (hA : EsIn w A Q) (he : errZ x (past Q) tok ≠ 0) :
    Calls Tryz.prog 14 #[.pointer (some ⟨b, 0, none⟩), .slice A n c, .int .i64 tok] w fun e w' => e = .returned (.tuple #[.agg #[.slice none 0 0, .slice none 0 0], .slice none 0 0, .int .i64 (errZ x (past Q) tok)]) ∧ Below w.heap.size w w' :=
  step_step_by w A n c tok _ _ he fun W T hT hW => by
    have := step_run_not W A n c Q T 1 1 [tok] b x s (Br.stays h hW) hk hQ hn (hA.below hW) rfl (by omega) hT (by rw [errR_one]; exact he)
    rw [errR_one] at this
    exact this
theorem step_step_nil : Calls Tryz.prog 14 #[.pointer none, .slice A n c, .int .i64 tok] w fun e w' => e = .returned (.tuple #[.agg #[.slice none 0 0, .slice none 0 0], .slice none 0 0, .int .i64 2]) ∧ Below w.heap.size w w' :=
  step_step_by w A n c tok none 2 (by decide) fun W T _ _ => step_run_nil W A n c T 1 1
end
namespace Sp
def ex17 : Cfg := ⟨3, 2, 1, 1, 1, 2⟩
def zs38 : ByteArray := textD (List.replicate 38 0)
theorem ex17_good : goodZ ex17 = true := by decide +kernel
theorem ex17_ok : Ok ex17 zs38 := ⟨good_iff.1 ex17_good, by decide +kernel⟩
theorem ex17_sco : scoZ ex17 zs38 [] 1 = [0, 0, 0] := by decide +kernel
theorem ex17_v : vN ex17 = 3 := rfl
/-- Two of the same entry, made now. -/
theorem twoEs {w : World} {r : Er} {e : Ent} (h : EOn (fun _ => True) w r e) (b : Nat) (hb : w.heap.size = b) : EsIn (w.alloc (.cells #[.slice r.kA e.ks.length r.kc, .slice r.vA e.vs.length r.vc, .slice r.kA e.ks.length r.kc, .slice r.vA e.vs.length r.vc] 29)) (some ⟨b, 0, none⟩) [(r, e), (r, e)] := by
  subst hb
  refine ⟨fun _ => ⟨_, 0, rfl, fun j u hj => ?_⟩, fun q hq => ?_⟩
  · rw [cell_of_row _ _ _ _ _ _ (heap_alloc_new w _), Nat.zero_add]
    match j with
    | 0 => exact hj
    | 1 => exact hj
    | 2 => exact hj
    | 3 => exact hj
    | n + 4 => simp [eCs, eC] at hj
  · have e1 : q = (r, e) := by simpa using hq
    rw [e1]
    exact h.below ((Below.refl _ _).alloc (Nat.le_refl _) _)
theorem conv38 {W : World} {g : Nat} (h : W.rowIs g 5 38 (fun _ => .int .u8 0)) : (convert 59 9 (.slice (some ⟨g, 0, none⟩) 38 38)).run Tryz.prog W = .ok (.string zs38) W :=
  run_textD (D := List.replicate 38 0) (h.congr fun i hi => by
    rw [prt_all _ _ _ _ hi, List.getD_eq_getElem?_getD, List.getElem?_map, List.getElem?_replicate, if_pos hi]
    rfl) (by simp)
end Sp
set_option maxRecDepth 100000 in
set_option maxHeartbeats 6400000 in
theorem awake17 (w : World) (hp : POn w) (hg : GOn w) : Calls Tryz.prog 5 #[] w fun e w' => e = .returned (.bool true) ∧ Below w.heap.size w w' := by
  have HO := Lib.hid (fun W => show Calls Tryz.prog 7 #[.agg #[.int .i64 3, .int .i64 2, .int .i64 1, .int .i64 1, .int .i64 1, .int .i64 2], .string zs38] W fun e w' => ∃ b, e = .returned (.tuple #[.pointer (some ⟨b, 0, none⟩), .int .i64 0]) ∧ W.heap.size ≤ b ∧ w'.heap[b]? = some (brO ex17 zs38) ∧ Below W.heap.size W w' from brain_of W ex17 zs38 ex17_ok)
  have HS1 := Lib.hid (fun (W : World) (b : Nat) (h : W.heap[b]? = some (brO ex17 zs38)) (hW : Below w.heap.size w W) => show Calls Tryz.prog 14 #[.pointer (some ⟨b, 0, none⟩), .slice none 0 0, .int .i64 1] W fun e w' => ∃ (r : Er) (SA : Option Addr) (sc : Nat), e = .returned (.tuple #[.agg #[.slice r.kA (entZ ex17 zs38 [] 1).ks.length r.kc, .slice r.vA (entZ ex17 zs38 [] 1).vs.length r.vc], .slice SA 3 sc, .int .i64 0]) ∧ EOn (fun _ => True) w' r (entZ ex17 zs38 [] 1) ∧ KIn .i64 w' SA [0, 0, 0] ∧ Below W.heap.size W w' from
    (step_step W none 0 0 [] 1 b ex17 zs38 h ex17_ok rfl (by omega) (noEs W) (by decide +kernel) (hp.below hW (Nat.le_refl _)) (hg.below hW (Nat.le_refl _))).mono fun e w' ⟨r, SA, sc, h1, h2, h3, _, _, h5⟩ => ⟨r, SA, sc, h1, h2, by
      rw [← ex17_sco]
      exact h3, h5⟩)
  have HS2 := Lib.hid (fun (W : World) (b : Nat) (A : Option Addr) (r : Er) (h : W.heap[b]? = some (brO ex17 zs38)) (hA : EsIn W A [(r, entZ ex17 zs38 [] 1), (r, entZ ex17 zs38 [] 1)]) => show Calls Tryz.prog 14 #[.pointer (some ⟨b, 0, none⟩), .slice A 2 2, .int .i64 1] W fun e w' => e = .returned (.tuple #[.agg #[.slice none 0 0, .slice none 0 0], .slice none 0 0, .int .i64 12]) ∧ Below W.heap.size W w' from by
    have e : errZ ex17 (past [(r, entZ ex17 zs38 [] 1), (r, entZ ex17 zs38 [] 1)]) 1 = 12 := by
      have hg := entZ_good ex17 zs38 [] 1
      unfold errZ
      rw [if_pos (by simp [past, hg]), if_pos (by decide), if_neg (by simp [past, ex17])]
    have := step_step_not W A 2 2 [(r, entZ ex17 zs38 [] 1), (r, entZ ex17 zs38 [] 1)] 1 b ex17 zs38 h ex17_ok rfl (by omega) hA (by rw [e]; decide)
    rw [e] at this
    exact this)
  have HS3 := Lib.hid (fun (W : World) (b : Nat) (h : W.heap[b]? = some (brO ex17 zs38)) => show Calls Tryz.prog 14 #[.pointer (some ⟨b, 0, none⟩), .slice none 0 0, .int .i64 3] W fun e w' => e = .returned (.tuple #[.agg #[.slice none 0 0, .slice none 0 0], .slice none 0 0, .int .i64 3]) ∧ Below W.heap.size W w' from by
    have e : errZ ex17 (past []) 3 = 3 := by decide +kernel
    have := step_step_not W none 0 0 [] 3 b ex17 zs38 h ex17_ok rfl (by omega) (noEs W) (by rw [e]; decide)
    rw [e] at this
    exact this)
  have HGD := Lib.hid (fun (W : World) (b : Nat) (r : Er) (h : W.heap[b]? = some (brO ex17 zs38)) (hE : EOn (fun _ => True) W r (entZ ex17 zs38 [] 1)) => show Calls Tryz.prog 10 #[.pointer (some ⟨b, 0, none⟩), .agg #[.slice r.kA (entZ ex17 zs38 [] 1).ks.length r.kc, .slice r.vA (entZ ex17 zs38 [] 1).vs.length r.vc]] W fun e w' => e = .returned (.bool true) ∧ Below W.heap.size W w' from by
    have := step_good W b ex17 zs38 h ex17_ok r _ hE
    rw [entZ_good] at this
    exact this)
  have HTW := Lib.hid (fun (W : World) (r : Er) (h : EOn (fun _ => True) W r (entZ ex17 zs38 [] 1)) => twoEs h W.heap.size rfl)
  generalize entZ ex17 zs38 [] 1 = E at *
  obtain ⟨i0, hi0, hz0, hz1, hz2⟩ := info_parts info_u8
  have hmk : ∀ W, (Instr.makeSlice 59 (.int .i64 38) (.int .i64 38)).run Tryz.prog W = .ok (.slice (some ⟨W.heap.size, 0, none⟩) 38 38) (W.alloc (.cells (madeCells #[.int .u8 0] 38) 5)) := fun W =>
    run_make_row 59 5 i0 (.int .u8 0) Tryz.underlying59 hi0 hz0 hz1 rfl .i64 .i64 38 (by rw [hz2]; omega) (by omega) W
  have hr1 := World.rowIs_made (w.alloc (.cells #[.int .i64 3, .int .i64 2, .int .i64 1, .int .i64 1, .int .i64 1, .int .i64 2] 23)) (.int .u8 0) 38 5
  rw [World.size_alloc] at hr1
  have hcv : (convert 59 9 (.slice (some ⟨w.heap.size + 1, 0, none⟩) 38 38)).run Tryz.prog ((w.alloc (.cells #[.int .i64 3, .int .i64 2, .int .i64 1, .int .i64 1, .int .i64 1, .int .i64 2] 23)).alloc (.cells (madeCells #[.int .u8 0] 38) 5)).drew = .ok (.string zs38) ((w.alloc (.cells #[.int .i64 3, .int .i64 2, .int .i64 1, .int .i64 1, .int .i64 1, .int .i64 2] 23)).alloc (.cells (madeCells #[.int .u8 0] 38) 5)).drew := conv38 (W := ((w.alloc (.cells #[.int .i64 3, .int .i64 2, .int .i64 1, .int .i64 1, .int .i64 1, .int .i64 2] 23)).alloc (.cells (madeCells #[.int .u8 0] 38) 5)).drew) hr1.drew
  have HBA := Lib.hid (show Below w.heap.size w ((w.alloc (.cells #[.int .i64 3, .int .i64 2, .int .i64 1, .int .i64 1, .int .i64 1, .int .i64 2] 23)).alloc (.cells (madeCells #[.int .u8 0] 38) 5)).drew from below_drewN (((Below.refl _ _).alloc (Nat.le_refl _) _).alloc (by simp) _) 1)
  have HLT := Lib.hid (show w.heap.size < ((w.alloc (.cells #[.int .i64 3, .int .i64 2, .int .i64 1, .int .i64 1, .int .i64 1, .int .i64 2] 23)).alloc (.cells (madeCells #[.int .u8 0] 38) 5)).drew.heap.size from by show _ < ((w.alloc (.cells #[.int .i64 3, .int .i64 2, .int .i64 1, .int .i64 1, .int .i64 1, .int .i64 2] 23)).alloc (.cells (madeCells #[.int .u8 0] 38) 5)).heap.size; simp; omega)
  clear hr1
  have hb0 := (Below.refl w.heap.size w).alloc (Nat.le_refl _) (.cells #[.int .i64 3, .int .i64 2, .int .i64 1, .int .i64 1, .int .i64 1, .int .i64 2] 23)
  have HB0 := Lib.hid (below_drewN hb0 1)
  have HH0 := heap_alloc_new w (.cells #[.int .i64 3, .int .i64 2, .int .i64 1, .int .i64 1, .int .i64 1, .int .i64 2] 23)
  have HK := Lib.hid (fun (W : World) (h : W.heap[w.heap.size]? = some (.cells #[.int .i64 3, .int .i64 2, .int .i64 1, .int .i64 1, .int .i64 1, .int .i64 2] 23 (0, 0))) => show W.cell? ⟨w.heap.size, 0, none⟩ = some (.int .i64 3) ∧ W.cell? ⟨w.heap.size, 1, none⟩ = some (.int .i64 2) ∧ W.cell? ⟨w.heap.size, 2, none⟩ = some (.int .i64 1) ∧ W.cell? ⟨w.heap.size, 3, none⟩ = some (.int .i64 1) ∧ W.cell? ⟨w.heap.size, 4, none⟩ = some (.int .i64 1) ∧ W.cell? ⟨w.heap.size, 5, none⟩ = some (.int .i64 2) from
    ⟨by rw [cell_of_row _ _ _ _ _ _ h]; rfl, by rw [cell_of_row _ _ _ _ _ _ h]; rfl, by rw [cell_of_row _ _ _ _ _ _ h]; rfl, by rw [cell_of_row _ _ _ _ _ _ h]; rfl, by rw [cell_of_row _ _ _ _ _ _ h]; rfl, by rw [cell_of_row _ _ _ _ _ _ h]; rfl⟩)
  have k0 := HK.out (w.alloc (.cells #[.int .i64 3, .int .i64 2, .int .i64 1, .int .i64 1, .int .i64 1, .int .i64 2] 23)).drew HH0
  have HHA := Lib.hid (fun o => heap_alloc_old (w.alloc (.cells #[.int .i64 3, .int .i64 2, .int .i64 1, .int .i64 1, .int .i64 1, .int .i64 2] 23)) o (Array.getElem?_eq_some_iff.1 HH0).1 |>.trans HH0)
  have HHO := Lib.hid HH0
  clear hi0 hz0 hz1 hz2 hb0 HH0 hp hg
  go_enter Tryz.func5, Tryz.ntmps5
  go_wp2_with (fail)
  -- HAND
  refine wp_region_noPanic ?_
  refine wp_region_held_drew (S := (fun W : World => W.cell? ⟨w.heap.size, 0, none⟩ = some (.int .i64 3) ∧ W.cell? ⟨w.heap.size, 1, none⟩ = some (.int .i64 2) ∧ W.cell? ⟨w.heap.size, 2, none⟩ = some (.int .i64 1) ∧ W.cell? ⟨w.heap.size, 3, none⟩ = some (.int .i64 1) ∧ W.cell? ⟨w.heap.size, 4, none⟩ = some (.int .i64 1) ∧ W.cell? ⟨w.heap.size, 5, none⟩ = some (.int .i64 2))) (by kernel_rfl) k0 (fun hHeld => ?_)
  refine wpAnyH_takeAt (i := 0) (v := .agg #[.int .i64 3, .int .i64 2, .int .i64 1, .int .i64 1, .int .i64 1, .int .i64 2]) 18 rfl rfl (by kernel_rfl) (by kernel_rfl) (by kernel_rfl) (fun _ _ _ h => h) (Or.inl ⟨by rfl, ?_⟩) hHeld ?_
  · intro W hW
    try dsimp only at hW
    go_simp
  simp only [Act.put, List.setIfInBounds_toArray, List.set_cons_succ, List.set_cons_zero]
  refine wpAnyH_ready (rs := [1]) (by kernel_rfl) (by simp) ?_
  refine AllReadyH.cons rfl (fun K hK => ?_) AllReadyH.nil
  go_simp
  refine hK.out _ _ (HK.out _ (HHA.out _)) (fun hHeld2 => ?_)
  clear hK K hHeld
  have hHeld := hHeld2
  clear hHeld2
  try simp only [Act.put, List.setIfInBounds_toArray, List.set_cons_succ, List.set_cons_zero]
  refine wpAnyH_ready (rs := [2]) (by kernel_rfl) (by simp) ?_
  refine AllReadyH.cons rfl (fun K hK => ?_) AllReadyH.nil
  go_simp
  refine hK.out _ _ (HK.out _ (HHA.out _)) (fun hHeld2 => ?_)
  clear hK K hHeld
  have hHeld := hHeld2
  clear hHeld2
  try simp only [Act.put, List.setIfInBounds_toArray, List.set_cons_succ, List.set_cons_zero]
  refine wpAnyH_ready (rs := [3]) (by kernel_rfl) (by simp) ?_
  refine AllReadyH.cons rfl (fun K hK => ?_) AllReadyH.nil
  go_simp
  refine (HO.out _).mono ?_
  rintro e w1 ⟨b, rfl, hb, hh, b1⟩
  have HB1 := Lib.hid (HBA.out.trans (b1.mono HBA.out.size))
  have HH1 := Lib.hid hh
  have k1 := HK.out w1 ((b1.block _ HLT.out).trans (HHA.out _))
  clear b1 hb hh
  refine hK.out _ _ k1 (fun hHeld2 => ?_)
  clear hK K hHeld
  have hHeld := hHeld2
  clear hHeld2
  try simp only [Act.put, List.setIfInBounds_toArray, List.set_cons_succ, List.set_cons_zero]
  refine wpAnyH_takeAt (i := 4) (v := .tuple #[.pointer (some ⟨b, 0, none⟩), .int .i64 0]) 17 rfl rfl (by kernel_rfl) (by kernel_rfl) (by kernel_rfl) (fun _ _ _ h => h) (Or.inl ⟨by rfl, ?_⟩) hHeld ?_
  · intro W hW
    try dsimp only at hW
    go_simp
  simp only [Act.put, List.setIfInBounds_toArray, List.set_cons_succ, List.set_cons_zero]
  refine wpAnyH_takeAt (i := 5) (v := .pointer (some ⟨b, 0, none⟩)) 22 rfl rfl (by kernel_rfl) (by kernel_rfl) (by kernel_rfl) (fun _ _ _ h => h) (Or.inl ⟨by rfl, ?_⟩) hHeld ?_
  · intro W hW
    try dsimp only at hW
    go_simp
  simp only [Act.put, List.setIfInBounds_toArray, List.set_cons_succ, List.set_cons_zero]
  refine wpAnyH_takeAt (i := 6) (v := .int .i64 0) 23 rfl rfl (by kernel_rfl) (by kernel_rfl) (by kernel_rfl) (fun _ _ _ h => h) (Or.inl ⟨by rfl, ?_⟩) hHeld ?_
  · intro W hW
    try dsimp only at hW
    go_simp
  simp only [Act.put, List.setIfInBounds_toArray, List.set_cons_succ, List.set_cons_zero]
  refine wpAnyH_takeAt (i := 7) (v := .pointer (some ⟨b, 0, none⟩)) 2 rfl rfl (by kernel_rfl) (by kernel_rfl) (by kernel_rfl) (fun _ _ _ h => h) (Or.inl ⟨by rfl, ?_⟩) hHeld ?_
  · intro W hW
    try dsimp only at hW
    go_simp
  simp only [Act.put, List.setIfInBounds_toArray, List.set_cons_succ, List.set_cons_zero]
  refine wpAnyH_takeAt (i := 8) (v := .int .i64 0) 3 rfl rfl (by kernel_rfl) (by kernel_rfl) (by kernel_rfl) (fun _ _ _ h => h) (Or.inl ⟨by rfl, ?_⟩) hHeld ?_
  · intro W hW
    try dsimp only at hW
    go_simp
  simp only [Act.put, List.setIfInBounds_toArray, List.set_cons_succ, List.set_cons_zero]
  refine wpAnyH_done (by kernel_rfl) ?_ _
  refine NoPanic.normal ?_
  -- DNAH
  clear k0 k1 hcv hmk HK HHA HHO HBA HB0 HLT HO
  go_wp2_with (fail)
  refine (HS1.out _ _ HH1.out HB1.out).mono ?_
  rintro e w2 ⟨r, SA, sc, rfl, hE, hK, b2⟩
  generalize E.ks.length = n1 at *
  generalize E.vs.length = n2 at *
  have b3 := b2.alloc b2.size (.cells #[.slice r.kA n1 r.kc, .slice r.vA n2 r.vc] 29)
  have HN3 := Lib.hid (heap_alloc_new w2 (.cells #[.slice r.kA n1 r.kc, .slice r.vA n2 r.vc] 29))
  have HB3 := Lib.hid (HB1.out.trans (b3.mono HB1.out.size))
  have HH3 := Lib.hid (Br.stays HH1.out b3)
  have h23 := (Below.refl w2.heap.size w2).alloc (Nat.le_refl _) (.cells #[.slice r.kA n1 r.kc, .slice r.vA n2 r.vc] 29)
  have HE3 := Lib.hid (hE.below h23)
  have HK3 := Lib.hid (hK.below h23 (Nat.le_refl _))
  have HXC := Lib.hid (fun (W : World) (h : W.heap[w2.heap.size]? = some (.cells #[.slice r.kA n1 r.kc, .slice r.vA n2 r.vc] 29 (0, 0))) => show W.cell? ⟨w2.heap.size, 0, none⟩ = some (.slice r.kA n1 r.kc) ∧ W.cell? ⟨w2.heap.size, 1, none⟩ = some (.slice r.vA n2 r.vc) from ⟨by rw [cell_of_row _ _ _ _ _ _ h]; rfl, by rw [cell_of_row _ _ _ _ _ _ h]; rfl⟩)
  obtain ⟨c0, c1⟩ := HXC.out _ HN3.out
  have h4 := (Below.refl (w2.alloc (.cells #[.slice r.kA n1 r.kc, .slice r.vA n2 r.vc] 29)).heap.size (w2.alloc (.cells #[.slice r.kA n1 r.kc, .slice r.vA n2 r.vc] 29))).alloc (Nat.le_refl _) (.cells #[.slice r.kA n1 r.kc, .slice r.vA n2 r.vc, .slice r.kA n1 r.kc, .slice r.vA n2 r.vc] 29)
  have HB4 := Lib.hid (HB3.out.trans (h4.mono HB3.out.size))
  have HH4 := Lib.hid (Br.stays HH3.out h4)
  have HE4 := Lib.hid (HE3.out.below h4)
  have HK4 := Lib.hid (HK3.out.below h4 (Nat.le_refl _))
  have HN4 := Lib.hid ((h4.block _ (Array.getElem?_eq_some_iff.1 HN3.out).1).trans HN3.out)
  have HT4 := Lib.hid (HTW.out _ _ HE3.out)
  rw [World.size_alloc] at HT4
  clear b2 b3 hE hK h23 h4 HS1 HH1 HB1 HTW
  go_wp2_with (fail)
  refine (HS2.out _ _ _ _ HH4.out HT4.out).mono ?_
  rintro e w5 ⟨rfl, b5⟩
  have b6 := b5.alloc b5.size (.cells #[.slice none 0 0, .slice none 0 0] 29)
  have HB6 := Lib.hid (HB4.out.trans (b6.mono HB4.out.size))
  have HH6 := Lib.hid (Br.stays HH4.out b6)
  have HE6 := Lib.hid (HE4.out.below b6)
  have HK6 := Lib.hid (HK4.out.below b6 (Nat.le_refl _))
  have HN6 := Lib.hid ((b6.block _ (Array.getElem?_eq_some_iff.1 HN4.out).1).trans HN4.out)
  clear c0 c1 b5 b6 HS2 HT4 HB4 HH4 HE4 HK4 HN4 HB3 HH3 HE3 HK3 HN3
  go_wp2_with (fail)
  refine (HS3.out _ _ HH6.out).mono ?_
  rintro e w7 ⟨rfl, b7⟩
  have b8 := b7.alloc b7.size (.cells #[.slice none 0 0, .slice none 0 0] 29)
  have HB8 := Lib.hid (HB6.out.trans (b8.mono HB6.out.size))
  have HH8 := Lib.hid (Br.stays HH6.out b8)
  have HE8 := Lib.hid (HE6.out.below b8)
  have HK8 := Lib.hid (HK6.out.below b8 (Nat.le_refl _))
  have HN8 := Lib.hid ((b8.block _ (Array.getElem?_eq_some_iff.1 HN6.out).1).trans HN6.out)
  clear b7 b8 HS3 HB6 HH6 HE6 HK6 HN6
  go_wp2_with (fail)
  refine (step_step_nil _ none 0 0 0).mono ?_
  rintro e w9 ⟨rfl, b9⟩
  have bA := b9.alloc b9.size (.cells #[.slice none 0 0, .slice none 0 0] 29)
  have HBA := Lib.hid (HB8.out.trans (bA.mono HB8.out.size))
  have HHA := Lib.hid (Br.stays HH8.out bA)
  have HEA := Lib.hid (HE8.out.below bA)
  have HKA := Lib.hid (HK8.out.below bA (Nat.le_refl _))
  have HNA := Lib.hid ((bA.block _ (Array.getElem?_eq_some_iff.1 HN8.out).1).trans HN8.out)
  clear b9 bA HB8 HH8 HE8 HK8 HN8
  go_wp2_with (fail)
  refine (ints_any _ SA 3 sc _ 3 3 [0, 0, 0] [0, 0, 0] rfl rfl (by omega) (HKA.out.alloc _) (kin3 (w9.alloc (.cells #[.slice none 0 0, .slice none 0 0] 29)) (w9.heap.size + 1) 0 0 0 (by simp))).mono ?_
  rintro e wb ⟨rfl, q, rfl⟩
  have bB : Below (w9.alloc (.cells #[.slice none 0 0, .slice none 0 0] 29)).heap.size (w9.alloc (.cells #[.slice none 0 0, .slice none 0 0] 29)) (((w9.alloc (.cells #[.slice none 0 0, .slice none 0 0] 29)).alloc (.cells #[.int .i64 0, .int .i64 0, .int .i64 0] 3)).drewN q) := below_drewN ((Below.refl _ _).alloc (Nat.le_refl _) _) q
  have HBB := Lib.hid (HBA.out.trans (bB.mono HBA.out.size))
  have HHB := Lib.hid (Br.stays HHA.out bB)
  have HEB := Lib.hid (HEA.out.below bB)
  have HNB := Lib.hid ((bB.block _ (Array.getElem?_eq_some_iff.1 HNA.out).1).trans HNA.out)
  clear bB HBA HHA HEA HKA HNA
  generalize ((w9.alloc (.cells #[.slice none 0 0, .slice none 0 0] 29)).alloc (.cells #[.int .i64 0, .int .i64 0, .int .i64 0] 3)).drewN q = wc at HBB HHB HEB HNB ⊢
  obtain ⟨c0, c1⟩ := HXC.out _ HNB.out
  go_wp2_with (fail)
  refine (HGD.out _ _ _ HHB.out HEB.out).mono ?_
  rintro e wd ⟨rfl, bD⟩
  have HBD := Lib.hid (HBB.out.trans (bD.mono HBB.out.size))
  clear bD c0 c1
  go_wp2_with (fail)
  exact bodyPost_ret (results_tmp rfl _ _ _) rfl ⟨rfl, HBD.out⟩
end Go.Proofs.YtkdkeokldcehhaaGreatDoor
namespace Go.Proofs.YtkdkeokldcehhaaGreatDoor
open Go.ChangeShapes Go.WideShapes Go.ChangeAt Go.RowKit Cf Vc Br Nr Sf Ac Sp

namespace Sp
def smallZ (x : Cfg) : Bool := decide (x.d ≤ 6) && (decide (x.n ≤ 6) && (decide (x.b ≤ 2) && decide (x.v ≤ 8)))
end Sp
set_option maxRecDepth 100000 in
set_option maxHeartbeats 1600000 in
theorem small_any (x : Cfg) (w : World) : Calls Tryz.prog 6 #[cfV x] w fun e w' => e = .returned (.bool (smallZ x)) ∧ Below w.heap.size w w' := by
  have HB0 := Lib.hid ((Below.refl w.heap.size w).alloc (Nat.le_refl _) (cfO 23 x))
  have HH0 := heap_alloc_new w (cfO 23 x)
  obtain ⟨e0, e1, e2, e3, e4, e5⟩ := six HH0
  unfold cfO cfA at HB0 e0 e1 e2 e3 e4 e5
  have HV := Lib.hid (show smallZ x = (decide (x.d ≤ 6) && (decide (x.n ≤ 6) && (decide (x.b ≤ 2) && decide (x.v ≤ 8)))) from rfl)
  generalize smallZ x = r at HV ⊢
  unfold cfV cfA
  clear HH0
  by_cases h1 : x.d ≤ 6
  · have t1 : decide (x.d ≤ 6) = true := decide_eq_true h1
    by_cases h2 : x.n ≤ 6
    · have t2 : decide (x.n ≤ 6) = true := decide_eq_true h2
      by_cases h3 : x.b ≤ 2
      · have t3 : decide (x.b ≤ 2) = true := decide_eq_true h3
        by_cases h4 : x.v ≤ 8
        · have t4 : decide (x.v ≤ 8) = true := decide_eq_true h4
          have HW := Lib.hid (show r = true from by rw [HV.out, t1, t2, t3, t4]; rfl)
          go_enter Tryz.func6, Tryz.ntmps6
          go_wp2_with (fail)
          exact bodyPost_ret (results_tmp rfl _ _ _) rfl ⟨by rw [HW.out]; rfl, HB0.out⟩
        · have t4 : decide (x.v ≤ 8) = false := decide_eq_false h4
          have HW := Lib.hid (show r = false from by rw [HV.out, t1, t2, t3, t4]; rfl)
          go_enter Tryz.func6, Tryz.ntmps6
          go_wp2_with (fail)
          exact bodyPost_ret (results_tmp rfl _ _ _) rfl ⟨by rw [HW.out]; rfl, HB0.out⟩
      · have t3 : decide (x.b ≤ 2) = false := decide_eq_false h3
        have HW := Lib.hid (show r = false from by rw [HV.out, t1, t2, t3]; rfl)
        go_enter Tryz.func6, Tryz.ntmps6
        go_wp2_with (fail)
        exact bodyPost_ret (results_tmp rfl _ _ _) rfl ⟨by rw [HW.out]; rfl, HB0.out⟩
    · have t2 : decide (x.n ≤ 6) = false := decide_eq_false h2
      have HW := Lib.hid (show r = false from by rw [HV.out, t1, t2]; rfl)
      go_enter Tryz.func6, Tryz.ntmps6
      go_wp2_with (fail)
      exact bodyPost_ret (results_tmp rfl _ _ _) rfl ⟨by rw [HW.out]; rfl, HB0.out⟩
  · have t1 : decide (x.d ≤ 6) = false := decide_eq_false h1
    have HW := Lib.hid (show r = false from by rw [HV.out, t1]; rfl)
    go_enter Tryz.func6, Tryz.ntmps6
    go_wp2_with (fail)
    exact bodyPost_ret (results_tmp rfl _ _ _) rfl ⟨by rw [HW.out]; rfl, HB0.out⟩
end Go.Proofs.YtkdkeokldcehhaaGreatDoor
