/-
  What layer 17's statements ask first: some answers by number. Condition: the tables lie where they are looked up.
  What layer 17's statements stand on: whether a model is small, the tables, and a row of entries that a law gathers. No conditions but those of each lemma.
  What StepRuns needs of runs in parts, in plain words. No program's function here. No conditions but those of each lemma.
  Where the table of places lies in a model's weights. No program's function here. No conditions but those of each lemma.
  Numbers of 64 bits without sign, as a law cuts one to fewer than n. No program here. No conditions.
-/
import Derived.Test.YtijmjlognekcjaaDoorMg20
import Derived.Test.YtijmjlognekcjaaDoorMg24
import Derived.Test.YtijmjlognekcjaaDoorMg6
import Derived.Test.YtijmjlognekcjaaDoorMg12
import Derived.Test.YtijmjlognekcjaaDoorMg23
import Derived.Test.YtijmjlognekcjaaDoorMg17
import Derived.Test.YtijmjlognekcjaaDoorMg1
import Derived.IntWalk
set_option maxRecDepth 100000
namespace Go.Proofs.YtijmjlognekcjaaDoor
open Go.ChangeShapes Go.WideShapes Go.ChangeAt Go.RowKit Cf Vc Br Nr Sf Ac Sp

section
variable (w : World) (A : Option Addr) (n c : Nat) (Q : List (Er × Ent)) (tok : Int)
theorem step_step_not (b : Nat) (x : Cfg) (s : ByteArray) (h : w.heap[b]? = some (brO x s)) (hk : Ok x s) (hQ : Q.length = n) (hn : n ≤ 1000000) (hA : EsIn w A Q) (he : errZ x (past Q) tok ≠ 0) :
    Calls Tryd.prog 9 #[.pointer (some ⟨b, 0, none⟩), .slice A n c, .int .i64 tok] w fun e w' => e = .returned (.tuple #[.agg #[.slice none 0 0, .slice none 0 0], .slice none 0 0, .int .i64 (errZ x (past Q) tok)]) ∧ Below w.heap.size w w' :=
  step_step_by w A n c tok _ _ he fun W T hT hW => by
    have := step_run_not W A n c Q T 1 1 [tok] b x s (Br.stays h hW) hk hQ hn (hA.below hW) rfl (by omega) hT (by rw [errR_one]; exact he)
    rw [errR_one] at this
    exact this
theorem step_step_nil : Calls Tryd.prog 9 #[.pointer none, .slice A n c, .int .i64 tok] w fun e w' => e = .returned (.tuple #[.agg #[.slice none 0 0, .slice none 0 0], .slice none 0 0, .int .i64 2]) ∧ Below w.heap.size w w' :=
  step_step_by w A n c tok none 2 (by decide) fun W T _ _ => step_run_nil W A n c T 1 1
end
namespace Sp
def ex17 : Cfg := ⟨3, 2, 1, 1, 1, 2⟩
def zs38 : ByteArray := textD (List.replicate 38 0)
theorem ex17_good : goodZ ex17 = true := by decide +kernel
theorem ex17_ok : Ok ex17 zs38 := ⟨good_iff.1 ex17_good, by decide +kernel⟩
theorem ex17_sco : scoZ ex17 zs38 [] 1 = [0, 0, 0] := by decide +kernel
theorem ex17_v : vN ex17 = 3 := rfl
theorem noEs (w : World) : EsIn w none [] := ⟨fun h => absurd h (by simp), fun q hq => by cases hq⟩
/-- Two of the same entry, made now. -/
theorem twoEs {w : World} {r : Er} {e : Ent} (h : EOn (fun _ => True) w r e) (b : Nat) (hb : w.heap.size = b) : EsIn (w.alloc (.cells #[.slice r.kA e.ks.length r.kc, .slice r.vA e.vs.length r.vc, .slice r.kA e.ks.length r.kc, .slice r.vA e.vs.length r.vc] 36)) (some ⟨b, 0, none⟩) [(r, e), (r, e)] := by
  subst hb
  refine ⟨fun _ => ⟨_, 0, rfl, fun j u hj => ?_⟩, fun q hq => ?_⟩
  · rw [cell_of_row _ _ _ _ _ _ (heap_alloc_new w _), Nat.zero_add]
    match j with
    | 0 => exact hj
    | 1 => exact hj
    | 2 => exact hj
    | 3 => exact hj
    | n + 4 => simp [eCs, eC] at hj
  · have e1 : q = (r, e) := by simpa using hq
    rw [e1]
    exact h.below ((Below.refl _ _).alloc (Nat.le_refl _) _)
theorem conv38 {W : World} {g : Nat} (h : W.rowIs g 5 38 (fun _ => .int .u8 0)) : (convert 43 9 (.slice (some ⟨g, 0, none⟩) 38 38)).run Tryd.prog W = .ok (.string zs38) W :=
  run_textD (D := List.replicate 38 0) (h.congr fun i hi => by
    rw [prt_all _ _ _ _ hi, List.getD_eq_getElem?_getD, List.getElem?_map, List.getElem?_replicate, if_pos hi]
    rfl) (by simp)
end Sp
set_option maxRecDepth 100000 in
set_option maxHeartbeats 6400000 in
theorem awake17 (w : World) (hp : POn w) (hg : GOn w) : Calls Tryd.prog 5 #[] w fun e w' => e = .returned (.bool true) ∧ Below w.heap.size w w' := by
  have HO := Lib.hid (fun W => show Calls Tryd.prog 7 #[.agg #[.int .i64 3, .int .i64 2, .int .i64 1, .int .i64 1, .int .i64 1, .int .i64 2], .string zs38] W fun e w' => ∃ b, e = .returned (.tuple #[.pointer (some ⟨b, 0, none⟩), .int .i64 0]) ∧ W.heap.size ≤ b ∧ w'.heap[b]? = some (brO ex17 zs38) ∧ Below W.heap.size W w' from brain_of W ex17 zs38 ex17_ok)
  have HS1 := Lib.hid (fun (W : World) (b : Nat) (h : W.heap[b]? = some (brO ex17 zs38)) (hW : Below w.heap.size w W) => show Calls Tryd.prog 9 #[.pointer (some ⟨b, 0, none⟩), .slice none 0 0, .int .i64 1] W fun e w' => ∃ (r : Er) (SA : Option Addr) (sc : Nat), e = .returned (.tuple #[.agg #[.slice r.kA (entZ ex17 zs38 [] 1).ks.length r.kc, .slice r.vA (entZ ex17 zs38 [] 1).vs.length r.vc], .slice SA 3 sc, .int .i64 0]) ∧ EOn (fun _ => True) w' r (entZ ex17 zs38 [] 1) ∧ KIn .i64 w' SA [0, 0, 0] ∧ Below W.heap.size W w' from
    (step_step W none 0 0 [] 1 b ex17 zs38 h ex17_ok rfl (by omega) (noEs W) (by decide +kernel) (hp.below hW (Nat.le_refl _)) (hg.below hW (Nat.le_refl _))).mono fun e w' ⟨r, SA, sc, h1, h2, h3, _, _, h5⟩ => ⟨r, SA, sc, h1, h2, by
      rw [← ex17_sco]
      exact h3, h5⟩)
  have HS2 := Lib.hid (fun (W : World) (b : Nat) (A : Option Addr) (r : Er) (h : W.heap[b]? = some (brO ex17 zs38)) (hA : EsIn W A [(r, entZ ex17 zs38 [] 1), (r, entZ ex17 zs38 [] 1)]) => show Calls Tryd.prog 9 #[.pointer (some ⟨b, 0, none⟩), .slice A 2 2, .int .i64 1] W fun e w' => e = .returned (.tuple #[.agg #[.slice none 0 0, .slice none 0 0], .slice none 0 0, .int .i64 12]) ∧ Below W.heap.size W w' from by
    have e : errZ ex17 (past [(r, entZ ex17 zs38 [] 1), (r, entZ ex17 zs38 [] 1)]) 1 = 12 := by
      have hg := entZ_good ex17 zs38 [] 1
      unfold errZ
      rw [if_pos (by simp [past, hg]), if_pos (by decide), if_neg (by simp [past, ex17])]
    have := step_step_not W A 2 2 [(r, entZ ex17 zs38 [] 1), (r, entZ ex17 zs38 [] 1)] 1 b ex17 zs38 h ex17_ok rfl (by omega) hA (by rw [e]; decide)
    rw [e] at this
    exact this)
  have HS3 := Lib.hid (fun (W : World) (b : Nat) (h : W.heap[b]? = some (brO ex17 zs38)) => show Calls Tryd.prog 9 #[.pointer (some ⟨b, 0, none⟩), .slice none 0 0, .int .i64 3] W fun e w' => e = .returned (.tuple #[.agg #[.slice none 0 0, .slice none 0 0], .slice none 0 0, .int .i64 3]) ∧ Below W.heap.size W w' from by
    have e : errZ ex17 (past []) 3 = 3 := by decide +kernel
    have := step_step_not W none 0 0 [] 3 b ex17 zs38 h ex17_ok rfl (by omega) (noEs W) (by rw [e]; decide)
    rw [e] at this
    exact this)
  have HGD := Lib.hid (fun (W : World) (b : Nat) (r : Er) (h : W.heap[b]? = some (brO ex17 zs38)) (hE : EOn (fun _ => True) W r (entZ ex17 zs38 [] 1)) => show Calls Tryd.prog 12 #[.pointer (some ⟨b, 0, none⟩), .agg #[.slice r.kA (entZ ex17 zs38 [] 1).ks.length r.kc, .slice r.vA (entZ ex17 zs38 [] 1).vs.length r.vc]] W fun e w' => e = .returned (.bool true) ∧ Below W.heap.size W w' from by
    have := step_good W b ex17 zs38 h ex17_ok r _ hE
    rw [entZ_good] at this
    exact this)
  have HTW := Lib.hid (fun (W : World) (r : Er) (h : EOn (fun _ => True) W r (entZ ex17 zs38 [] 1)) => twoEs h W.heap.size rfl)
  generalize entZ ex17 zs38 [] 1 = E at *
  obtain ⟨i0, hi0, hz0, hz1, hz2⟩ := info_parts info_u8
  have hmk : ∀ W, (Instr.makeSlice 43 (.int .i64 38) (.int .i64 38)).run Tryd.prog W = .ok (.slice (some ⟨W.heap.size, 0, none⟩) 38 38) (W.alloc (.cells (madeCells #[.int .u8 0] 38) 5)) := fun W =>
    run_make_row 43 5 i0 (.int .u8 0) Tryd.underlying43 hi0 hz0 hz1 rfl .i64 .i64 38 (by rw [hz2]; omega) (by omega) W
  have hr1 := World.rowIs_made (w.alloc (.cells #[.int .i64 3, .int .i64 2, .int .i64 1, .int .i64 1, .int .i64 1, .int .i64 2] 23)) (.int .u8 0) 38 5
  rw [World.size_alloc] at hr1
  have hcv : (convert 43 9 (.slice (some ⟨w.heap.size + 1, 0, none⟩) 38 38)).run Tryd.prog ((w.alloc (.cells #[.int .i64 3, .int .i64 2, .int .i64 1, .int .i64 1, .int .i64 1, .int .i64 2] 23)).alloc (.cells (madeCells #[.int .u8 0] 38) 5)).drew = .ok (.string zs38) ((w.alloc (.cells #[.int .i64 3, .int .i64 2, .int .i64 1, .int .i64 1, .int .i64 1, .int .i64 2] 23)).alloc (.cells (madeCells #[.int .u8 0] 38) 5)).drew := conv38 (W := ((w.alloc (.cells #[.int .i64 3, .int .i64 2, .int .i64 1, .int .i64 1, .int .i64 1, .int .i64 2] 23)).alloc (.cells (madeCells #[.int .u8 0] 38) 5)).drew) hr1.drew
  have HBA := Lib.hid (show Below w.heap.size w ((w.alloc (.cells #[.int .i64 3, .int .i64 2, .int .i64 1, .int .i64 1, .int .i64 1, .int .i64 2] 23)).alloc (.cells (madeCells #[.int .u8 0] 38) 5)).drew from below_drewN (((Below.refl _ _).alloc (Nat.le_refl _) _).alloc (by simp) _) 1)
  have HLT := Lib.hid (show w.heap.size < ((w.alloc (.cells #[.int .i64 3, .int .i64 2, .int .i64 1, .int .i64 1, .int .i64 1, .int .i64 2] 23)).alloc (.cells (madeCells #[.int .u8 0] 38) 5)).drew.heap.size from by show _ < ((w.alloc (.cells #[.int .i64 3, .int .i64 2, .int .i64 1, .int .i64 1, .int .i64 1, .int .i64 2] 23)).alloc (.cells (madeCells #[.int .u8 0] 38) 5)).heap.size; simp; omega)
  clear hr1
  have hb0 := (Below.refl w.heap.size w).alloc (Nat.le_refl _) (.cells #[.int .i64 3, .int .i64 2, .int .i64 1, .int .i64 1, .int .i64 1, .int .i64 2] 23)
  have HB0 := Lib.hid (below_drewN hb0 1)
  have HH0 := heap_alloc_new w (.cells #[.int .i64 3, .int .i64 2, .int .i64 1, .int .i64 1, .int .i64 1, .int .i64 2] 23)
  have HK := Lib.hid (fun (W : World) (h : W.heap[w.heap.size]? = some (.cells #[.int .i64 3, .int .i64 2, .int .i64 1, .int .i64 1, .int .i64 1, .int .i64 2] 23 (0, 0))) => show W.cell? ⟨w.heap.size, 0, none⟩ = some (.int .i64 3) ∧ W.cell? ⟨w.heap.size, 1, none⟩ = some (.int .i64 2) ∧ W.cell? ⟨w.heap.size, 2, none⟩ = some (.int .i64 1) ∧ W.cell? ⟨w.heap.size, 3, none⟩ = some (.int .i64 1) ∧ W.cell? ⟨w.heap.size, 4, none⟩ = some (.int .i64 1) ∧ W.cell? ⟨w.heap.size, 5, none⟩ = some (.int .i64 2) from
    ⟨by rw [cell_of_row _ _ _ _ _ _ h]; rfl, by rw [cell_of_row _ _ _ _ _ _ h]; rfl, by rw [cell_of_row _ _ _ _ _ _ h]; rfl, by rw [cell_of_row _ _ _ _ _ _ h]; rfl, by rw [cell_of_row _ _ _ _ _ _ h]; rfl, by rw [cell_of_row _ _ _ _ _ _ h]; rfl⟩)
  have k0 := HK.out (w.alloc (.cells #[.int .i64 3, .int .i64 2, .int .i64 1, .int .i64 1, .int .i64 1, .int .i64 2] 23)).drew HH0
  have HHA := Lib.hid (fun o => heap_alloc_old (w.alloc (.cells #[.int .i64 3, .int .i64 2, .int .i64 1, .int .i64 1, .int .i64 1, .int .i64 2] 23)) o (Array.getElem?_eq_some_iff.1 HH0).1 |>.trans HH0)
  have HHO := Lib.hid HH0
  clear hi0 hz0 hz1 hz2 hb0 HH0 hp hg
  go_enter Tryd.func5, Tryd.ntmps5
  go_wp2_with (fail)
  -- HAND
  refine wp_region_noPanic ?_
  refine wp_region_held_drew (S := (fun W : World => W.cell? ⟨w.heap.size, 0, none⟩ = some (.int .i64 3) ∧ W.cell? ⟨w.heap.size, 1, none⟩ = some (.int .i64 2) ∧ W.cell? ⟨w.heap.size, 2, none⟩ = some (.int .i64 1) ∧ W.cell? ⟨w.heap.size, 3, none⟩ = some (.int .i64 1) ∧ W.cell? ⟨w.heap.size, 4, none⟩ = some (.int .i64 1) ∧ W.cell? ⟨w.heap.size, 5, none⟩ = some (.int .i64 2))) (by kernel_rfl) k0 (fun hHeld => ?_)
  refine wpAnyH_takeAt (i := 0) (v := .agg #[.int .i64 3, .int .i64 2, .int .i64 1, .int .i64 1, .int .i64 1, .int .i64 2]) 18 rfl rfl (by kernel_rfl) (by kernel_rfl) (by kernel_rfl) (fun _ _ _ h => h) (Or.inl ⟨by rfl, ?_⟩) hHeld ?_
  · intro W hW
    try dsimp only at hW
    go_simp
  simp only [Act.put, List.setIfInBounds_toArray, List.set_cons_succ, List.set_cons_zero]
  refine wpAnyH_ready (rs := [1]) (by kernel_rfl) (by simp) ?_
  refine AllReadyH.cons rfl (fun K hK => ?_) AllReadyH.nil
  go_simp
  refine hK.out _ _ (HK.out _ (HHA.out _)) (fun hHeld2 => ?_)
  clear hK K hHeld
  have hHeld := hHeld2
  clear hHeld2
  try simp only [Act.put, List.setIfInBounds_toArray, List.set_cons_succ, List.set_cons_zero]
  refine wpAnyH_ready (rs := [2]) (by kernel_rfl) (by simp) ?_
  refine AllReadyH.cons rfl (fun K hK => ?_) AllReadyH.nil
  go_simp
  refine hK.out _ _ (HK.out _ (HHA.out _)) (fun hHeld2 => ?_)
  clear hK K hHeld
  have hHeld := hHeld2
  clear hHeld2
  try simp only [Act.put, List.setIfInBounds_toArray, List.set_cons_succ, List.set_cons_zero]
  refine wpAnyH_ready (rs := [3]) (by kernel_rfl) (by simp) ?_
  refine AllReadyH.cons rfl (fun K hK => ?_) AllReadyH.nil
  go_simp
  refine (HO.out _).mono ?_
  rintro e w1 ⟨b, rfl, hb, hh, b1⟩
  have HB1 := Lib.hid (HBA.out.trans (b1.mono HBA.out.size))
  have HH1 := Lib.hid hh
  have k1 := HK.out w1 ((b1.block _ HLT.out).trans (HHA.out _))
  clear b1 hb hh
  refine hK.out _ _ k1 (fun hHeld2 => ?_)
  clear hK K hHeld
  have hHeld := hHeld2
  clear hHeld2
  try simp only [Act.put, List.setIfInBounds_toArray, List.set_cons_succ, List.set_cons_zero]
  refine wpAnyH_takeAt (i := 4) (v := .tuple #[.pointer (some ⟨b, 0, none⟩), .int .i64 0]) 17 rfl rfl (by kernel_rfl) (by kernel_rfl) (by kernel_rfl) (fun _ _ _ h => h) (Or.inl ⟨by rfl, ?_⟩) hHeld ?_
  · intro W hW
    try dsimp only at hW
    go_simp
  simp only [Act.put, List.setIfInBounds_toArray, List.set_cons_succ, List.set_cons_zero]
  refine wpAnyH_takeAt (i := 5) (v := .pointer (some ⟨b, 0, none⟩)) 22 rfl rfl (by kernel_rfl) (by kernel_rfl) (by kernel_rfl) (fun _ _ _ h => h) (Or.inl ⟨by rfl, ?_⟩) hHeld ?_
  · intro W hW
    try dsimp only at hW
    go_simp
  simp only [Act.put, List.setIfInBounds_toArray, List.set_cons_succ, List.set_cons_zero]
  refine wpAnyH_takeAt (i := 6) (v := .int .i64 0) 23 rfl rfl (by kernel_rfl) (by kernel_rfl) (by kernel_rfl) (fun _ _ _ h => h) (Or.inl ⟨by rfl, ?_⟩) hHeld ?_
  · intro W hW
    try dsimp only at hW
    go_simp
  simp only [Act.put, List.setIfInBounds_toArray, List.set_cons_succ, List.set_cons_zero]
  refine wpAnyH_takeAt (i := 7) (v := .pointer (some ⟨b, 0, none⟩)) 2 rfl rfl (by kernel_rfl) (by kernel_rfl) (by kernel_rfl) (fun _ _ _ h => h) (Or.inl ⟨by rfl, ?_⟩) hHeld ?_
  · intro W hW
    try dsimp only at hW
    go_simp
  simp only [Act.put, List.setIfInBounds_toArray, List.set_cons_succ, List.set_cons_zero]
  refine wpAnyH_takeAt (i := 8) (v := .int .i64 0) 3 rfl rfl (by kernel_rfl) (by kernel_rfl) (by kernel_rfl) (fun _ _ _ h => h) (Or.inl ⟨by rfl, ?_⟩) hHeld ?_
  · intro W hW
    try dsimp only at hW
    go_simp
  simp only [Act.put, List.setIfInBounds_toArray, List.set_cons_succ, List.set_cons_zero]
  refine wpAnyH_done (by kernel_rfl) ?_ _
  refine NoPanic.normal ?_
  -- DNAH
  clear k0 k1 hcv hmk HK HHA HHO HBA HB0 HLT HO
  go_wp2_with (fail)
  refine (HS1.out _ _ HH1.out HB1.out).mono ?_
  rintro e w2 ⟨r, SA, sc, rfl, hE, hK, b2⟩
  generalize E.ks.length = n1 at *
  generalize E.vs.length = n2 at *
  have b3 := b2.alloc b2.size (.cells #[.slice r.kA n1 r.kc, .slice r.vA n2 r.vc] 36)
  have HN3 := Lib.hid (heap_alloc_new w2 (.cells #[.slice r.kA n1 r.kc, .slice r.vA n2 r.vc] 36))
  have HB3 := Lib.hid (HB1.out.trans (b3.mono HB1.out.size))
  have HH3 := Lib.hid (Br.stays HH1.out b3)
  have h23 := (Below.refl w2.heap.size w2).alloc (Nat.le_refl _) (.cells #[.slice r.kA n1 r.kc, .slice r.vA n2 r.vc] 36)
  have HE3 := Lib.hid (hE.below h23)
  have HK3 := Lib.hid (hK.below h23 (Nat.le_refl _))
  have HXC := Lib.hid (fun (W : World) (h : W.heap[w2.heap.size]? = some (.cells #[.slice r.kA n1 r.kc, .slice r.vA n2 r.vc] 36 (0, 0))) => show W.cell? ⟨w2.heap.size, 0, none⟩ = some (.slice r.kA n1 r.kc) ∧ W.cell? ⟨w2.heap.size, 1, none⟩ = some (.slice r.vA n2 r.vc) from ⟨by rw [cell_of_row _ _ _ _ _ _ h]; rfl, by rw [cell_of_row _ _ _ _ _ _ h]; rfl⟩)
  obtain ⟨c0, c1⟩ := HXC.out _ HN3.out
  have h4 := (Below.refl (w2.alloc (.cells #[.slice r.kA n1 r.kc, .slice r.vA n2 r.vc] 36)).heap.size (w2.alloc (.cells #[.slice r.kA n1 r.kc, .slice r.vA n2 r.vc] 36))).alloc (Nat.le_refl _) (.cells #[.slice r.kA n1 r.kc, .slice r.vA n2 r.vc, .slice r.kA n1 r.kc, .slice r.vA n2 r.vc] 36)
  have HB4 := Lib.hid (HB3.out.trans (h4.mono HB3.out.size))
  have HH4 := Lib.hid (Br.stays HH3.out h4)
  have HE4 := Lib.hid (HE3.out.below h4)
  have HK4 := Lib.hid (HK3.out.below h4 (Nat.le_refl _))
  have HN4 := Lib.hid ((h4.block _ (Array.getElem?_eq_some_iff.1 HN3.out).1).trans HN3.out)
  have HT4 := Lib.hid (HTW.out _ _ HE3.out)
  rw [World.size_alloc] at HT4
  clear b2 b3 hE hK h23 h4 HS1 HH1 HB1 HTW
  go_wp2_with (fail)
  refine (HS2.out _ _ _ _ HH4.out HT4.out).mono ?_
  rintro e w5 ⟨rfl, b5⟩
  have b6 := b5.alloc b5.size (.cells #[.slice none 0 0, .slice none 0 0] 36)
  have HB6 := Lib.hid (HB4.out.trans (b6.mono HB4.out.size))
  have HH6 := Lib.hid (Br.stays HH4.out b6)
  have HE6 := Lib.hid (HE4.out.below b6)
  have HK6 := Lib.hid (HK4.out.below b6 (Nat.le_refl _))
  have HN6 := Lib.hid ((b6.block _ (Array.getElem?_eq_some_iff.1 HN4.out).1).trans HN4.out)
  clear c0 c1 b5 b6 HS2 HT4 HB4 HH4 HE4 HK4 HN4 HB3 HH3 HE3 HK3 HN3
  go_wp2_with (fail)
  refine (HS3.out _ _ HH6.out).mono ?_
  rintro e w7 ⟨rfl, b7⟩
  have b8 := b7.alloc b7.size (.cells #[.slice none 0 0, .slice none 0 0] 36)
  have HB8 := Lib.hid (HB6.out.trans (b8.mono HB6.out.size))
  have HH8 := Lib.hid (Br.stays HH6.out b8)
  have HE8 := Lib.hid (HE6.out.below b8)
  have HK8 := Lib.hid (HK6.out.below b8 (Nat.le_refl _))
  have HN8 := Lib.hid ((b8.block _ (Array.getElem?_eq_some_iff.1 HN6.out).1).trans HN6.out)
  clear b7 b8 HS3 HB6 HH6 HE6 HK6 HN6
  go_wp2_with (fail)
  refine (step_step_nil _ none 0 0 0).mono ?_
  rintro e w9 ⟨rfl, b9⟩
  have bA := b9.alloc b9.size (.cells #[.slice none 0 0, .slice none 0 0] 36)
  have HBA := Lib.hid (HB8.out.trans (bA.mono HB8.out.size))
  have HHA := Lib.hid (Br.stays HH8.out bA)
  have HEA := Lib.hid (HE8.out.below bA)
  have HKA := Lib.hid (HK8.out.below bA (Nat.le_refl _))
  have HNA := Lib.hid ((bA.block _ (Array.getElem?_eq_some_iff.1 HN8.out).1).trans HN8.out)
  clear b9 bA HB8 HH8 HE8 HK8 HN8
  go_wp2_with (fail)
  refine (ints_any _ SA 3 sc _ 3 3 [0, 0, 0] [0, 0, 0] rfl rfl (by omega) (HKA.out.alloc _) (kin3 (w9.alloc (.cells #[.slice none 0 0, .slice none 0 0] 36)) (w9.heap.size + 1) 0 0 0 (by simp))).mono ?_
  rintro e wb ⟨rfl, q, rfl⟩
  have bB : Below (w9.alloc (.cells #[.slice none 0 0, .slice none 0 0] 36)).heap.size (w9.alloc (.cells #[.slice none 0 0, .slice none 0 0] 36)) (((w9.alloc (.cells #[.slice none 0 0, .slice none 0 0] 36)).alloc (.cells #[.int .i64 0, .int .i64 0, .int .i64 0] 3)).drewN q) := below_drewN ((Below.refl _ _).alloc (Nat.le_refl _) _) q
  have HBB := Lib.hid (HBA.out.trans (bB.mono HBA.out.size))
  have HHB := Lib.hid (Br.stays HHA.out bB)
  have HEB := Lib.hid (HEA.out.below bB)
  have HNB := Lib.hid ((bB.block _ (Array.getElem?_eq_some_iff.1 HNA.out).1).trans HNA.out)
  clear bB HBA HHA HEA HKA HNA
  generalize ((w9.alloc (.cells #[.slice none 0 0, .slice none 0 0] 36)).alloc (.cells #[.int .i64 0, .int .i64 0, .int .i64 0] 3)).drewN q = wc at HBB HHB HEB HNB ⊢
  obtain ⟨c0, c1⟩ := HXC.out _ HNB.out
  go_wp2_with (fail)
  refine (HGD.out _ _ _ HHB.out HEB.out).mono ?_
  rintro e wd ⟨rfl, bD⟩
  have HBD := Lib.hid (HBB.out.trans (bD.mono HBB.out.size))
  clear bD c0 c1
  go_wp2_with (fail)
  exact bodyPost_ret (results_tmp rfl _ _ _) rfl ⟨rfl, HBD.out⟩
end Go.Proofs.YtijmjlognekcjaaDoor
namespace Go.Proofs.YtijmjlognekcjaaDoor
open Go.ChangeShapes Go.WideShapes Go.ChangeAt Go.RowKit Cf Vc Br Nr Sf Ac Sp

namespace Sp
def smallZ (x : Cfg) : Bool := decide (x.d ≤ 6) && (decide (x.n ≤ 6) && (decide (x.b ≤ 2) && decide (x.v ≤ 8)))
end Sp
set_option maxRecDepth 100000 in
set_option maxHeartbeats 1600000 in
theorem small_any (x : Cfg) (w : World) : Calls Tryd.prog 6 #[cfV x] w fun e w' => e = .returned (.bool (smallZ x)) ∧ Below w.heap.size w w' := by
  have HB0 := Lib.hid ((Below.refl w.heap.size w).alloc (Nat.le_refl _) (cfO 23 x))
  have HH0 := heap_alloc_new w (cfO 23 x)
  obtain ⟨e0, e1, e2, e3, e4, e5⟩ := six HH0
  unfold cfO cfA at HB0 e0 e1 e2 e3 e4 e5
  have HV := Lib.hid (show smallZ x = (decide (x.d ≤ 6) && (decide (x.n ≤ 6) && (decide (x.b ≤ 2) && decide (x.v ≤ 8)))) from rfl)
  generalize smallZ x = r at HV ⊢
  unfold cfV cfA
  clear HH0
  by_cases h1 : x.d ≤ 6
  · have t1 : decide (x.d ≤ 6) = true := decide_eq_true h1
    by_cases h2 : x.n ≤ 6
    · have t2 : decide (x.n ≤ 6) = true := decide_eq_true h2
      by_cases h3 : x.b ≤ 2
      · have t3 : decide (x.b ≤ 2) = true := decide_eq_true h3
        by_cases h4 : x.v ≤ 8
        · have t4 : decide (x.v ≤ 8) = true := decide_eq_true h4
          have HW := Lib.hid (show r = true from by rw [HV.out, t1, t2, t3, t4]; rfl)
          go_enter Tryd.func6, Tryd.ntmps6
          go_wp2_with (fail)
          exact bodyPost_ret (results_tmp rfl _ _ _) rfl ⟨by rw [HW.out]; rfl, HB0.out⟩
        · have t4 : decide (x.v ≤ 8) = false := decide_eq_false h4
          have HW := Lib.hid (show r = false from by rw [HV.out, t1, t2, t3, t4]; rfl)
          go_enter Tryd.func6, Tryd.ntmps6
          go_wp2_with (fail)
          exact bodyPost_ret (results_tmp rfl _ _ _) rfl ⟨by rw [HW.out]; rfl, HB0.out⟩
      · have t3 : decide (x.b ≤ 2) = false := decide_eq_false h3
        have HW := Lib.hid (show r = false from by rw [HV.out, t1, t2, t3]; rfl)
        go_enter Tryd.func6, Tryd.ntmps6
        go_wp2_with (fail)
        exact bodyPost_ret (results_tmp rfl _ _ _) rfl ⟨by rw [HW.out]; rfl, HB0.out⟩
    · have t2 : decide (x.n ≤ 6) = false := decide_eq_false h2
      have HW := Lib.hid (show r = false from by rw [HV.out, t1, t2]; rfl)
      go_enter Tryd.func6, Tryd.ntmps6
      go_wp2_with (fail)
      exact bodyPost_ret (results_tmp rfl _ _ _) rfl ⟨by rw [HW.out]; rfl, HB0.out⟩
  · have t1 : decide (x.d ≤ 6) = false := decide_eq_false h1
    have HW := Lib.hid (show r = false from by rw [HV.out, t1]; rfl)
    go_enter Tryd.func6, Tryd.ntmps6
    go_wp2_with (fail)
    exact bodyPost_ret (results_tmp rfl _ _ _) rfl ⟨by rw [HW.out]; rfl, HB0.out⟩
namespace Sp
/-- Entries that a law gathers: in a row of its own, their rows elsewhere. -/
structure Gath (B : Nat) (w : World) (v : Value) (R : List (Er × Ent)) : Prop where
  own : w.ownsRow B 36 2 v R.length (eCs R)
  all : ∀ q ∈ R, EOn (fun j => v.ownBlock ≠ some j) w q.1 q.2
theorem Gath.slice {B : Nat} {w : World} {v : Value} {R : List (Er × Ent)} (h : Gath B w v R) : ∃ A c, v = .slice A R.length c := by
  rcases h.own.2 with ⟨e, h0⟩ | ⟨g, cap, cur, e, _⟩
  · exact ⟨none, 0, by rw [e, h0]⟩
  · exact ⟨_, _, e⟩
theorem Gath.es {B : Nat} {w : World} {A : Option Addr} {n c : Nat} {R : List (Er × Ent)} (h : Gath B w (.slice A n c) R) : EsIn w A R := by
  refine ⟨fun h0 => ?_, fun q hq => (h.all q hq).mono fun _ _ => trivial⟩
  rcases h.own.2 with ⟨_, h1⟩ | ⟨g, cap, cur, e, _, hb, _, _, _, ht⟩
  · omega
  · injection e with e1 e2 e3
    subst e1
    refine ⟨g, 0, rfl, fun j u hj => ?_⟩
    rw [cell_of_row w g _ _ _ _ hb, Nat.zero_add]
    rw [← ht] at hj
    have hj2 : j < (cur.toList.take (R.length * 2)).length := (List.getElem?_eq_some_iff.1 hj).1
    rw [List.getElem?_take_of_lt (by rw [List.length_take] at hj2; omega)] at hj
    rw [← Array.getElem?_toList]
    exact hj
theorem Gath.step {B : Nat} {w w' : World} {v : Value} {R : List (Er × Ent)} (h : Gath B w v R) (hb : Below w.heap.size w w') : Gath B w' v R :=
  ⟨own_moved h.own fun k hk => hb.block k (h.own.lt k hk).2, fun q hq => (h.all q hq).below hb⟩
theorem Gath.more {B M : Nat} {w wz : World} {v : Value} {R : List (Er × Ent)} {r : Er} {e : Ent} {g cap : Nat} (h : Gath B w v R) (he : EOn (fun _ => True) w r e) (hf : Fr M r e) (hM : ∀ k, v.ownBlock = some k → k < M)
    (hown : wz.ownsRow B 36 2 (.slice (some ⟨g, 0, none⟩) (R.length + 1) cap) (R.length + 1) (eCs R ++ eC r e)) (hgrow : w.grownBy wz v.ownBlock) (hat : v.ownBlock = some g ∨ g = w.heap.size) :
    Gath B wz (.slice (some ⟨g, 0, none⟩) (R.length + 1) cap) (R ++ [(r, e)]) := by
  have hs : ∀ j, j < w.heap.size → v.ownBlock ≠ some j → wz.heap[j]? = w.heap[j]? := fun j hj hne => hgrow.block j hj fun e => hne e.symm
  have hg : ∀ j, j < w.heap.size ∧ v.ownBlock ≠ some j → (Value.slice (some ⟨g, 0, none⟩) (R.length + 1) cap).ownBlock ≠ some j := fun j hj e => by
    have e' : g = j := Option.some.inj e
    rcases hat with hat | hat
    · exact hj.2 (by rw [hat, e'])
    · omega
  have hm : ∀ q ∈ R ++ [(r, e)], EOn (fun j => j < w.heap.size ∧ v.ownBlock ≠ some j) w q.1 q.2 := fun q hq => by
    rcases List.mem_append.1 hq with hq | hq
    · exact (h.all q hq).new.also (h.all q hq)
    · rw [List.mem_singleton.1 hq]
      exact ((he.new).also ((hf.on he).mono (q := fun j => v.ownBlock ≠ some j) fun j hj e => by have := hM j e; omega))
  refine ⟨?_, fun q hq => ((hm q hq).moved fun j hj => hs j hj.1 hj.2).mono hg⟩
  have e1 : (R ++ [(r, e)]).length = R.length + 1 := by simp
  have e2 : eCs (R ++ [(r, e)]) = eCs R ++ eC r e := by rw [eCs_append]; simp [eCs]
  rw [e1, e2]
  exact hown
theorem any_more (x : Cfg) {ts : List Int} {j : Nat} (h : j < ts.length) : (ts.take (j + 1)).any (fun z => !tokB x z) = ((ts.take j).any (fun z => !tokB x z) || !tokB x (ts.getD j 0)) := by
  rw [take_snoc h, List.any_append]
  simp
/-- Whether tokens can't be run. -/
theorem bad_of {x : Cfg} {ts : List Int} (h : errR x [] ts ≠ 0) : ((decide (ts = []) || decide (x.c < (ts.length : Int))) || ts.any (fun z => !tokB x z)) = true := by
  by_cases h1 : ts = []
  · simp [h1]
  · by_cases h2 : x.c < (ts.length : Int)
    · simp [h2]
    · by_cases h3 : ts.all (tokB x) = true
      · exact absurd (errR_ok.2 ⟨h1, rfl, h3, by simp; omega⟩) h
      · have : ts.any (fun z => !tokB x z) = true := by
          rw [← List.not_all_eq_any_not]
          simpa using h3
        rw [this, Bool.or_true]
end Sp
end Go.Proofs.YtijmjlognekcjaaDoor
namespace Go.Proofs.YtijmjlognekcjaaDoor
open Go.ChangeShapes Go.WideShapes Go.ChangeAt Go.RowKit Cf Vc Br Nr Sf Ac Sp

namespace Sp
section
variable {x : Cfg} {s : ByteArray} {ts : List Int} (he : errR x [] ts = 0)
include he
theorem one_ok {j : Nat} (hj : j < ts.length) : errZ x (runE x s [] (ts.take j)) (ts.getD j 0) = 0 := by
  obtain ⟨_, _, h2, h3⟩ := errR_ok.1 he
  have h4 : ((([] : List Ent).length : Nat) : Int) = 0 := rfl
  rw [← errR_one]
  refine errR_ok.2 ⟨by simp, List.all_eq_true.2 fun e hh => runE_good x s _ _ e hh, ?_, ?_⟩
  · have := List.all_eq_true.1 h2 (ts.getD j 0) (by rw [List.getD_eq_getElem?_getD, List.getElem?_eq_getElem hj]; exact List.getElem_mem _)
    show (tokB x (ts.getD j 0) && true) = true
    rw [this]
    rfl
  · rw [runE_length, List.length_take]
    simp only [List.length_singleton, Nat.min_def]
    split <;> omega
theorem take_ok {k : Nat} (h0 : 0 < k) (hk : k < ts.length) : errR x [] (ts.take k) = 0 := by
  obtain ⟨_, _, h2, h3⟩ := errR_ok.1 he
  have h4 : ((([] : List Ent).length : Nat) : Int) = 0 := rfl
  refine errR_ok.2 ⟨fun e => ?_, rfl, List.all_eq_true.2 fun z hz => List.all_eq_true.1 h2 z (List.mem_of_mem_take hz), ?_⟩
  · have := congrArg List.length e
    rw [List.length_take] at this
    have h5 : min k ts.length = 0 := this
    omega
  · rw [List.length_take]
    show ((0 : Nat) : Int) + ((min k ts.length : Nat) : Int) ≤ x.c
    omega
theorem drop_ok {k : Nat} (hk : k < ts.length) : errR x (runE x s [] (ts.take k)) (ts.drop k) = 0 := by
  obtain ⟨_, _, h2, h3⟩ := errR_ok.1 he
  have h4 : ((([] : List Ent).length : Nat) : Int) = 0 := rfl
  refine errR_ok.2 ⟨fun e => ?_, List.all_eq_true.2 fun e hh => runE_good x s _ _ e hh, List.all_eq_true.2 fun z hz => List.all_eq_true.1 h2 z (List.mem_of_mem_drop hz), ?_⟩
  · have := congrArg List.length e
    rw [List.length_drop] at this
    simp at this
    omega
  · rw [runE_length, List.length_take, List.length_drop, Nat.min_def]
    split <;> omega
end
theorem runS_parts (x : Cfg) (s : ByteArray) {ts : List Int} {k : Nat} (hk : k < ts.length) : runS x s (runE x s [] (ts.take k)) (ts.drop k) = runS x s [] ts := by
  conv => rhs; rw [← List.take_append_drop k ts]
  rw [runS_append x s (fun e => by have := congrArg List.length e; rw [List.length_drop] at this; simp at this; omega)]
  rfl
theorem runE_parts (x : Cfg) (s : ByteArray) (ts : List Int) (k : Nat) : runE x s [] ts = runE x s [] (ts.take k) ++ runE x s (runE x s [] (ts.take k)) (ts.drop k) := by
  conv => lhs; rw [← List.take_append_drop k ts]
  rw [runE_append]
  rfl
theorem past_getD {Q : List (Er × Ent)} {P : List Ent} (h : past Q = P) {i : Nat} {e : Ent} (hi : P[i]? = some e) : (Q.getD i noQ).2 = e := by
  rw [← h] at hi
  unfold past at hi
  rw [List.getElem?_map] at hi
  obtain ⟨q, hq, rfl⟩ := Option.map_eq_some_iff.1 hi
  rw [List.getD_eq_getElem?_getD, hq]
  rfl
theorem runE_get (x : Cfg) (s : ByteArray) {ts : List Int} {j : Nat} (hj : j < ts.length) : (runE x s [] ts)[j]? = some (entZ x s (runE x s [] (ts.take j)) (ts.getD j 0)) := by
  rw [runE_at x s ts [] j hj]
  rw [List.getD_eq_getElem?_getD, List.getElem?_eq_getElem hj]
  rfl
theorem ent_fit {x : Cfg} (h : In x) {e : Ent} (hg : goodE x e = true) : EntFit e := by
  obtain ⟨h1, h2⟩ := goodE_iff.1 hg
  obtain ⟨a1, a2⟩ := rowsB_iff.1 h1
  obtain ⟨b1, b2⟩ := rowsB_iff.1 h2
  have hb := h.b3
  have hd := h.d16
  obtain ⟨hdx, _, hbx, _⟩ := dims h
  have hm : ∀ {L : List (List Int)} {i : Nat}, i < L.length → L.getD i [] ∈ L := fun {L i} hl => by
    rw [List.getD_eq_getElem?_getD, List.getElem?_eq_getElem hl]
    exact List.getElem_mem _
  exact ⟨by omega, by omega, fun i hi => by have := (rowB_iff.1 (a2 _ (hm hi))).1; omega, fun i hi => by have := (rowB_iff.1 (b2 _ (hm hi))).1; omega⟩
theorem vN_small {x : Cfg} {s : ByteArray} (h : Ok x s) : vN x ≤ 32 := by have := h.good.is.v32; have := (dims h.good.is).2.2.2; omega
theorem sum_parts {k m n : Nat} (h : k + m = n) (hn : n ≤ 1000000) : wrap64 ((k : Int) + (m : Int)) = (n : Int) ∧ IntKind.i64.wrap ((k : Int) + (m : Int)) = (n : Int) := ⟨(IntWalk.wrap64_in _ (by omega)).trans (by omega), (IntWalk.i64_in _ (by omega)).trans (by omega)⟩
end Sp
end Go.Proofs.YtijmjlognekcjaaDoor
namespace Go.Proofs.YtijmjlognekcjaaDoor
open Go.ChangeShapes Go.WideShapes Go.ChangeAt Go.RowKit Cf Vc Br Nr Sf Ac Sp

namespace Sp
theorem places17 {x : Cfg} {s : ByteArray} (h : Ok x s) : ∃ P E : Nat, x.v * x.d = (P : Int) ∧ (x.v + x.c) * x.d = (E : Int) ∧ P ≤ E ∧ E ≤ s.size := by
  have h1 := h.size
  have h3 := span_in h.good.is 11 1 (by omega)
  have h4 := mid_in h.good.is
  have h5 : spanZ x 0 2 = x.v * x.d + x.c * x.d := by simp [spanZ, areaZ, rowsZ, colsZ]
  unfold totZ at h1
  rw [h5] at h1
  have h6 : 0 ≤ x.v * x.d := Int.mul_nonneg (by have := h.good.is.v2; omega) (by have := h.good.is.d1; omega)
  have h7 : 0 ≤ x.c * x.d := Int.mul_nonneg (by have := h.good.is.c1; omega) (by have := h.good.is.d1; omega)
  have h8 := Int.add_mul x.v x.c x.d
  refine ⟨(x.v * x.d).toNat, ((x.v + x.c) * x.d).toNat, ?_, ?_, ?_, ?_⟩ <;> omega
theorem cut_entF (pa oa n c i d : Nat) (I : Int) (hI : I = (i : Int)) (h1 : i ≤ n) (h2 : i < c) (hd : d = n - i) (W : World) :
    (Instr.slice 31 (.slice (some ⟨pa, oa, none⟩) n c) (some (.int .i64 I)) none none).run Tryd.prog W = .ok (.slice (some ⟨pa, oa + i * 2, none⟩) d (c - i)) W := by
  subst hI hd
  rw [run_slice_l (P := Tryd.prog) (w := W) 31 _ n c under_ents .i64 (i : Int) (by omega) (by omega), size_ents]
  have e : ¬ c = i := by omega
  simp [Result.andThen, sliced, Addr.add, e]
theorem cut_entT (A : Option Addr) (n c j : Nat) (J : Int) (hJ : J = (j : Int)) (h2 : j ≤ c) (W : World) :
    (Instr.slice 31 (.slice A n c) none (some (.int .i64 J)) none).run Tryd.prog W = .ok (.slice A j c) W := by
  subst hJ
  rw [run_slice_h (P := Tryd.prog) (w := W) 31 _ n c under_ents .i64 (j : Int) (by omega) (by omega), size_ents]
  cases A <;> simp [Result.andThen, sliced, Addr.add]
theorem eCs_take {R : List (Er × Ent)} {k j : Nat} {u : Value} (h : (eCs (R.take k))[j]? = some u) : (eCs R)[j]? = some u := by
  have e : eCs R = eCs (R.take k) ++ eCs (R.drop k) := by rw [← eCs_append, List.take_append_drop]
  rw [e, List.getElem?_append_left (List.getElem?_eq_some_iff.1 h).1]
  exact h
theorem eCs_drop {R : List (Er × Ent)} {k j : Nat} {u : Value} (hk : k ≤ R.length) (h : (eCs (R.drop k))[j]? = some u) : (eCs R)[k * 2 + j]? = some u := by
  have e : eCs R = eCs (R.take k) ++ eCs (R.drop k) := by rw [← eCs_append, List.take_append_drop]
  have hl : (eCs (R.take k)).length = k * 2 := by rw [eCs_length, List.length_take, Nat.min_eq_left hk]
  rw [e, List.getElem?_append_right (by omega), hl, Nat.add_sub_cancel_left]
  exact h
/-- Entries turned: in a row of their own, their rows where they were. -/
theorem turned_in {B : Nat} {w wz : World} {g cap : Nat} {R Q : List (Er × Ent)} (hB : w.heap.size ≤ B) (hall : ∀ q ∈ R, EOn (fun _ => True) w q.1 q.2) (hb : Below B w wz) (hQ : ∀ q ∈ Q, q ∈ R)
    (hown : wz.ownsRow B 36 2 (.slice (some ⟨g, 0, none⟩) Q.length cap) Q.length (eCs Q)) : EsIn wz (some ⟨g, 0, none⟩) Q := by
  have hg : B ≤ g := (hown.lt g rfl).1
  refine Gath.es (B := B) (n := Q.length) (c := cap) ⟨hown, fun q hq => ?_⟩
  refine ((hall q (hQ q hq)).new.moved fun j hj => hb.block j (by omega)).mono fun j hj e => ?_
  have e' : g = j := Option.some.inj e
  omega
theorem past_turned (R : List (Er × Ent)) (k : Nat) : past (R.drop k ++ R.take k) = (past R).drop k ++ (past R).take k := by
  unfold past
  rw [List.map_append, List.map_drop, List.map_take]
theorem entZ_turned (x : Cfg) (s : ByteArray) (R : List (Er × Ent)) (k : Nat) (tok : Int) : entZ x s (past (R.drop k ++ R.take k)) tok = entZ x s (past R) tok ∧ scoZ x s (past (R.drop k ++ R.take k)) tok = scoZ x s (past R) tok ∧ errZ x (past (R.drop k ++ R.take k)) tok = errZ x (past R) tok := by
  have h := turned_perm (past R) k
  rw [past_turned]
  refine ⟨?_, ?_, (errZ_perm x h tok).symm⟩
  · unfold entZ
    rw [endT_perm x s h tok]
  · unfold scoZ
    rw [endT_perm x s h tok]
/-- Where the empty entry's rows lie: nowhere. -/
def er0 : Er := ⟨none, 0, fun _ => none, fun _ => 0, none, 0, fun _ => none, fun _ => 0⟩
theorem lon_none (p : Nat → Prop) (w : World) : LOn p w none (fun _ => none) (fun _ => 0) [] := by
  refine ⟨?_, fun h => absurd h (Nat.lt_irrefl 0), fun i hi => absurd hi (Nat.not_lt_zero i), fun i hi => absurd hi (Nat.not_lt_zero i)⟩
  first
    | exact fun h => absurd h (Nat.lt_irrefl 0)
    | (constructor <;> intro h <;> first | exact absurd h (Nat.lt_irrefl 0) | (intro hi; exact absurd hi (Nat.not_lt_zero _)))
theorem eon_none (w : World) : EOn (fun _ => True) w er0 ⟨[], []⟩ := ⟨lon_none _ w, lon_none _ w⟩
end Sp
end Go.Proofs.YtijmjlognekcjaaDoor
namespace Go.Proofs.YtijmjlognekcjaaDoor
open Go.RowKit

namespace Sp
theorem u64_ge (x : Int) : 0 ≤ IntKind.u64.wrap x := by
  simp [IntKind.wrap, IntKind.bits, IntKind.signed]
  omega
theorem u64_in (n : Nat) (hn : n ≤ 1000000) : IntKind.u64.wrap (n : Int) = (n : Int) := by
  simp [IntKind.wrap, IntKind.bits, IntKind.signed]
  omega
theorem cut64 (x : Int) (n : Nat) (hn : 0 < n) : ∃ i : Nat, i < n ∧ (IntKind.u64.wrap x).tmod (n : Int) = (i : Int) := by
  have h := u64_ge x
  have h1 := Int.tmod_nonneg (n : Int) h
  have h2 := Int.tmod_lt_of_pos (IntKind.u64.wrap x) (show (0 : Int) < (n : Int) by omega)
  exact ⟨((IntKind.u64.wrap x).tmod (n : Int)).toNat, by omega, by omega⟩
end Sp
end Go.Proofs.YtijmjlognekcjaaDoor
