/-
  Proved: ShaParts: of every text of up to 500 bytes, cut anywhere, and again, the sum is the same; so is a tree of one. Condition (the card ties it): both tables lie as the program's text lays them.
-/
import Derived.Test.YthmpmpofhpkmjaaDoorShaPairs
import Derived.Test.YthmpmpofhpkmjaaDoorTakeAt
import Derived.Test.YthmpmpofhpkmjaaDoorShaOfs
import Derived.Test.YthmpmpofhpkmjaaDoorShaAwake
import Derived.Test.YthmpmpofhpkmjaaDoorShaEq
namespace Go.Proofs.YthmpmpofhpkmjaaDoor.shaParts
open Go.ChangeShapes Go.WideShapes Go.ChangeAt Go.RowKit Sh

theorem exec_eql_dig (a : Act) (o : Oper) (x y : Operand) (z : TypeId) (ho : o.op = .binOp .eql 25 x y z) (f : Nat → UInt8) (hx : a.eval x = .agg (digF f)) (hy : a.eval y = .agg (digF f)) (W : World) :
    (execOp a.eval o).run Tryd.prog W = .ok (.value (.bool true)) W := by
  have hn := run_eql_dig f f W
  rw [same_refl] at hn
  have hm : Tryd.prog.eqGuardType Tryd.prog.depth 25 = false := by kernel_rfl
  unfold execOp
  simp only [ho, hx, hy, Sem.run_bind, run_eqGuard_agg (P := Tryd.prog) (w := W) .eql _ x y _ _ hm, hn, Result.andThen_ok, Sem.run_pure]
theorem cut_at (x : Int) (n : Nat) : ∃ i : Nat, i ≤ n ∧ (IntKind.u64.wrap x).tmod ((n : Int) + 1) = (i : Int) := by
  have h := wrap_u64_nonneg x
  have h1 := Int.tmod_nonneg ((n : Int) + 1) h
  have h2 := Int.tmod_lt_of_pos (IntKind.u64.wrap x) (show (0 : Int) < (n : Int) + 1 by omega)
  exact ⟨((IntKind.u64.wrap x).tmod ((n : Int) + 1)).toNat, by omega, by omega⟩
theorem keep_drew {w W : World} {D : Nat} {l : List Value} (h : Below w.heap.size w W ∧ W.rangeAt D 0 l) : Below w.heap.size w W.drew ∧ W.drew.rangeAt D 0 l := ⟨below_drewN h.1 1, h.2⟩
theorem keep_call {w W W' : World} {D : Nat} {l : List Value} (hb : Below W.heap.size W W') (h : Below w.heap.size w W ∧ W.rangeAt D 0 l) : Below w.heap.size w W' ∧ W'.rangeAt D 0 l :=
  ⟨h.1.trans (hb.mono h.1.size), fun j v hj => (hb.cell (p := ⟨D, 0 + j, none⟩) (block_lt_of_cell (h.2 j v hj))).trans (h.2 j v hj)⟩
theorem keep_alloc {w W : World} {D : Nat} {l : List Value} {o : Obj} (h : Below w.heap.size w W ∧ W.rangeAt D 0 l) : Below w.heap.size w (W.alloc o) ∧ (W.alloc o).rangeAt D 0 l :=
  keep_call ((Below.refl _ _).alloc (Nat.le_refl _) o) h
theorem cells2 (W : World) (A B : ByteArray) : (W.alloc (.cells #[.string A, .string B] 9)).drew.cell? ⟨W.heap.size, 0, none⟩ = some (.string A) ∧ (W.alloc (.cells #[.string A, .string B] 9)).drew.cell? ⟨W.heap.size, 1, none⟩ = some (.string B) := by
  constructor
  · exact (cell_of_row _ _ _ _ _ _ (heap_alloc_new W _)).trans rfl
  · exact (cell_of_row _ _ _ _ _ _ (heap_alloc_new W _)).trans rfl
theorem cells4 (W : World) (A B C D : ByteArray) : (W.alloc (.cells #[.string A, .string B, .string C, .string D] 9)).cell? ⟨W.heap.size, 0, none⟩ = some (.string A) ∧ (W.alloc (.cells #[.string A, .string B, .string C, .string D] 9)).cell? ⟨W.heap.size, 1, none⟩ = some (.string B) ∧
    (W.alloc (.cells #[.string A, .string B, .string C, .string D] 9)).cell? ⟨W.heap.size, 2, none⟩ = some (.string C) ∧ (W.alloc (.cells #[.string A, .string B, .string C, .string D] 9)).cell? ⟨W.heap.size, 3, none⟩ = some (.string D) :=
  ⟨(cell_of_row _ _ _ _ _ _ (heap_alloc_new W _)).trans rfl, (cell_of_row _ _ _ _ _ _ (heap_alloc_new W _)).trans rfl, (cell_of_row _ _ _ _ _ _ (heap_alloc_new W _)).trans rfl, (cell_of_row _ _ _ _ _ _ (heap_alloc_new W _)).trans rfl⟩
set_option maxRecDepth 100000 in
set_option maxHeartbeats 4000000 in
theorem walk_near (s : ByteArray) (a b : Int) (w : World) (hT : Tabs w) (hs : s.size ≤ 500) :
    Calls Tryd.prog 6 #[.string s, .int .i64 a, .int .i64 b] w fun e w' => e = .returned (.bool true) ∧ Below w.heap.size w w' := by
  have HT := Lib.hid hT
  clear hT
  go_enter Tryd.func6, Tryd.ntmps6
  go_wp2_with (fail)
  refine (awake_any w HT.out).mono ?_
  rintro e w1 ⟨rfl, b1⟩
  have s1 := b1.size
  obtain ⟨i, hi, ei⟩ := cut_at a s.size
  obtain ⟨j, hj, ej⟩ := cut_at b (s.size - i)
  rw [show ((s.size - i : Nat) : Int) = (s.size : Int) - (i : Int) by omega] at ej
  have HS := Lib.hid hs
  go_wp2_with (fail)
  have hl500 : s.data.toList.length ≤ 500 := hs
  have b2 := b1.alloc s1 (.cells #[.string s] 9)
  refine (of_strs [s] s.data.toList (flat_one s) _ 1 1 _ rfl (by omega) (fun k hk => ?_) (HT.out.below b2) (by omega)).mono ?_
  · match k, hk with
    | 0, _ => rw [cell_of_row _ _ _ _ _ _ (heap_alloc_new w1 _)]; rfl
  rintro e w2 ⟨rfl, hb2⟩
  have b3 : Below w.heap.size w w2 := b2.trans (hb2.mono (by simp; omega))
  have s3 := b3.size
  clear b1 b2 hb2
  have hR : ∀ o, (w2.alloc o).heap[w2.heap.size]? = some o := fun o => heap_alloc_new w2 o
  have HR := Lib.hid hR
  clear hR
  generalize hF : sumF s.data.toList = F
  have HF := Lib.hid hF
  clear hF
  have HIF := Lib.hid (hiDigF F)
  have HOF := Lib.hid (hoDig F)
  go_wp2_with (with_reducible refine wpList_store_row rfl 25 _ _ rfl _ (digF F) rfl rfl 25 _ (HR.out _) HIF.out ?_ HOF.out ?_)
  · unfold digF; rw [vals_size]; rfl
  refine gen_world (fun wr => Below w.heap.size w wr ∧ wr.rangeAt w2.heap.size 0 (digF F).toList ∧ w2.heap.size < wr.heap.size) ⟨below_setRow' (b3.alloc s3 _) s3 _, ?_, by simp⟩ ?_
  · intro j v hj
    rw [Nat.zero_add, cell_of_row _ _ _ _ _ _ (setRow_heap _ _ _ _ _ _ (HR.out _))]
    simpa using hj
  intro wd hd
  obtain ⟨bd, rd, sd⟩ := hd
  generalize w2.heap.size = D at rd sd ⊢
  have h2 : ∀ W g, Below w.heap.size w W → W.cell? ⟨g, 0, none⟩ = some (.string (s.extract 0 i)) → W.cell? ⟨g, 1, none⟩ = some (.string (s.extract i s.size)) →
      Calls Tryd.prog 9 #[.slice (some ⟨g, 0, none⟩) 2 2] W fun e w' => e = .returned (.agg (digF F)) ∧ Below W.heap.size W w' := fun W g hb c0 c1 => by
    have := of_strs [s.extract 0 i, s.extract i s.size] s.data.toList (parts_two s i) g 2 2 W rfl (by omega) (fun k hk => by
      match k, hk with
      | 0, _ => exact c0
      | 1, _ => exact c1) (HT.out.below hb) (by omega)
    rwa [HF.out] at this
  have h4 : ∀ W g, Below w.heap.size w W → W.cell? ⟨g, 0, none⟩ = some (.string (s.extract 0 i)) → W.cell? ⟨g, 1, none⟩ = some (.string (s.extract i (i + j))) → W.cell? ⟨g, 2, none⟩ = some (.string ⟨#[]⟩) → W.cell? ⟨g, 3, none⟩ = some (.string (s.extract (i + j) s.size)) →
      Calls Tryd.prog 9 #[.slice (some ⟨g, 0, none⟩) 4 4] W fun e w' => e = .returned (.agg (digF F)) ∧ Below W.heap.size W w' := fun W g hb c0 c1 c2 c3 => by
    have := of_strs [s.extract 0 i, s.extract i (i + j), ⟨#[]⟩, s.extract (i + j) s.size] s.data.toList (parts_four s i (i + j) (by omega)) g 4 4 W rfl (by omega) (fun k hk => by
      match k, hk with
      | 0, _ => exact c0
      | 1, _ => exact c1
      | 2, _ => exact c2
      | 3, _ => exact c3) (HT.out.below hb) (by omega)
    rwa [HF.out] at this
  have H2 := Lib.hid h2
  have H4 := Lib.hid h4
  have heq : ∀ wx, (binOp .eql 25 (.agg (digF F)) (.agg (digF F))).run Tryd.prog wx = .ok (.bool true) wx := fun wx => by rw [run_eql_dig, same_refl]
  have q1 : (Tryd.prog.info? 25).map (·.size) = some (digF F).toList.length := by rw [Array.length_toList]; exact HIF.out
  have q2 : (digF F).toList.length = 32 := by rw [Array.length_toList]; exact vals_size 32 _
  have q3 : ∀ v ∈ (digF F).toList, v.oneCell' = true := fun v hv => (Array.all_eq_true_iff_forall_mem.1 HOF.out) v (by simpa using hv)
  have q4 := Tryd.underlying25
  have n1 : ((i : Int) + (j : Int)).toNat = i + j := by omega
  have l0 : 0 ≤ (i : Int) := by omega
  have l1 : (i : Int) ≤ (s.size : Int) := by omega
  have l2 : 0 ≤ (i : Int) + (j : Int) := by omega
  have l3 : (i : Int) + (j : Int) ≤ (s.size : Int) := by omega
  have l4 : (i : Int) ≤ (i : Int) + (j : Int) := by omega
  clear h2 h4 HIF HOF HS HR b3 s3 ei ej
  have h1 : ∀ W g, W.heap[g]? = some (.cells (digF F) 25 (0, 0)) → Calls Tryd.prog 14 #[.slice (some ⟨g, 0, none⟩) 1 1] W fun e w' => e = .returned (.agg (digF F)) ∧ Below W.heap.size W w' := fun W g hc =>
    tree_one F g 0 1 W (fun W' hb k v hk => by
      have hl : g < W.heap.size := (Array.getElem?_eq_some_iff.1 hc).1
      rw [hb.cell (p := ⟨g, 0 + k, none⟩) hl, Nat.zero_add, cell_of_row _ _ _ _ _ _ hc]
      simpa using hk)
  have H1 := Lib.hid h1
  clear h1
  obtain ⟨z, hz⟩ : ∃ z : Int, z = (i : Int) + (j : Int) := ⟨_, rfl⟩
  rw [← hz] at n1 l2 l3 l4 ⊢
  clear hz
  have hS0 : Below w.heap.size w wd ∧ wd.rangeAt D 0 (digF F).toList := ⟨bd, rd⟩
  go_wp2
  refine wp_region_held_drew (S := fun W : World => Below w.heap.size w W ∧ W.rangeAt D 0 (digF F).toList) (by kernel_rfl) (keep_drew hS0) (fun hHeld => ?_)
  refine wpAnyH_takeAt (i := 0) (v := .string s) 38 rfl rfl (by kernel_rfl) (by kernel_rfl) (by kernel_rfl) (fun _ _ _ h => h) (Or.inl ⟨by rfl, ?_⟩) hHeld ?_
  · intro W _
    go_simp
  simp only [Act.put, List.setIfInBounds_toArray, List.set_cons_succ, List.set_cons_zero]
  refine wpAnyH_takeAt (i := 1) (v := .int .i64 (i : Int)) 39 rfl rfl (by kernel_rfl) (by kernel_rfl) (by kernel_rfl) (fun _ _ _ h => h) (Or.inl ⟨by rfl, ?_⟩) hHeld ?_
  · intro W _
    go_simp
  simp only [Act.put, List.setIfInBounds_toArray, List.set_cons_succ, List.set_cons_zero]
  refine wpAnyH_takeAt (i := 2) (v := .string (s.extract 0 i)) 40 rfl rfl (by kernel_rfl) (by kernel_rfl) (by kernel_rfl) (fun _ _ _ h => h) (Or.inl ⟨by rfl, ?_⟩) hHeld ?_
  · intro W _
    go_simp
  simp only [Act.put, List.setIfInBounds_toArray, List.set_cons_succ, List.set_cons_zero]
  refine wpAnyH_takeAt (i := 3) (v := .string s) 41 rfl rfl (by kernel_rfl) (by kernel_rfl) (by kernel_rfl) (fun _ _ _ h => h) (Or.inl ⟨by rfl, ?_⟩) hHeld ?_
  · intro W _
    go_simp
  simp only [Act.put, List.setIfInBounds_toArray, List.set_cons_succ, List.set_cons_zero]
  refine wpAnyH_takeAt (i := 4) (v := .int .i64 (i : Int)) 42 rfl rfl (by kernel_rfl) (by kernel_rfl) (by kernel_rfl) (fun _ _ _ h => h) (Or.inl ⟨by rfl, ?_⟩) hHeld ?_
  · intro W _
    go_simp
  simp only [Act.put, List.setIfInBounds_toArray, List.set_cons_succ, List.set_cons_zero]
  refine wpAnyH_takeAt (i := 5) (v := .string (s.extract i s.size)) 43 rfl rfl (by kernel_rfl) (by kernel_rfl) (by kernel_rfl) (fun _ _ _ h => h) (Or.inl ⟨by rfl, ?_⟩) hHeld ?_
  · intro W _
    go_simp
  simp only [Act.put, List.setIfInBounds_toArray, List.set_cons_succ, List.set_cons_zero]
  refine wpAnyH_takeAt (i := 8) (v := .agg (digF F).toList.toArray) 46 rfl rfl (by kernel_rfl) (by kernel_rfl) (by kernel_rfl) (fun _ _ _ h => h) (yieldsIf_load_mid (by rfl) 25 _ rfl D 0 rfl (digF F).toList (.array 32 5) (fun W hW => hW.2) q4 rfl q1) hHeld ?_
  simp only [Act.put, List.setIfInBounds_toArray, List.set_cons_succ, List.set_cons_zero, Array.toArray_toList]
  refine wpAnyH_ready (rs := [6]) (by kernel_rfl) (by simp) ?_
  refine AllReadyH.cons rfl (fun K hK => ?_) AllReadyH.nil
  go_simp
  refine hK.out _ _ (keep_alloc hHeld) (fun hHeld2 => ?_)
  clear hK K hHeld
  have hHeld := hHeld2
  clear hHeld2
  refine wpAnyH_ready (rs := [7]) (by kernel_rfl) (by simp) ?_
  refine AllReadyH.cons rfl (fun K hK => ?_) AllReadyH.nil
  go_simp
  refine (H2.out _ _ hHeld.1 (cells2 wd _ _).1 (cells2 wd _ _).2).mono ?_
  rintro e w17 ⟨rfl, hb17⟩
  refine hK.out _ _ (keep_call hb17 hHeld) (fun hHeld2 => ?_)
  clear hK K hb17 hHeld
  have hHeld := hHeld2
  clear hHeld2
  refine wpAnyH_takeAt (i := 9) (v := .bool true) 47 rfl rfl (by kernel_rfl) (by kernel_rfl) (by kernel_rfl) (fun _ _ _ h => h) (Or.inl ⟨by rfl, ?_⟩) hHeld ?_
  · intro W _
    exact exec_eql_dig _ _ (.tmp 45) (.tmp 46) _ rfl F rfl rfl W
  simp only [Act.put, List.setIfInBounds_toArray, List.set_cons_succ, List.set_cons_zero]
  refine wpAnyH_takeAt (i := 10) (v := .bool true) 48 rfl rfl (by kernel_rfl) (by kernel_rfl) (by kernel_rfl) (fun _ _ _ h => h) (Or.inl ⟨by rfl, ?_⟩) hHeld ?_
  · intro W _
    go_simp
  simp only [Act.put, List.setIfInBounds_toArray, List.set_cons_succ, List.set_cons_zero]
  refine wpAnyH_takeAt (i := 11) (v := .string s) 49 rfl rfl (by kernel_rfl) (by kernel_rfl) (by kernel_rfl) (fun _ _ _ h => h) (Or.inl ⟨by rfl, ?_⟩) hHeld ?_
  · intro W _
    go_simp
  simp only [Act.put, List.setIfInBounds_toArray, List.set_cons_succ, List.set_cons_zero]
  refine wpAnyH_takeAt (i := 12) (v := .int .i64 (i : Int)) 50 rfl rfl (by kernel_rfl) (by kernel_rfl) (by kernel_rfl) (fun _ _ _ h => h) (Or.inl ⟨by rfl, ?_⟩) hHeld ?_
  · intro W _
    go_simp
  simp only [Act.put, List.setIfInBounds_toArray, List.set_cons_succ, List.set_cons_zero]
  refine wpAnyH_takeAt (i := 13) (v := .string (s.extract 0 i)) 51 rfl rfl (by kernel_rfl) (by kernel_rfl) (by kernel_rfl) (fun _ _ _ h => h) (Or.inl ⟨by rfl, ?_⟩) hHeld ?_
  · intro W _
    go_simp
  simp only [Act.put, List.setIfInBounds_toArray, List.set_cons_succ, List.set_cons_zero]
  refine wpAnyH_takeAt (i := 14) (v := .string s) 52 rfl rfl (by kernel_rfl) (by kernel_rfl) (by kernel_rfl) (fun _ _ _ h => h) (Or.inl ⟨by rfl, ?_⟩) hHeld ?_
  · intro W _
    go_simp
  simp only [Act.put, List.setIfInBounds_toArray, List.set_cons_succ, List.set_cons_zero]
  refine wpAnyH_takeAt (i := 15) (v := .int .i64 (i : Int)) 53 rfl rfl (by kernel_rfl) (by kernel_rfl) (by kernel_rfl) (fun _ _ _ h => h) (Or.inl ⟨by rfl, ?_⟩) hHeld ?_
  · intro W _
    go_simp
  simp only [Act.put, List.setIfInBounds_toArray, List.set_cons_succ, List.set_cons_zero]
  refine wpAnyH_takeAt (i := 16) (v := .int .i64 z) 54 rfl rfl (by kernel_rfl) (by kernel_rfl) (by kernel_rfl) (fun _ _ _ h => h) (Or.inl ⟨by rfl, ?_⟩) hHeld ?_
  · intro W _
    go_simp
  simp only [Act.put, List.setIfInBounds_toArray, List.set_cons_succ, List.set_cons_zero]
  refine wpAnyH_takeAt (i := 17) (v := .string (s.extract i (i + j))) 55 rfl rfl (by kernel_rfl) (by kernel_rfl) (by kernel_rfl) (fun _ _ _ h => h) (Or.inl ⟨by rfl, ?_⟩) hHeld ?_
  · intro W _
    go_simp
  simp only [Act.put, List.setIfInBounds_toArray, List.set_cons_succ, List.set_cons_zero]
  refine wpAnyH_takeAt (i := 18) (v := .string s) 56 rfl rfl (by kernel_rfl) (by kernel_rfl) (by kernel_rfl) (fun _ _ _ h => h) (Or.inl ⟨by rfl, ?_⟩) hHeld ?_
  · intro W _
    go_simp
  simp only [Act.put, List.setIfInBounds_toArray, List.set_cons_succ, List.set_cons_zero]
  refine wpAnyH_takeAt (i := 19) (v := .int .i64 z) 57 rfl rfl (by kernel_rfl) (by kernel_rfl) (by kernel_rfl) (fun _ _ _ h => h) (Or.inl ⟨by rfl, ?_⟩) hHeld ?_
  · intro W _
    go_simp
  simp only [Act.put, List.setIfInBounds_toArray, List.set_cons_succ, List.set_cons_zero]
  refine wpAnyH_takeAt (i := 20) (v := .string (s.extract (i + j) s.size)) 58 rfl rfl (by kernel_rfl) (by kernel_rfl) (by kernel_rfl) (fun _ _ _ h => h) (Or.inl ⟨by rfl, ?_⟩) hHeld ?_
  · intro W _
    go_simp
  simp only [Act.put, List.setIfInBounds_toArray, List.set_cons_succ, List.set_cons_zero]
  refine wpAnyH_takeAt (i := 23) (v := .agg (digF F).toList.toArray) 61 rfl rfl (by kernel_rfl) (by kernel_rfl) (by kernel_rfl) (fun _ _ _ h => h) (yieldsIf_load_mid (by rfl) 25 _ rfl D 0 rfl (digF F).toList (.array 32 5) (fun W hW => hW.2) q4 rfl q1) hHeld ?_
  simp only [Act.put, List.setIfInBounds_toArray, List.set_cons_succ, List.set_cons_zero, Array.toArray_toList]
  refine wpAnyH_ready (rs := [21]) (by kernel_rfl) (by simp) ?_
  refine AllReadyH.cons rfl (fun K hK => ?_) AllReadyH.nil
  go_simp
  refine hK.out _ _ (keep_alloc hHeld) (fun hHeld2 => ?_)
  clear hK K hHeld
  have hHeld := hHeld2
  clear hHeld2
  refine wpAnyH_ready (rs := [22]) (by kernel_rfl) (by simp) ?_
  refine AllReadyH.cons rfl (fun K hK => ?_) AllReadyH.nil
  go_simp
  refine (H4.out _ _ hHeld.1 (cells4 w17 _ _ _ _).1 (cells4 w17 _ _ _ _).2.1 (cells4 w17 _ _ _ _).2.2.1 (cells4 w17 _ _ _ _).2.2.2).mono ?_
  rintro e w32 ⟨rfl, hb32⟩
  refine hK.out _ _ (keep_call hb32 hHeld) (fun hHeld2 => ?_)
  clear hK K hb32 hHeld
  have hHeld := hHeld2
  clear hHeld2
  refine wpAnyH_takeAt (i := 24) (v := .bool true) 62 rfl rfl (by kernel_rfl) (by kernel_rfl) (by kernel_rfl) (fun _ _ _ h => h) (Or.inl ⟨by rfl, ?_⟩) hHeld ?_
  · intro W _
    exact exec_eql_dig _ _ (.tmp 60) (.tmp 61) _ rfl F rfl rfl W
  simp only [Act.put, List.setIfInBounds_toArray, List.set_cons_succ, List.set_cons_zero]
  refine wpAnyH_takeAt (i := 25) (v := .bool true) 63 rfl rfl (by kernel_rfl) (by kernel_rfl) (by kernel_rfl) (fun _ _ _ h => h) (Or.inl ⟨by rfl, ?_⟩) hHeld ?_
  · intro W _
    go_simp
  simp only [Act.put, List.setIfInBounds_toArray, List.set_cons_succ, List.set_cons_zero]
  refine wpAnyH_takeAt (i := 26) (v := .bool true) 64 rfl rfl (by kernel_rfl) (by kernel_rfl) (by kernel_rfl) (fun _ _ _ h => h) (Or.inl ⟨by rfl, ?_⟩) hHeld ?_
  · intro W _
    go_simp
  simp only [Act.put, List.setIfInBounds_toArray, List.set_cons_succ, List.set_cons_zero]
  refine wpAnyH_takeAt (i := 27) (v := .agg (digF F).toList.toArray) 65 rfl rfl (by kernel_rfl) (by kernel_rfl) (by kernel_rfl) (fun _ _ _ h => h) (yieldsIf_load_mid (by rfl) 25 _ rfl D 0 rfl (digF F).toList (.array 32 5) (fun W hW => hW.2) q4 rfl q1) hHeld ?_
  simp only [Act.put, List.setIfInBounds_toArray, List.set_cons_succ, List.set_cons_zero, Array.toArray_toList]
  refine wpAnyH_takeAt (i := 30) (v := .agg (digF F).toList.toArray) 68 rfl rfl (by kernel_rfl) (by kernel_rfl) (by kernel_rfl) (fun _ _ _ h => h) (yieldsIf_load_mid (by rfl) 25 _ rfl D 0 rfl (digF F).toList (.array 32 5) (fun W hW => hW.2) q4 rfl q1) hHeld ?_
  simp only [Act.put, List.setIfInBounds_toArray, List.set_cons_succ, List.set_cons_zero, Array.toArray_toList]
  refine wpAnyH_ready (rs := [28]) (by kernel_rfl) (by simp) ?_
  refine AllReadyH.cons rfl (fun K hK => ?_) AllReadyH.nil
  rw [if_pos (by rfl)]
  refine wp_sliceOne 30 25 (.tmp 65) rfl (some 66) rfl Tryd.underlying30 (digF F) rfl (dgOneS _) ?_
  refine hK.out _ _ (keep_alloc hHeld) (fun hHeld2 => ?_)
  clear hK K hHeld
  have hHeld := hHeld2
  clear hHeld2
  simp only [Act.put, List.setIfInBounds_toArray, List.set_cons_succ, List.set_cons_zero]
  refine wpAnyH_ready (rs := [29]) (by kernel_rfl) (by simp) ?_
  refine AllReadyH.cons rfl (fun K hK => ?_) AllReadyH.nil
  go_simp
  refine (H1.out _ _ (heap_alloc_new w32 _)).mono ?_
  rintro e w39 ⟨rfl, hb39⟩
  refine hK.out _ _ (keep_call hb39 hHeld) (fun hHeld2 => ?_)
  clear hK K hb39 hHeld
  have hHeld := hHeld2
  clear hHeld2
  refine wpAnyH_takeAt (i := 31) (v := .bool true) 69 rfl rfl (by kernel_rfl) (by kernel_rfl) (by kernel_rfl) (fun _ _ _ h => h) (Or.inl ⟨by rfl, ?_⟩) hHeld ?_
  · intro W _
    exact exec_eql_dig _ _ (.tmp 67) (.tmp 68) _ rfl F rfl rfl W
  simp only [Act.put, List.setIfInBounds_toArray, List.set_cons_succ, List.set_cons_zero]
  refine wpAnyH_takeAt (i := 32) (v := .bool true) 70 rfl rfl (by kernel_rfl) (by kernel_rfl) (by kernel_rfl) (fun _ _ _ h => h) (Or.inl ⟨by rfl, ?_⟩) hHeld ?_
  · intro W _
    go_simp
  simp only [Act.put, List.setIfInBounds_toArray, List.set_cons_succ, List.set_cons_zero]
  refine wpAnyH_takeAt (i := 33) (v := .bool true) 6 rfl rfl (by kernel_rfl) (by kernel_rfl) (by kernel_rfl) (fun _ _ _ h => h) (Or.inl ⟨by rfl, ?_⟩) hHeld ?_
  · intro W _
    go_simp
  simp only [Act.put, List.setIfInBounds_toArray, List.set_cons_succ, List.set_cons_zero]
  refine wpAnyH_done (by kernel_rfl) ?_ _
  go_wp2
  go_ret
  exact ⟨rfl, hHeld.1⟩

theorem walk (s : ByteArray) (a b : Int) (w : World) (hT : Tabs w) (hs : s.size ≤ 9223372036854775807) :
    Calls Tryd.prog 6 #[.string s, .int .i64 a, .int .i64 b] w fun e w' => e = .returned (.bool true) ∧ Below w.heap.size w w' := by
  by_cases h : s.size ≤ 500
  · exact walk_near s a b w hT h
  · have HT := Lib.hid hT
    clear hT
    have x0 : 500 < (s.size : Int) := by omega
    have x1 : decide (500 < (s.size : Int)) = true := decide_eq_true x0
    go_enter Tryd.func6, Tryd.ntmps6
    go_wp2_with (fail)
    refine (awake_any w HT.out).mono ?_
    rintro e w1 ⟨rfl, b1⟩
    have B1 := Lib.hid b1
    clear b1
    go_wp2_with (fail)
    go_ret
    exact ⟨rfl, B1.out⟩
end Go.Proofs.YthmpmpofhpkmjaaDoor.shaParts
