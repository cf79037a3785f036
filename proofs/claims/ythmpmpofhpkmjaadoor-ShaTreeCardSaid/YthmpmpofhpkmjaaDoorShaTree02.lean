/-
  Proved: ShaTree: of every row of at most twenty sums each pair and the tree are the document's. Condition (the card ties it): both tables lie as the program's text lays them.
-/
import Derived.Test.YthmpmpofhpkmjaaDoorRefTree
import Derived.Test.YthmpmpofhpkmjaaDoorShaEq
import Derived.Test.YthmpmpofhpkmjaaDoorShaAwake
import Derived.Test.YthmpmpofhpkmjaaDoorShaTreeN
import Derived.Deep.RegionHeld3
namespace Go.Proofs.YthmpmpofhpkmjaaDoor.shaTree
open Go.ChangeShapes Go.WideShapes Go.ChangeAt Go.RowKit Sh

/-- Sums that lie one by one lie as a row. -/
theorem digs_of {w : World} {b o len : Nat} {F : Nat → Nat → UInt8} (h : ∀ i, i < len → w.rangeAt b (o + 32 * i) (digF (F i)).toList) : DigsAt w b o ((List.range len).map F) := by
  intro j u hj
  have hl := (List.getElem?_eq_some_iff.1 hj).1
  rw [dcells_length, List.length_map, List.length_range] at hl
  have hq : j / 32 < len := by omega
  have hr : j % 32 < 32 := by omega
  have e : j = j / 32 * 32 + j % 32 := by omega
  rw [e, dcells_at _ (j / 32) (j % 32) (by rw [List.length_map, List.length_range]; exact hq) hr] at hj
  rw [List.getElem_map, List.getElem_range] at hj
  have := h (j / 32) hq (j % 32) u hj
  rw [show o + j = o + 32 * (j / 32) + j % 32 by omega]
  exact this
set_option maxRecDepth 100000 in
set_option maxHeartbeats 800000 in
theorem tree_empty (A : Option Addr) (cap : Nat) (w : World) (hF : FOn w) (hK : KOn w) :
    Calls Tryd.prog 14 #[.slice A 0 cap] w fun e w' => e = .returned (.agg (digF (sumF []))) ∧ Below w.heap.size w w' := by
  have HF := Lib.hid hF
  have HK := Lib.hid hK
  clear hF hK
  go_enter Tryd.func14, Tryd.ntmps14
  go_wp2_with (fail)
  refine (of_here [] [] rfl _ none 0 0 rfl (by omega) (fun h => by omega) (HF.out.below ((Below.refl _ _).alloc (Nat.le_refl _) _)) (HK.out.below HK.out.lt ((Below.refl _ _).alloc (Nat.le_refl _) _)) (by simp)).mono ?_
  rintro e w1 ⟨rfl, hb1⟩
  have hres : w1.rowIs w.heap.size 25 32 (fun _ => .int .u8 0) := (row_alloc _ rfl (by kernel_rfl)).of_block (hb1.block _ (by simp))
  have hB1 : Below w.heap.size w w1 := ((Below.refl _ _).alloc (Nat.le_refl _) _).trans (hb1.mono (by simp))
  have hfin := below_setRow' hB1 (Nat.le_refl _) (digF (sumF []))
  have H2 := Lib.hid (row_block hres)
  have H3 := Lib.hid (row_block (row_setRow (g := fun j => Value.int .u8 ((sumF [] j).toNat : Int)) hres))
  clear hres hb1 hB1
  go_wp2_with (with_reducible refine wpList_store_row rfl 25 _ _ rfl _ _ rfl rfl 25 _ H2.out (hiDigF _) (hzDig _) (hoDig _) ?_)
  refine bodyPost_ret (results_cell_row rfl _ _ _ 25 _ _ _ rfl H3.out Tryd.underlying25 rfl (hiDig _)) rfl ?_
  exact ⟨rfl, hfin⟩

set_option maxRecDepth 100000 in
set_option maxHeartbeats 800000 in
theorem refTree_empty (A : Option Addr) (cap : Nat) (w : World) :
    Calls Tryd.prog 15 #[.slice A 0 cap] w fun e w' => e = .returned (.agg (digF (sumF []))) ∧ Below w.heap.size w w' := by
  go_enter Tryd.func15, Tryd.ntmps15
  go_wp2_with (fail)
  refine (refOf_any ⟨#[]⟩ _ (by decide)).mono ?_
  rintro e w1 ⟨rfl, hb1⟩
  have hres : w1.rowIs w.heap.size 24 32 (fun _ => .int .u8 0) := (row_alloc _ rfl (by kernel_rfl)).of_block (hb1.block _ (by simp))
  have hB1 : Below w.heap.size w w1 := ((Below.refl _ _).alloc (Nat.le_refl _) _).trans (hb1.mono (by simp))
  have hfin := below_setRow' hB1 (Nat.le_refl _) (digF (sumF []))
  have H2 := Lib.hid (row_block hres)
  have H3 := Lib.hid (row_block (row_setRow (g := fun j => Value.int .u8 ((sumF [] j).toNat : Int)) hres))
  clear hres hb1 hB1
  rw [show digV (⟨#[]⟩ : ByteArray).data.toList = digF (sumF []) from rfl]
  go_wp2_with (with_reducible refine wpList_store_row rfl 24 _ _ rfl _ _ rfl rfl 24 _ H2.out (hiRefF _) (hzDig _) (hoDig _) ?_)
  refine bodyPost_ret (results_cell_row rfl _ _ _ 24 _ _ _ rfl H3.out Tryd.underlying24 rfl (hiRef _)) rfl ?_
  exact ⟨rfl, hfin⟩

theorem exec_neq_dig (a : Act) (o : Oper) (x y : Operand) (z : TypeId) (ho : o.op = .binOp .neq 25 x y z) (f : Nat → UInt8) (hx : a.eval x = .agg (digF f)) (hy : a.eval y = .agg (digF f)) (W : World) :
    (execOp a.eval o).run Tryd.prog W = .ok (.value (.bool false)) W := by
  have hn := run_neq_dig f f W
  rw [same_refl] at hn
  have hm : Tryd.prog.eqGuardType Tryd.prog.depth 25 = false := by kernel_rfl
  unfold execOp
  simp only [ho, hx, hy, Sem.run_bind, run_eqGuard_agg (P := Tryd.prog) (w := W) .neq _ x y _ _ hm, hn, Result.andThen_ok, Sem.run_pure]
  rfl
theorem digs_pick {w : World} {b o : Nat} {l : List (Nat → UInt8)} (h : DigsAt w b o l) (i : Nat) (hi : i < l.length) : w.rangeAt b (o + i * 32) (digF l[i]).toList := by
  have := digs_drop h i (by omega)
  rw [List.drop_eq_getElem_cons hi] at this
  exact this.head
set_option maxRecDepth 100000 in
set_option maxHeartbeats 6400000 in
theorem walk (A : Option Addr) (len cap : Nat) (F : Nat → Nat → UInt8) (w : World) (hT : Tabs w) (hl : len ≤ cap)
    (hA : 0 < len → ∃ b o, A = some ⟨b, o, none⟩ ∧ ∀ i, i < len → w.rangeAt b (o + 32 * i) (digF (F i)).toList) :
    Calls Tryd.prog 4 #[.slice A len cap] w fun e w' => e = .returned (.bool true) ∧ Below w.heap.size w w' := by
  have HT := Lib.hid hT
  have HA := Lib.hid hA
  clear hT hA
  obtain ⟨i0, hi, hz0, hz1, hz2⟩ := info_parts infoR
  have HI := Lib.hid hi
  have HZ0 := Lib.hid hz0
  have HZ1 := Lib.hid hz1
  have HZ2 := Lib.hid hz2
  have HZS := Lib.hid (show (Value.agg (digF fun _ => 0)).cells.size = 32 from vals_size 32 _)
  clear hi hz0 hz1 hz2
  go_enter Tryd.func4, Tryd.ntmps4
  go_wp2_with (fail)
  refine (awake_any w HT.out).mono ?_
  rintro e w1 ⟨rfl, b1⟩
  have s1 := b1.size
  have HB := Lib.hid b1
  clear b1
  by_cases h20 : 20 < len
  · have x0 : 20 < (len : Int) := by omega
    have x1 : decide (20 < (len : Int)) = true := decide_eq_true x0
    go_wp2_with (fail)
    go_ret
    exact ⟨rfl, HB.out⟩
  have x0 : ¬ 20 < (len : Int) := by omega
  have x1 : decide (20 < (len : Int)) = false := decide_eq_false x0
  have HDIG := Lib.hid (show 0 < len → ∃ b o, A = some ⟨b, o, none⟩ ∧ b < w.heap.size ∧ DigsAt w b o ((List.range len).map F) from fun h => by
    obtain ⟨b, o, rfl, hc⟩ := HA.out h
    have hat := digs_of hc
    exact ⟨b, o, rfl, block_lt_of_cell (hat 0 ((dcells ((List.range len).map F))[0]'(by rw [dcells_length, List.length_map, List.length_range]; omega)) (List.getElem?_eq_getElem _)), hat⟩)
  have HLL := Lib.hid (show ((List.range len).map F).length = len by rw [List.length_map, List.length_range])
  generalize (List.range len).map F = L at HDIG HLL
  clear HA
  go_wp2_with (with_reducible refine wpList_buildNone rfl 31 24 rfl i0 Tryd.underlying31 HI.out ?_)
  refine gen_world (fun wr => Below w.heap.size w wr ∧ wr.ownsRow w.heap.size 24 32 (.slice (some ⟨w1.heap.size, 0, none⟩) 0 0) 0 (dcells (L.take 0))) ?_ ?_
  · exact ⟨HB.out.alloc s1 _, by rw [List.take_zero]; exact World.ownsRow_made w1 #[] 0 s1 (Nat.zero_le _) rfl⟩
  rintro w5 ⟨hb5, ho5⟩
  have HB5 := Lib.hid hb5
  have HO5 := Lib.hid ho5
  clear hb5 ho5 HB
  go_loopw [3, 4] (fun v i wr => ∃ (q g cv : Nat), v = .slice (some ⟨g, 0, none⟩) q cv ∧ i = .int .i64 (q : Int) ∧ q ≤ len ∧ wr.ownsRow w.heap.size 24 32 v q (dcells (L.take q)) ∧ Below w.heap.size w wr) (fun _ i _ => match i with | .int _ q => len - q.toNat | _ => 0)
  case atStart => exact ⟨0, w1.heap.size, 0, rfl, rfl, Nat.zero_le _, HO5.out, HB5.out⟩
  case round =>
    clear HB5 HO5 x0 x1
    obtain ⟨q, g, cv, rfl, rfl, hql, hown, hb⟩ := hrel
    have HOW := Lib.hid hown
    have HB := Lib.hid hb
    clear hown hb
    have z2 : 0 ≤ (q : Int) := by omega
    by_cases hq : q < len
    · have z0 : (q : Int) < (len : Int) := by omega
      have z1 : decide ((q : Int) < (len : Int)) = true := decide_eq_true z0
      obtain ⟨b, o, rfl, hbl, hat⟩ := HDIG.out (by omega)
      have hqL : q < L.length := by rw [HLL.out]; exact hq
      have h0L : 0 < L.length := by rw [HLL.out]; omega
      obtain ⟨f0, hf0⟩ : ∃ f0, f0 = L[0] := ⟨_, rfl⟩
      obtain ⟨fq, hfq⟩ : ∃ fq, fq = L[q] := ⟨_, rfl⟩
      have r0 : ∀ W, Below w.heap.size w W → W.rangeAt b o (digF f0).toList := fun W hW => by
        have := digs_pick (hat.keep hW hbl) 0 h0L
        rwa [Nat.zero_mul, Nat.add_zero, ← hf0] at this
      have rq : ∀ W, Below w.heap.size w W → W.rangeAt b (o + q * 32) (digF fq).toList := fun W hW => by
        have := digs_pick (hat.keep hW hbl) q hqL
        rwa [← hfq] at this
      have htk : L.take (q + 1) = L.take q ++ [fq] := by rw [List.take_succ_eq_append_getElem hqL, hfq]
      have HDC := Lib.hid (show dcells (L.take (q + 1)) = dcells (L.take q) ++ (digF fq).toList by rw [htk, dcells_append]; unfold dcells; simp)
      have own0 : ∀ (W : World) (g' c' : Nat), W.ownsRow w.heap.size 24 32 (.slice (some ⟨g', 0, none⟩) (q + 1) c') (q + 1) (dcells (L.take (q + 1))) → W.rangeAt g' 0 (digF f0).toList ∧ W.rangeAt g' (q * 32) (digF fq).toList := fun W g' c' ho => by
        have hd := digs_own ho
        have hlt : (L.take (q + 1)).length = q + 1 := by rw [List.length_take]; omega
        have h1 := digs_pick hd 0 (by omega)
        have h2 := digs_pick hd q (by omega)
        rw [List.getElem_take, ← hf0, Nat.zero_mul, Nat.add_zero] at h1
        rw [List.getElem_take, ← hfq, Nat.zero_add] at h2
        exact ⟨h1, h2⟩
      have OWN := Lib.hid own0
      have R0 := Lib.hid r0
      have RQ := Lib.hid rq
      have HG0 := Lib.hid (show (Tryd.prog.info? 25).map (·.size) = some (digF f0).toList.length by rw [Array.length_toList]; exact hiDigF _)
      have HGQ := Lib.hid (show (Tryd.prog.info? 25).map (·.size) = some (digF fq).toList.length by rw [Array.length_toList]; exact hiDigF _)
      have HR0 := Lib.hid (show (Tryd.prog.info? 24).map (·.size) = some (digF f0).toList.length by rw [Array.length_toList]; exact hiRefF _)
      have HRQ := Lib.hid (show (Tryd.prog.info? 24).map (·.size) = some (digF fq).toList.length by rw [Array.length_toList]; exact hiRefF _)
      have HRG := Lib.hid (rq wr HB.out)
      have HOA := Lib.hid (own_below HOW.out ((Below.refl wr.heap.size wr).alloc (Nat.le_refl _) (.cells (digF fq) 24)))
      have HBL := Lib.hid (HB.out.alloc HB.out.size (.cells (digF fq) 24))
      have HSR := Lib.hid (show ∀ j u, (digF fq).toList[j]? = some u → (wr.alloc (.cells (digF fq) 24)).cell? ((⟨wr.heap.size, 0, none⟩ : Addr).add j) = some u from fun j u hj => by
        rw [Addr.add_lit, Nat.zero_add, cell_of_row _ _ _ _ _ _ (heap_alloc_new wr _), ← hj, Array.getElem?_toList])
      clear r0 rq own0 htk hf0 hfq hat hqL h0L
      go_wp2_with (first
        | (with_reducible refine wpList_load_mid rfl 25 _ rfl b (o + q * 32) rfl (digF fq).toList _ HRG.out Tryd.underlying25 rfl HGQ.out ?_)
        | (with_reducible refine wpList_sliceOne rfl 31 24 (.tmp 21) rfl (some 22) rfl Tryd.underlying31 (digF fq) rfl (rfOneS _) ?_)
        | (at_builtin; refine wpList_append_own _ rfl (.tmp 17) (.tmp 22) 31 rfl w.heap.size 24 i0 _ 32 32 Tryd.underlying31 HI.out HZ0.out HZ1.out HZ2.out HZS.out (by omega) (.slice (some ⟨g, 0, none⟩) q cv) q (dcells (L.take q)) rfl HOA.out ⟨wr.heap.size, 0, none⟩ 1 1 (digF fq).toList rfl (by rw [Array.length_toList, Nat.one_mul]; exact vals_size 32 _) HSR.out (fun u hu => Array.all_eq_true_iff_forall_mem.1 (hoDig fq) u (by simpa using hu)) (by unfold maxLen; omega) (by omega) HBL.out.size ?_
           intro v9 w9 hown9 hg9 hnil
           obtain ⟨g9, c9, rfl, hg9b⟩ := own_form hown9 (fun h' => by have := (hnil.1 h').2; omega)
           rw [← HDC.out] at hown9
           have HO9 := Lib.hid hown9
           have HBA := Lib.hid (HBL.out.grown hg9 HBL.out.size (fun i hi => (HOA.out.lt i hi).1))
           clear hown9 hg9 hnil))
      obtain ⟨o1, ho1⟩ : ∃ o1, o + q * 32 = o1 := ⟨_, rfl⟩
      obtain ⟨o2, ho2⟩ : ∃ o2, q * 32 = o2 := ⟨_, rfl⟩
      have hkp : ∀ W, Below w9.heap.size w9 W → W.rangeAt b o (digF f0).toList ∧ W.rangeAt b o1 (digF fq).toList ∧ W.rangeAt g9 0 (digF f0).toList ∧ W.rangeAt g9 o2 (digF fq).toList := fun W hW => by
        have h1 := HBA.out.trans (hW.mono HBA.out.size)
        have h2 := OWN.out W g9 c9 (own_below HO9.out hW)
        rw [ho2] at h2
        exact ⟨R0.out W h1, by rw [← ho1]; exact RQ.out W h1, h2.1, h2.2⟩
      have HKP := Lib.hid hkp
      clear hkp
      have HPA := Lib.hid (show ∀ W, Below w9.heap.size w9 W → Calls Tryd.prog 12 #[.agg (digF f0), .agg (digF fq)] W fun e w' => e = .returned (.agg (digF (sumF (pairL f0 fq)))) ∧ Below W.heap.size W w' from fun W hW => pair_any f0 fq W (HT.out.below (HBA.out.trans (hW.mono HBA.out.size))))
      have HPB := Lib.hid (show ∀ W, Below w9.heap.size w9 W → Calls Tryd.prog 13 #[.agg (digF f0), .agg (digF fq)] W fun e w' => e = .returned (.agg (digF (sumF (pairL f0 fq)))) ∧ Below W.heap.size W w' from fun W _ => refPair_any f0 fq W)
      
      generalize sumF (pairL f0 fq) = T at HPA HPB
      have FIN := Lib.hid (show ∀ wz, Below w9.heap.size w9 wz → (∃ (x g cv : Nat), Value.slice (some ⟨g9, 0, none⟩) (q + 1) c9 = .slice (some ⟨g, 0, none⟩) x cv ∧ Value.int .i64 ((q : Int) + 1) = .int .i64 (x : Int) ∧ x ≤ len ∧ wz.ownsRow w.heap.size 24 32 (.slice (some ⟨g9, 0, none⟩) (q + 1) c9) x (dcells (L.take x)) ∧ Below w.heap.size w wz) ∧ len - ((q : Int) + 1).toNat < len - (q : Int).toNat from
        fun wz hz => ⟨⟨q + 1, g9, c9, rfl, rfl, by omega, own_below HO9.out hz, HBA.out.trans (hz.mono HBA.out.size)⟩, by omega⟩)
      have z9 : 0 < (len : Int) := by omega
      have z8 : 0 < (q : Int) + 1 := by omega
      have z7 : (q : Int) < (q : Int) + 1 := by omega
      have z6 : q < q + 1 := by omega
      have z5 : 0 < q + 1 := by omega
      have z4 : 0 < len := by omega
      clear OWN R0 RQ HRG HOA HBL HSR HDC HOW HO9
      refine wp_region_held_drew (S := fun W : World => W.rangeAt b o (digF f0).toList ∧ W.rangeAt b o1 (digF fq).toList ∧ W.rangeAt g9 0 (digF f0).toList ∧ W.rangeAt g9 o2 (digF fq).toList) (by kernel_rfl) (HKP.out _ (Below.refl _ _).drew) (fun hHeld => ?_)
      refine wpAnyH_takeAt (i := 0) (v := .slice (some ⟨b, o, none⟩) len cap) 24 rfl rfl (by kernel_rfl) (by kernel_rfl) (by kernel_rfl) (fun _ _ _ h => h) (Or.inl ⟨by rfl, ?_⟩) hHeld ?_
      · intro W _
        go_simp
      simp only [Act.put, List.setIfInBounds_toArray, List.set_cons_succ, List.set_cons_zero]
      refine wpAnyH_takeAt (i := 1) (v := .pointer (some ⟨b, o, none⟩)) 25 rfl rfl (by kernel_rfl) (by kernel_rfl) (by kernel_rfl) (fun _ _ _ h => h) (Or.inl ⟨by rfl, ?_⟩) hHeld ?_
      · intro W _
        go_simp
      simp only [Act.put, List.setIfInBounds_toArray, List.set_cons_succ, List.set_cons_zero]
      refine wpAnyH_takeAt (i := 2) (v := .agg (digF f0).toList.toArray) 26 rfl rfl (by kernel_rfl) (by kernel_rfl) (by kernel_rfl) (fun _ _ _ h => h) (yieldsIf_load_mid (by rfl) 25 _ rfl b (o) rfl (digF f0).toList _ (fun W hW => hW.1) Tryd.underlying25 rfl HG0.out) hHeld ?_
      simp only [Act.put, List.setIfInBounds_toArray, List.set_cons_succ, List.set_cons_zero]
      refine wpAnyH_takeAt (i := 3) (v := .slice (some ⟨b, o, none⟩) len cap) 27 rfl rfl (by kernel_rfl) (by kernel_rfl) (by kernel_rfl) (fun _ _ _ h => h) (Or.inl ⟨by rfl, ?_⟩) hHeld ?_
      · intro W _
        go_simp
      simp only [Act.put, List.setIfInBounds_toArray, List.set_cons_succ, List.set_cons_zero]
      refine wpAnyH_takeAt (i := 4) (v := .int .i64 (q : Int)) 28 rfl rfl (by kernel_rfl) (by kernel_rfl) (by kernel_rfl) (fun _ _ _ h => h) (Or.inl ⟨by rfl, ?_⟩) hHeld ?_
      · intro W _
        go_simp
      simp only [Act.put, List.setIfInBounds_toArray, List.set_cons_succ, List.set_cons_zero]
      refine wpAnyH_takeAt (i := 5) (v := .pointer (some ⟨b, o1, none⟩)) 29 rfl rfl (by kernel_rfl) (by kernel_rfl) (by kernel_rfl) (fun _ _ _ h => h) (Or.inl ⟨by rfl, ?_⟩) hHeld ?_
      · intro W _
        go_simp
      simp only [Act.put, List.setIfInBounds_toArray, List.set_cons_succ, List.set_cons_zero]
      refine wpAnyH_takeAt (i := 6) (v := .agg (digF fq).toList.toArray) 30 rfl rfl (by kernel_rfl) (by kernel_rfl) (by kernel_rfl) (fun _ _ _ h => h) (yieldsIf_load_mid (by rfl) 25 _ rfl b (o1) rfl (digF fq).toList _ (fun W hW => hW.2.1) Tryd.underlying25 rfl HGQ.out) hHeld ?_
      simp only [Act.put, List.setIfInBounds_toArray, List.set_cons_succ, List.set_cons_zero]
      refine wpAnyH_takeAt (i := 8) (v := .slice (some ⟨g9, 0, none⟩) (q + 1) c9) 32 rfl rfl (by kernel_rfl) (by kernel_rfl) (by kernel_rfl) (fun _ _ _ h => h) (Or.inl ⟨by rfl, ?_⟩) hHeld ?_
      · intro W _
        go_simp
      simp only [Act.put, List.setIfInBounds_toArray, List.set_cons_succ, List.set_cons_zero]
      refine wpAnyH_takeAt (i := 9) (v := .pointer (some ⟨g9, 0, none⟩)) 33 rfl rfl (by kernel_rfl) (by kernel_rfl) (by kernel_rfl) (fun _ _ _ h => h) (Or.inl ⟨by rfl, ?_⟩) hHeld ?_
      · intro W _
        go_simp
      simp only [Act.put, List.setIfInBounds_toArray, List.set_cons_succ, List.set_cons_zero]
      refine wpAnyH_takeAt (i := 10) (v := .agg (digF f0).toList.toArray) 34 rfl rfl (by kernel_rfl) (by kernel_rfl) (by kernel_rfl) (fun _ _ _ h => h) (yieldsIf_load_mid (by rfl) 24 _ rfl g9 (0) rfl (digF f0).toList _ (fun W hW => hW.2.2.1) Tryd.underlying24 rfl HR0.out) hHeld ?_
      simp only [Act.put, List.setIfInBounds_toArray, List.set_cons_succ, List.set_cons_zero]
      refine wpAnyH_takeAt (i := 11) (v := .slice (some ⟨g9, 0, none⟩) (q + 1) c9) 35 rfl rfl (by kernel_rfl) (by kernel_rfl) (by kernel_rfl) (fun _ _ _ h => h) (Or.inl ⟨by rfl, ?_⟩) hHeld ?_
      · intro W _
        go_simp
      simp only [Act.put, List.setIfInBounds_toArray, List.set_cons_succ, List.set_cons_zero]
      refine wpAnyH_takeAt (i := 12) (v := .int .i64 (q : Int)) 36 rfl rfl (by kernel_rfl) (by kernel_rfl) (by kernel_rfl) (fun _ _ _ h => h) (Or.inl ⟨by rfl, ?_⟩) hHeld ?_
      · intro W _
        go_simp
      simp only [Act.put, List.setIfInBounds_toArray, List.set_cons_succ, List.set_cons_zero]
      refine wpAnyH_takeAt (i := 13) (v := .pointer (some ⟨g9, o2, none⟩)) 37 rfl rfl (by kernel_rfl) (by kernel_rfl) (by kernel_rfl) (fun _ _ _ h => h) (Or.inl ⟨by rfl, ?_⟩) hHeld ?_
      · intro W _
        go_simp
      simp only [Act.put, List.setIfInBounds_toArray, List.set_cons_succ, List.set_cons_zero]
      refine wpAnyH_takeAt (i := 14) (v := .agg (digF fq).toList.toArray) 38 rfl rfl (by kernel_rfl) (by kernel_rfl) (by kernel_rfl) (fun _ _ _ h => h) (yieldsIf_load_mid (by rfl) 24 _ rfl g9 (o2) rfl (digF fq).toList _ (fun W hW => hW.2.2.2) Tryd.underlying24 rfl HRQ.out) hHeld ?_
      simp only [Act.put, List.setIfInBounds_toArray, List.set_cons_succ, List.set_cons_zero]
      refine wpAnyH_ready (rs := [7]) (by kernel_rfl) (by simp) ?_
      refine AllReadyH.cons rfl (fun K hK => ?_) AllReadyH.nil
      · go_simp
        refine (HPA.out _ (Below.refl _ _).drew).mono ?_
        rintro e wa ⟨rfl, ba⟩
        have bb := ((Below.refl w9.heap.size w9).drew).trans ba
        refine hK.out _ _ (HKP.out _ bb) (fun hHeld => ?_)
        clear hK K
        refine wpAnyH_ready (rs := [15]) (by kernel_rfl) (by simp) ?_
        refine AllReadyH.cons rfl (fun K hK => ?_) AllReadyH.nil
        go_simp
        refine (HPB.out _ bb).mono ?_
        rintro e wb ⟨rfl, b2⟩
        have bc := bb.trans (b2.mono bb.size)
        refine hK.out _ _ (HKP.out _ bc) (fun hHeld => ?_)
        clear hK K
        refine wpAnyH_takeAt (i := 16) (v := .bool false) 40 rfl rfl (by kernel_rfl) (by kernel_rfl) (by kernel_rfl) (fun _ _ _ h => h) (Or.inl ⟨by rfl, ?_⟩) hHeld ?_
        · intro W _
          exact exec_neq_dig _ _ (.tmp 31) (.tmp 39) _ rfl T rfl rfl W
        simp only [Act.put, List.setIfInBounds_toArray, List.set_cons_succ, List.set_cons_zero]
        refine wpAnyH_done (by kernel_rfl) ?_ _
        have HBC := Lib.hid bc
        clear bc b2 bb ba hHeld
        go_wp2_with (fail)
        exact FIN.out _ HBC.out
    · have hqe : q = len := by omega
      have z0 : ¬ (q : Int) < (len : Int) := by omega
      have z1 : decide ((q : Int) < (len : Int)) = false := decide_eq_false z0
      have hlc : q ≤ cv := by
        rcases HOW.out.2 with ⟨h', _⟩ | ⟨g', c', cur, hv, _, _, hc, _⟩
        · cases h'
        · injection hv with _ _ hv
          rw [hv]; exact hc
      have hcT : ∃ T, (∀ W, Below w.heap.size w W → Calls Tryd.prog 14 #[.slice A len cap] W fun e w' => e = .returned (.agg (digF T)) ∧ Below W.heap.size W w') ∧
          (∀ W, Below wr.heap.size wr W → Calls Tryd.prog 15 #[.slice (some ⟨g, 0, none⟩) q cv] W fun e w' => e = .returned (.agg (digF T)) ∧ Below W.heap.size W w') := by
        by_cases h0 : 0 < len
        · obtain ⟨b, o, rfl, hbl, hat⟩ := HDIG.out h0
          have ho := HOW.out
          rw [hqe, List.take_of_length_le (by rw [HLL.out]; exact Nat.le_refl _)] at ho
          refine ⟨treeD L, fun W hW => tree_any W L b o len cap HLL.out.symm h0 (by omega) hl (HT.out.below hW) (hat.keep hW hbl), fun W hW => ?_⟩
          rw [hqe]
          exact refTree_any W L g 0 len cv HLL.out.symm h0 (by omega) (by omega) (digs_own (own_below ho hW))
        · have hl0 : len = 0 := by omega
          rw [hl0] at hqe ⊢
          rw [hqe]
          exact ⟨sumF [], fun W hW => tree_empty A cap W (HT.out.below hW).f (HT.out.below hW).k, fun W _ => refTree_empty _ cv W⟩
      obtain ⟨T, hta, htb⟩ := hcT
      have HTA := Lib.hid hta
      have HTB := Lib.hid htb
      clear hta htb hqe hlc HOW HDIG HLL
      have E : ∀ W, (binOp .eql 25 (.agg (digF T)) (.agg (digF T))).run Tryd.prog W = .ok (.bool true) W := fun W => by rw [run_eql_dig, same_refl]
      go_wp2_with (fail)
      refine (HTA.out wr HB.out).mono ?_
      rintro e wa ⟨rfl, ba⟩
      have BA := Lib.hid ba
      have HBA := Lib.hid (HB.out.trans (ba.mono HB.out.size))
      clear ba
      go_wp2_with (fail)
      refine (HTB.out wa BA.out).mono ?_
      rintro e wb ⟨rfl, bb⟩
      have HBB := Lib.hid (HBA.out.trans (bb.mono HBA.out.size))
      clear bb
      go_wp2_with (fail)
      go_ret
      exact ⟨rfl, HBB.out⟩
end Go.Proofs.YthmpmpofhpkmjaaDoor.shaTree
