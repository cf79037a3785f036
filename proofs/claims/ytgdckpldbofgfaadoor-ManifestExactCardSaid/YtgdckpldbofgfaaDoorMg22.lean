/-
  The document's own tree of a row of sums. Conditions: the sums lie where it looks; at least one, at most a thousand.
  Out of the card's condition: both tables lie as the program's text lays them. And the door's own heap meets it.
-/
import Derived.Test.YtgdckpldbofgfaaDoorMg10
import Derived.Test.YtgdckpldbofgfaaDoorMg7
import Derived.Test.YtgdckpldbofgfaaDoorMg21
import Derived.Test.YtgdckpldbofgfaaDoorMg8
import Derived.Test.YtgdckpldbofgfaaDoorRows
import Derived.ProofKit
import Derived.LaidMore
import Derived.OpenShut
import Derived.Stop.Joined
import Derived.Lib.LaidTab
set_option maxRecDepth 100000
namespace Go.Proofs.YtgdckpldbofgfaaDoor
open Go.ChangeShapes Go.WideShapes Go.ChangeAt Go.RowKit Sh

theorem infoR : (Tryd.prog.info? 23).map (fun i => (i.zero, i.size, i.bytes)) = some (some (.agg (digF fun _ => 0)), 32, 32) := by kernel_rfl
theorem rfOneS (f : Nat → UInt8) : Tryd.prog.builtSlice 23 1 [(0, .agg (digF f))] = some (digF f) := by kernel_rfl
theorem hiRef : ∀ f, (Tryd.prog.info? 23).map (·.size) = some (vals 32 f).size := fun f => info_vals f (by kernel_rfl)
theorem digs_own {w : World} {base n g c : Nat} {t : TypeId} {l : List (Nat → UInt8)} (h : w.ownsRow base t 32 (.slice (some ⟨g, 0, none⟩) n c) n (dcells l)) : DigsAt w g 0 l := fun j u hj => by
  have := h.cells (g := g) rfl j u hj
  rwa [Addr.add_lit] at this
theorem hiRefF (f : Nat → UInt8) : (Tryd.prog.info? 23).map (·.size) = some (digF f).size := hiRef _
/-- A row of sums from its place i on. -/
theorem digs_drop {w : World} {b o : Nat} {l : List (Nat → UInt8)} (h : DigsAt w b o l) (i : Nat) (hi : i ≤ l.length) : DigsAt w b (o + i * 32) (l.drop i) := fun j u hj => by
  have e : dcells l = dcells (l.take i) ++ dcells (l.drop i) := by rw [← dcells_append, List.take_append_drop]
  have hl : (dcells (l.take i)).length = i * 32 := by rw [dcells_length, List.length_take]; omega
  have := h (i * 32 + j) u (by rw [e, List.getElem?_append_right (by omega), hl, Nat.add_sub_cancel_left]; exact hj)
  rwa [← Nat.add_assoc] at this

set_option maxRecDepth 100000 in
set_option maxHeartbeats 6400000 in
theorem refTree_any (w : World) (L : List (Nat → UInt8)) (pb po n cap : Nat) (hn : n = L.length) (hn0 : 0 < n) (hnb : n ≤ 1000) (hnc : n ≤ cap) (hA : DigsAt w pb po L) :
    Calls Tryd.prog 19 #[.slice (some ⟨pb, po, none⟩) n cap] w fun e w' => e = .returned (.agg (digF (treeD L))) ∧ Below w.heap.size w w' := by
  have hpb : pb < w.heap.size := block_lt_of_cell (hA 0 ((dcells L)[0]'(by rw [dcells_length]; omega)) (List.getElem?_eq_getElem _))
  have HA := Lib.hid hA
  have HL := Lib.hid hn
  obtain ⟨i0, hi, hz0, hz1, hz2⟩ := info_parts infoR
  have HI := Lib.hid hi
  have HZ0 := Lib.hid hz0
  have HZ1 := Lib.hid hz1
  have HZ2 := Lib.hid hz2
  have HZS := Lib.hid (show (Value.agg (digF fun _ => 0)).cells.size = 32 from vals_size 32 _)
  clear hA hn hi hz0 hz1 hz2
  have y0 : ¬ (n : Int) = 0 := by omega
  have y1 : decide ((n : Int) = 0) = false := decide_eq_false y0
  have y2 : ((n : Int) == 0) = false := beq_eq_false_iff_ne.2 y0
  go_enter Tryd.func19, Tryd.ntmps19
  go_wp2_with (fail)
  refine gen_world (fun wr => Below w.heap.size w wr ∧ w.heap.size < wr.heap.size ∧ wr.rowIs w.heap.size 23 32 (fun _ => .int .u8 0)) ?_ ?_
  · exact ⟨(Below.refl _ _).alloc (Nat.le_refl _) _, by simp, row_alloc _ rfl (by kernel_rfl)⟩
  rintro w1 ⟨hb1, hs1, hz1⟩
  have HB1 := Lib.hid hb1
  have HY1 := Lib.hid hz1
  clear hb1 hz1 y0 y1 y2
  go_loopw [0] (fun row wr => ∃ (R : List (Nat → UInt8)) (b o c : Nat), row = .slice (some ⟨b, o, none⟩) R.length c ∧ R.length ≤ c ∧ 0 < R.length ∧ R.length ≤ n ∧ treeD L = treeD R ∧ DigsAt wr b o R ∧ b < wr.heap.size ∧ w.heap.size < wr.heap.size ∧ wr.rowIs w.heap.size 23 32 (fun _ => .int .u8 0) ∧ Below w.heap.size w wr) (fun row _ => match row with | .slice _ l _ => l | _ => 0)
  case atStart =>
    exact ⟨L, pb, po, cap, by rw [HL.out], by rw [← HL.out]; exact hnc, by rw [← HL.out]; exact hn0, by rw [HL.out]; exact Nat.le_refl _, rfl, HA.out.keep HB1.out hpb, by omega, hs1, HY1.out, HB1.out⟩
  case round =>
    clear HB1 HY1 hs1
    obtain ⟨R, b, o, c, rfl, hRc, hR0, hRn, ht, hat, hbl, hs, hz, hb⟩ := hrel
    have HTR := Lib.hid ht
    have HAT := Lib.hid hat
    have HB := Lib.hid hb
    have HZ := Lib.hid hz
    clear ht hat hb hz
    by_cases hR1 : 1 < R.length
    · have HST := Lib.hid (HTR.out.trans (treeD_step R hR1))
      have HPL := Lib.hid (pairsD_length R)
      obtain ⟨k, hk⟩ : ∃ k, k = R.length := ⟨_, rfl⟩
      have HK := Lib.hid hk
      rw [← hk] at hR1 hRc hRn hR0 ⊢
      have x0 : (1 : Int) < (k : Int) := by omega
      have x1 : decide ((1 : Int) < (k : Int)) = true := decide_eq_true x0
      clear hk HTR
      rename World => w4
      go_wp2_with (with_reducible refine wpList_buildNone rfl 28 23 rfl i0 Tryd.underlying28 HI.out ?_)
      refine gen_world (fun wr => Below w4.heap.size w4 wr ∧ wr.ownsRow w4.heap.size 23 32 (.slice (some ⟨w4.heap.size, 0, none⟩) 0 0) 0 (dcells [])) ?_ ?_
      · exact ⟨(Below.refl _ _).alloc (Nat.le_refl _) _, World.ownsRow_made w4 #[] 0 (Nat.le_refl _) (Nat.zero_le _) rfl⟩
      rintro w5 ⟨hb5, ho5⟩
      have HB5 := Lib.hid hb5
      have HO5 := Lib.hid ho5
      clear hb5 ho5
      go_loopw [3, 4] (fun v i wr => ∃ (M : List (Nat → UInt8)) (g cv q : Nat), v = .slice (some ⟨g, 0, none⟩) M.length cv ∧ i = .int .i64 (q : Int) ∧ pairsD R = M ++ pairsD (R.drop q) ∧ q ≤ k + 1 ∧ M.length ≤ k ∧ wr.ownsRow w4.heap.size 23 32 v M.length (dcells M) ∧ Below w4.heap.size w4 wr) (fun _ i _ => match i with | .int _ q => k + 2 - q.toNat | _ => 0)
      case atStart => exact ⟨[], w4.heap.size, 0, 0, rfl, rfl, rfl, Nat.zero_le _, Nat.zero_le _, HO5.out, HB5.out⟩
      case round =>
        clear HO5 HB5
        obtain ⟨M, g, cv, q, rfl, rfl, hsp, hqk, hMk, hown, hb9⟩ := hrel
        have HSP := Lib.hid hsp
        have HOW := Lib.hid hown
        have HB9 := Lib.hid hb9
        clear hsp hown hb9
        have hgb : w4.heap.size ≤ g := by
          obtain ⟨g', c', h1, h2⟩ := own_form HOW.out (by simp)
          cases h1
          exact h2
        by_cases hq : q < k
        · have z0 : (q : Int) < (k : Int) := by omega
          have z1 : decide ((q : Int) < (k : Int)) = true := decide_eq_true z0
          have z2 : 0 ≤ (q : Int) := by omega
          have e1 : IntKind.i64.wrap ((q : Int) + 1) = (q : Int) + 1 := IntWalk.i64_in _ (by omega)
          have e2 : ((q : Int) + 1).toNat = q + 1 := by omega
          have hML : M.length + (pairsD (R.drop q)).length = (k + 1) / 2 := by
            have := congrArg List.length HSP.out
            rw [List.length_append] at this
            rw [← this, HPL.out, ← HK.out]
          rw [pairsD_length, List.length_drop, ← HK.out] at hML
          by_cases hq1 : q + 1 < k
          · have z3 : (q : Int) + 1 < (k : Int) := by omega
            have z4 : decide ((q : Int) + 1 < (k : Int)) = true := decide_eq_true z3
            have z5 : 0 ≤ (q : Int) + 1 := by omega
            obtain ⟨f, h, hf⟩ : ∃ f h, R.drop q = f :: h :: R.drop (q + 2) := by
              have h1 : q < R.length := by rw [← HK.out]; omega
              have h2 : q + 1 < R.length := by rw [← HK.out]; omega
              exact ⟨R[q], R[q + 1], by rw [List.drop_eq_getElem_cons h1, List.drop_eq_getElem_cons h2]⟩
            have hsp2 : pairsD R = (M ++ [sumF (pairL f h)]) ++ pairsD (R.drop (q + 2)) := by rw [HSP.out, hf, pairsD_two, List.append_assoc]; rfl
            have HKP := Lib.hid (show ∀ W : World, Below w4.heap.size w4 W → W.rangeAt b (o + q * 32) (digF f).toList ∧ W.rangeAt b (o + (q + 1) * 32) (digF h).toList from fun W hW => by
              have h1 := digs_drop (HAT.out.keep hW hbl) q (by rw [← HK.out]; omega)
              rw [hf] at h1
              exact ⟨h1.head, by have := h1.tail.head; rwa [show o + q * 32 + 32 = o + (q + 1) * 32 by omega] at this⟩)
            have HIF := Lib.hid (show (Tryd.prog.info? 23).map (·.size) = some (digF f).toList.length by rw [Array.length_toList]; exact hiRef _)
            have HIH := Lib.hid (show (Tryd.prog.info? 23).map (·.size) = some (digF h).toList.length by rw [Array.length_toList]; exact hiRef _)
            have HDC := Lib.hid (show dcells (M ++ [sumF (pairL f h)]) = dcells M ++ (digF (sumF (pairL f h))).toList by rw [dcells_append]; unfold dcells; simp)
            have HREL := Lib.hid (show ∀ (wz : World) (g' c' : Nat), wz.ownsRow w4.heap.size 23 32 (.slice (some ⟨g', 0, none⟩) (M.length + 1) c') (M.length + 1) (dcells (M ++ [sumF (pairL f h)])) → Below w4.heap.size w4 wz →
                (∃ (K : List (Nat → UInt8)) (g cv x : Nat), Value.slice (some ⟨g', 0, none⟩) (M.length + 1) c' = .slice (some ⟨g, 0, none⟩) K.length cv ∧ Value.int .i64 ((q : Int) + 2) = .int .i64 (x : Int) ∧ pairsD R = K ++ pairsD (R.drop x) ∧ x ≤ k + 1 ∧ K.length ≤ k ∧ wz.ownsRow w4.heap.size 23 32 (.slice (some ⟨g', 0, none⟩) (M.length + 1) c') K.length (dcells K) ∧ Below w4.heap.size w4 wz) ∧ k + 2 - ((q : Int) + 2).toNat < k + 2 - (q : Int).toNat from
              fun wz g' c' h1 h2 => ⟨⟨M ++ [sumF (pairL f h)], g', c', q + 2, by rw [List.length_append]; rfl, rfl, hsp2, by omega, by rw [List.length_append]; show M.length + 1 ≤ k; omega, by rw [List.length_append]; exact h1, h2⟩, by omega⟩)
            obtain ⟨o1, ho1⟩ : ∃ o1, o + q * 32 = o1 := ⟨_, rfl⟩
            obtain ⟨o2, ho2⟩ : ∃ o2, o + (q + 1) * 32 = o2 := ⟨_, rfl⟩
            rw [ho1, ho2] at HKP
            clear hsp2 hf
            go_wp2
            refine wp_region_held_drew (S := fun W : World => W.rangeAt b (o1) (digF f).toList ∧ W.rangeAt b (o2) (digF h).toList) (by kernel_rfl) (HKP.out _ HB9.out.drew) (fun hHeld => ?_)
            refine wpAnyH_takeAt (i := 0) (v := .slice (some ⟨g, 0, none⟩) M.length cv) 24 rfl rfl (by kernel_rfl) (by kernel_rfl) (by kernel_rfl) (fun _ _ _ h => h) (Or.inl ⟨by rfl, ?_⟩) hHeld ?_
            · intro W _
              go_simp
            simp only [Act.put, List.setIfInBounds_toArray, List.set_cons_succ, List.set_cons_zero]
            refine wpAnyH_takeAt (i := 1) (v := .slice (some ⟨b, o, none⟩) k c) 25 rfl rfl (by kernel_rfl) (by kernel_rfl) (by kernel_rfl) (fun _ _ _ h => h) (Or.inl ⟨by rfl, ?_⟩) hHeld ?_
            · intro W _
              go_simp
            simp only [Act.put, List.setIfInBounds_toArray, List.set_cons_succ, List.set_cons_zero]
            refine wpAnyH_takeAt (i := 2) (v := .int .i64 (q : Int)) 26 rfl rfl (by kernel_rfl) (by kernel_rfl) (by kernel_rfl) (fun _ _ _ h => h) (Or.inl ⟨by rfl, ?_⟩) hHeld ?_
            · intro W _
              go_simp
            simp only [Act.put, List.setIfInBounds_toArray, List.set_cons_succ, List.set_cons_zero]
            refine wpAnyH_takeAt (i := 3) (v := .pointer (some ⟨b, o1, none⟩)) 27 rfl rfl (by kernel_rfl) (by kernel_rfl) (by kernel_rfl) (fun _ _ _ h => h) (Or.inl ⟨by rfl, ?_⟩) hHeld ?_
            · intro W _
              go_simp
            simp only [Act.put, List.setIfInBounds_toArray, List.set_cons_succ, List.set_cons_zero]
            refine wpAnyH_takeAt (i := 4) (v := .agg (digF f).toList.toArray) 28 rfl rfl (by kernel_rfl) (by kernel_rfl) (by kernel_rfl) (fun _ _ _ h => h) (yieldsIf_load_mid (by rfl) 23 _ rfl b (o1) rfl (digF f).toList _ (fun W hW => hW.1) Tryd.underlying23 rfl HIF.out) hHeld ?_
            simp only [Act.put, List.setIfInBounds_toArray, List.set_cons_succ, List.set_cons_zero]
            refine wpAnyH_takeAt (i := 5) (v := .slice (some ⟨b, o, none⟩) k c) 29 rfl rfl (by kernel_rfl) (by kernel_rfl) (by kernel_rfl) (fun _ _ _ h => h) (Or.inl ⟨by rfl, ?_⟩) hHeld ?_
            · intro W _
              go_simp
            simp only [Act.put, List.setIfInBounds_toArray, List.set_cons_succ, List.set_cons_zero]
            refine wpAnyH_takeAt (i := 6) (v := .int .i64 (q : Int)) 30 rfl rfl (by kernel_rfl) (by kernel_rfl) (by kernel_rfl) (fun _ _ _ h => h) (Or.inl ⟨by rfl, ?_⟩) hHeld ?_
            · intro W _
              go_simp
            simp only [Act.put, List.setIfInBounds_toArray, List.set_cons_succ, List.set_cons_zero]
            refine wpAnyH_takeAt (i := 7) (v := .int .i64 ((q : Int) + 1)) 31 rfl rfl (by kernel_rfl) (by kernel_rfl) (by kernel_rfl) (fun _ _ _ h => h) (Or.inl ⟨by rfl, ?_⟩) hHeld ?_
            · intro W _
              go_simp
            simp only [Act.put, List.setIfInBounds_toArray, List.set_cons_succ, List.set_cons_zero]
            refine wpAnyH_takeAt (i := 8) (v := .pointer (some ⟨b, o2, none⟩)) 32 rfl rfl (by kernel_rfl) (by kernel_rfl) (by kernel_rfl) (fun _ _ _ h => h) (Or.inl ⟨by rfl, ?_⟩) hHeld ?_
            · intro W _
              go_simp
            simp only [Act.put, List.setIfInBounds_toArray, List.set_cons_succ, List.set_cons_zero]
            refine wpAnyH_takeAt (i := 9) (v := .agg (digF h).toList.toArray) 33 rfl rfl (by kernel_rfl) (by kernel_rfl) (by kernel_rfl) (fun _ _ _ h => h) (yieldsIf_load_mid (by rfl) 23 _ rfl b (o2) rfl (digF h).toList _ (fun W hW => hW.2) Tryd.underlying23 rfl HIH.out) hHeld ?_
            simp only [Act.put, List.setIfInBounds_toArray, List.set_cons_succ, List.set_cons_zero]
            refine wpAnyH_ready (rs := [10]) (by kernel_rfl) (by simp) ?_
            refine AllReadyH.cons rfl (fun K hK => ?_) AllReadyH.nil
            go_simp
            refine (refPair_any f h wr.drew).mono ?_
            rintro e w6 ⟨rfl, hb6⟩
            have hbd := HB9.out.drew
            have hb7 := hbd.trans (hb6.mono (show w4.heap.size ≤ wr.drew.heap.size from HB9.out.size))
            refine hK.out _ _ (HKP.out _ hb7) (fun hHeld => ?_)
            clear hK K
            have hown6 := own_below HOW.out (((Below.refl wr.heap.size wr).drew).trans hb6)
            clear hbd hb6
            refine wpAnyH_ready (rs := [11]) (by kernel_rfl) (by simp) ?_
            refine AllReadyH.cons rfl (fun K hK => ?_) AllReadyH.nil
            rw [if_pos (by rfl)]
            refine wp_sliceOne 28 23 (.tmp 34) rfl (some 35) rfl Tryd.underlying28 (digF (sumF (pairL f h))) rfl (rfOneS _) ?_
            have hb8 := hb7.alloc (show w4.heap.size ≤ w6.heap.size from hb7.size) (.cells (digF (sumF (pairL f h))) 23)
            refine hK.out _ _ (HKP.out _ hb8) (fun hHeld => ?_)
            clear hK K
            have hown7 := own_below hown6 ((Below.refl w6.heap.size w6).alloc (Nat.le_refl _) (.cells (digF (sumF (pairL f h))) 23))
            refine wpAnyH_ready (rs := [12]) (by kernel_rfl) (by simp) ?_
            refine AllReadyH.cons rfl (fun K hK => ?_) AllReadyH.nil
            rw [if_pos (by rfl)]
            refine wp_append_own _ (.tmp 24) (.tmp 35) 28 rfl w4.heap.size 23 i0 _ 32 32 Tryd.underlying28 HI.out HZ0.out HZ1.out HZ2.out HZS.out (by omega) (.slice (some ⟨g, 0, none⟩) M.length cv) M.length (dcells M) rfl hown7 ⟨w6.heap.size, 0, none⟩ 1 1 (digF (sumF (pairL f h))).toList rfl (by rw [Array.length_toList, Nat.one_mul]; exact vals_size 32 _) ?_ ?_ (by unfold maxLen; omega) (by omega) hb8.size ?_
            · intro j u hj
              rw [Addr.add_lit, Nat.zero_add, cell_of_row _ _ _ _ _ _ (heap_alloc_new w6 _), ← hj, Array.getElem?_toList]
            · intro u hu
              exact Array.all_eq_true_iff_forall_mem.1 (hoDig (sumF (pairL f h))) u (by simpa using hu)
            intro v9 w9 hown9 hg9 hnil
            have hgb : w4.heap.size ≤ g := by
              obtain ⟨g', c', h1, h2⟩ := own_form HOW.out (by simp)
              cases h1
              exact h2
            have hbA := hb8.grown hg9 hb8.size (fun i hi => by
              have : i = g := by simpa [Value.ownBlock] using hi.symm
              omega)
            obtain ⟨g9, c9, rfl, hg9b⟩ := own_form hown9 (fun h' => by have := (hnil.1 h').2; omega)
            refine hK.out _ _ (HKP.out _ hbA) (fun hHeld => ?_)
            clear hK K
            simp only [Act.put, List.setIfInBounds_toArray, List.set_cons_succ, List.set_cons_zero]
            refine wpAnyH_takeAt (i := 13) (v := .slice (some ⟨g9, 0, none⟩) (M.length + 1) c9) 3 rfl rfl (by kernel_rfl) (by kernel_rfl) (by kernel_rfl) (fun _ _ _ h => h) (Or.inl ⟨by rfl, ?_⟩) hHeld ?_
            · intro W _
              go_simp
            simp only [Act.put]
            refine wpAnyH_done (by kernel_rfl) ?_ _
            rw [← HDC.out] at hown9
            have HO9 := Lib.hid hown9
            have HBA := Lib.hid hbA
            clear hown9 hbA hg9 hnil hHeld hb8 hb7 hown6 hown7
            go_wp2
            exact HREL.out w9 g9 c9 HO9.out HBA.out
          · have hq2 : q + 1 = k := by omega
            have z3 : ¬ (q : Int) + 1 < (k : Int) := by omega
            have z4 : decide ((q : Int) + 1 < (k : Int)) = false := decide_eq_false z3
            obtain ⟨f, hf⟩ : ∃ f, R.drop q = [f] := by
              have h1 : q < R.length := by rw [← HK.out]; omega
              exact ⟨R[q], by rw [List.drop_eq_getElem_cons h1, List.drop_eq_nil_of_le (by rw [← HK.out]; omega)]⟩
            have hnl : R.drop (q + 2) = [] := List.drop_eq_nil_of_le (by rw [← HK.out]; omega)
            have hsp2 : pairsD R = (M ++ [f]) ++ pairsD (R.drop (q + 2)) := by rw [HSP.out, hf, pairsD_one, hnl, pairsD_nil, List.append_nil]
            have hrg : DigsAt w4 b (o + q * 32) [f] := by rw [← hf]; exact digs_drop HAT.out q (by rw [← HK.out]; omega)
            have HRG := Lib.hid (show wr.rangeAt b (o + q * 32) (digF f).toList from (hrg.keep HB9.out hbl).head)
            have HIF := Lib.hid (show (Tryd.prog.info? 23).map (·.size) = some (digF f).toList.length by rw [Array.length_toList]; exact hiRef _)
            have HDC := Lib.hid (show dcells (M ++ [f]) = dcells M ++ (digF f).toList by rw [dcells_append]; unfold dcells; simp)
            have HOA := Lib.hid (own_below HOW.out ((Below.refl wr.heap.size wr).alloc (Nat.le_refl _) (.cells (digF f) 23)))
            have HBL := Lib.hid (HB9.out.alloc HB9.out.size (.cells (digF f) 23))
            have HSR := Lib.hid (show ∀ j u, (digF f).toList[j]? = some u → (wr.alloc (.cells (digF f) 23)).cell? ((⟨wr.heap.size, 0, none⟩ : Addr).add j) = some u from fun j u hj => by
              rw [Addr.add_lit, Nat.zero_add, cell_of_row _ _ _ _ _ _ (heap_alloc_new wr _), ← hj, Array.getElem?_toList])
            have HREL := Lib.hid (show ∀ (wz : World) (g' c' : Nat), wz.ownsRow w4.heap.size 23 32 (.slice (some ⟨g', 0, none⟩) (M.length + 1) c') (M.length + 1) (dcells (M ++ [f])) → Below w4.heap.size w4 wz →
                (∃ (K : List (Nat → UInt8)) (g cv x : Nat), Value.slice (some ⟨g', 0, none⟩) (M.length + 1) c' = .slice (some ⟨g, 0, none⟩) K.length cv ∧ Value.int .i64 ((q : Int) + 2) = .int .i64 (x : Int) ∧ pairsD R = K ++ pairsD (R.drop x) ∧ x ≤ k + 1 ∧ K.length ≤ k ∧ wz.ownsRow w4.heap.size 23 32 (.slice (some ⟨g', 0, none⟩) (M.length + 1) c') K.length (dcells K) ∧ Below w4.heap.size w4 wz) ∧ k + 2 - ((q : Int) + 2).toNat < k + 2 - (q : Int).toNat from
              fun wz g' c' h1 h2 => ⟨⟨M ++ [f], g', c', q + 2, by rw [List.length_append]; rfl, rfl, hsp2, by omega, by rw [List.length_append]; show M.length + 1 ≤ k; omega, by rw [List.length_append]; exact h1, h2⟩, by omega⟩)
            clear hsp2 hf hnl hrg
            go_wp2_with (first
              | (with_reducible refine wpList_load_mid rfl 23 _ rfl b (o + q * 32) rfl (digF f).toList _ HRG.out Tryd.underlying23 rfl HIF.out ?_)
              | (with_reducible refine wpList_sliceOne rfl 28 23 (.tmp 41) rfl (some 42) rfl Tryd.underlying28 (digF f) rfl (rfOneS _) ?_)
              | (at_builtin; refine wpList_append_own _ rfl (.tmp 37) (.tmp 42) 28 rfl w4.heap.size 23 i0 _ 32 32 Tryd.underlying28 HI.out HZ0.out HZ1.out HZ2.out HZS.out (by omega) (.slice (some ⟨g, 0, none⟩) M.length cv) M.length (dcells M) rfl HOA.out ⟨wr.heap.size, 0, none⟩ 1 1 (digF f).toList rfl (by rw [Array.length_toList, Nat.one_mul]; exact vals_size 32 _) HSR.out (fun u hu => Array.all_eq_true_iff_forall_mem.1 (hoDig f) u (by simpa using hu)) (by unfold maxLen; omega) (by omega) HBL.out.size ?_
                 intro v9 w9 hown9 hg9 hnil
                 obtain ⟨g9, c9, rfl, hg9b⟩ := own_form hown9 (fun h' => by have := (hnil.1 h').2; omega)
                 rw [← HDC.out] at hown9
                 have HO9 := Lib.hid hown9
                 have HBA := Lib.hid (HBL.out.grown hg9 HBL.out.size (fun i hi => by
                   have : i = g := by simpa [Value.ownBlock] using hi.symm
                   omega))
                 clear hown9 hg9 hnil))
            exact HREL.out w9 g9 c9 HO9.out HBA.out
        · have z0 : ¬ (q : Int) < (k : Int) := by omega
          have z1 : decide ((q : Int) < (k : Int)) = false := decide_eq_false z0
          have hM : pairsD R = M := by rw [HSP.out, List.drop_eq_nil_of_le (by rw [← HK.out]; omega), pairsD_nil, List.append_nil]
          have hcap : M.length ≤ cv := by
            rcases HOW.out.2 with ⟨h', _⟩ | ⟨g', cap, cur, hv, _, _, hc, _⟩
            · cases h'
            · injection hv with _ _ hv
              rw [hv]; exact hc
          have hMl : M.length = (k + 1) / 2 := by rw [← hM, HPL.out, ← HK.out]
          have HFI := Lib.hid (show (∃ (R : List (Nat → UInt8)) (b o c : Nat), Value.slice (some ⟨g, 0, none⟩) M.length cv = .slice (some ⟨b, o, none⟩) R.length c ∧ R.length ≤ c ∧ 0 < R.length ∧ R.length ≤ n ∧ treeD L = treeD R ∧ DigsAt wr b o R ∧ b < wr.heap.size ∧ w.heap.size < wr.heap.size ∧ wr.rowIs w.heap.size 23 32 (fun _ => .int .u8 0) ∧ Below w.heap.size w wr) ∧ M.length < k from
            ⟨⟨M, g, 0, cv, rfl, hcap, by omega, by omega, by rw [HST.out, hM], digs_own HOW.out, (HOW.out.lt g rfl).2, Nat.lt_of_lt_of_le hs HB9.out.size, HZ.out.of_block (HB9.out.block _ hs), HB.out.trans (HB9.out.mono (by omega))⟩, by omega⟩)
          clear hM
          go_wp2_with (fail)
          exact HFI.out
    · match R, hR0, hR1 with
      | [f], _, _ =>
        have HTF := Lib.hid (HTR.out.trans (treeD_one f))
        have HH := Lib.hid (show wr.rangeAt b o (digF f).toList from HAT.out.head)
        have HLF := Lib.hid (show (Tryd.prog.info? 23).map (·.size) = some (digF f).toList.length by rw [Array.length_toList]; exact hiRef _)
        have H1 := Lib.hid (row_block HZ.out)
        have HZo := Lib.hid (show (vals 32 fun _ => Value.int .u8 0).size = (digF f).size from hzDig f)
        rw [show [f].length = 1 from rfl] at hRc hRn ⊢
        clear HTR HAT HZ
        go_wp2_with (first
          | (with_reducible refine wpList_load_mid rfl 23 _ rfl b o rfl (digF f).toList _ HH.out Tryd.underlying23 rfl HLF.out ?_)
          | (with_reducible refine wpList_store_row rfl 23 _ _ rfl _ (digF f) rfl rfl 23 _ H1.out (hiRefF f) HZo.out (hoDig f) ?_))
        refine bodyPost_ret (results_cell_row rfl _ _ _ 23 _ _ _ rfl (setRow_heap _ _ _ _ _ _ H1.out) Tryd.underlying23 rfl (hiRefF f)) rfl ?_
        exact ⟨by rw [HTF.out], below_setRow' HB.out (Nat.le_refl _) _⟩
      | [], h0, _ => exact absurd h0 (by simp)
      | _ :: _ :: _, _, h1 => exact absurd (by simp) h1
end Go.Proofs.YtgdckpldbofgfaaDoor
namespace Go.Proofs.YtgdckpldbofgfaaDoor
open Go.ChangeShapes Go.WideShapes Go.ChangeAt Go.RowKit Sh

def shaLaid : List (String × DataW Unit) := [("coadjutor/sha.firstWords", Rows.laid_coadjutor_sha_firstWords), ("coadjutor/sha.constants", Rows.laid_coadjutor_sha_constants)]
theorem gFirst : Tryd.prog.globalNamed "coadjutor/sha.firstWords" = some 0 := by kernel_rfl
theorem gConst : Tryd.prog.globalNamed "coadjutor/sha.constants" = some 1 := by kernel_rfl
theorem tFirst : (Tryd.prog.globals[0]?).map (·.type) = some 91 := by kernel_rfl
theorem tConst : (Tryd.prog.globals[1]?).map (·.type) = some 120 := by kernel_rfl

theorem sha_met (os : Os) (args : Array Value) : laidMetH Tryd.prog shaLaid ((World.doorLaid Tryd.prog 19 os).forCall (fun _ _ => 0) ⟨#[], args, []⟩).memory :=
  laidMetH_of_parts3 (fuel := 8) (laidMet_of_run' 8 (by kernel_rfl) (by kernel_rfl)) (by kernel_rfl) (by kernel_rfl)

theorem tabs_of {W : World} (h : laidMetH Tryd.prog shaLaid W) : Tabs W := by
  rw [MakeChecks.laidMetH_plain _ _ _ (by kernel_rfl)] at h
  obtain ⟨ps, ⟨g0, t0, cs0, f0, p0, q0, hg0, ht0, hv0, hd0, ⟨g1, t1, cs1, f1, p1, q1, hg1, ht1, hv1, hd1, _, _⟩, _⟩, _, _⟩ := h
  obtain rfl := Option.some.inj (gFirst.symm.trans hg0)
  obtain rfl := Option.some.inj (gConst.symm.trans hg1)
  obtain rfl := Option.some.inj (tFirst.symm.trans ht0)
  obtain rfl := Option.some.inj (tConst.symm.trans ht1)
  have e0 : cs0.toList = ((List.range 8).map fun i => tn (iv.at i)).map fun z => Value.int .u32 z :=
    Lib.cells_of_tab (zs := (List.range 8).map fun i => tn (iv.at i)) Tryd.underlying91 Tryd.underlying90 (by kernel_rfl) (by kernel_rfl) (hd0.trans (congrArg (fun d => some (d, p0)) (by kernel_rfl)))
  have e1 : cs1.toList = ((List.range 64).map fun i => tn (kAt i)).map fun z => Value.int .u32 z :=
    Lib.cells_of_tab (zs := (List.range 64).map fun i => tn (kAt i)) Tryd.underlying120 Tryd.underlying90 (by kernel_rfl) (by kernel_rfl) (hd1.trans (congrArg (fun d => some (d, p1)) (by kernel_rfl)))
  refine ⟨?_, fun i hi => ?_⟩
  · have h := hv0
    simp only [World.var?, hg0, Option.bind_some] at h
    split at h
    · rename_i cs t fr hb
      injection h with h
      subst h
      refine ⟨t, fr, ?_⟩
      rw [hb]
      have : cs = vals 8 fun i => .int .u32 (tn (iv.at i)) := by
        apply Array.ext'
        rw [e0]
        simp [vals, List.map_map, Function.comp_def]
      rw [this]
    · cases h
  · rw [World.var?_cell hg1 hv1 i, ← Array.getElem?_toList, e1]
    simp [hi]
end Go.Proofs.YtgdckpldbofgfaaDoor
