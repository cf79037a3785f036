/-
  Layer 17's law: table and forms. Conditions: the rows and entries are there; few of them.
-/
import Derived.Test.YtkdkeokldcehhaaGreatDoorMg25
import Derived.Test.YtkdkeokldcehhaaGreatDoorMg26
import Derived.Test.YtkdkeokldcehhaaGreatDoorMg27
import Derived.Test.YtkdkeokldcehhaaGreatDoorMg13
set_option maxRecDepth 100000
namespace Go.Proofs.YtkdkeokldcehhaaGreatDoor
open Go.ChangeShapes Go.WideShapes Go.ChangeAt Go.RowKit Cf Vc Br Sp Rf

set_option maxRecDepth 100000 in
set_option maxHeartbeats 3200000 in
theorem law_table (w : World) (A : Option Addr) (n c : Nat) (B : Nat → Option Addr) (C : Nat → Nat) (L : List (List Int)) (A' : Option Addr) (m c' : Nat) (B' : Nat → Option Addr) (C' : Nat → Nat) (M : List (List Int))
    (hL : L.length = n) (hM : M.length = m) (hm : n ≤ 1000000) (hlen : ∀ i, i < n → (L.getD i []).length ≤ 4611686018427387904) (hA : LIn w A B C L) (hB : LIn w A' B' C' M) :
    Calls Tryz.prog 13 #[.slice A n c, .slice A' m c'] w fun e w' => e = .returned (.bool (decide (L = M))) ∧ Below w.heap.size w w' := by
  have HA := Lib.hid hA
  have HB := Lib.hid hB
  have HZ := Lib.hid hL
  have HU := Lib.hid hM
  have HLEN := Lib.hid hlen
  clear hA hB hL hM hlen
  by_cases hnm : n = m
  · subst hnm
    have t1 : ((n : Int) == (n : Int)) = true := beq_self_eq_true _
    have HLM := Lib.hid (show L.length = M.length from HZ.out.trans HU.out.symm)
    go_enter Tryz.func13, Tryz.ntmps13
    go_wp2_with (fail)
    go_loopw [5] (fun i wr => ∃ j : Nat, i = .int .i64 (j : Int) ∧ j ≤ n ∧ (∀ k, k < j → L.getD k [] = M.getD k []) ∧ Below w.heap.size w wr) (fun i _ => match i with | .int _ k => n - k.toNat | _ => 0)
    case atStart => exact ⟨0, rfl, Nat.zero_le _, fun k hk => absurd hk (Nat.not_lt_zero k), Below.refl _ _⟩
    case round =>
      obtain ⟨j, rfl, hj, he, hb⟩ := hrel
      have HE := Lib.hid he
      have HBW := Lib.hid hb
      clear he hb
      have x2 : 0 ≤ (j : Int) := by omega
      by_cases hlt : j < n
      · have x0 : (j : Int) < (n : Int) := by omega
        have x1 : decide ((j : Int) < (n : Int)) = true := decide_eq_true x0
        have HJ := Lib.hid (show j + 1 ≤ n by omega)
        have HW1 := Lib.hid (IntWalk.wrap64_in ((j : Int) + 1) (by omega))
        obtain ⟨pa, oa, rfl, hc1, hk1⟩ := HA.out.at (show j < L.length by rw [HZ.out]; exact hlt)
        obtain ⟨pb, ob, rfl, hc2, hk2⟩ := HB.out.at (show j < M.length by rw [HU.out]; exact hlt)
        have hp1 := block_lt_of_cell hc1
        have hp2 := block_lt_of_cell hc2
        have HN1 := Lib.hid (HLEN.out j hlt)
        have HNX := Lib.hid (fun h : L.getD j [] = M.getD j [] => show ∀ k, k < j + 1 → L.getD k [] = M.getD k [] from fun k hk => by
          by_cases hkj : k = j
          · rw [hkj]; exact h
          · exact HE.out k (by omega))
        have HNO := Lib.hid (fun h : ¬ L.getD j [] = M.getD j [] => show decide (L = M) = false from decide_eq_false fun e => h (by rw [e]))
        have HI := Lib.hid (fun W (hW : Below w.heap.size w W) => show Calls Tryz.prog 16 #[.slice (B j) (L.getD j []).length (C j), .slice (B' j) (M.getD j []).length (C' j)] W fun e w' => e = .returned (.bool (decide (L.getD j [] = M.getD j []))) ∧ Below W.heap.size W w' from
          (ints_big W (B j) (L.getD j []).length (C j) (B' j) (M.getD j []).length (C' j) (L.getD j []) (M.getD j []) rfl rfl HN1.out (hk1.below hW (Nat.le_refl _)) (hk2.below hW (Nat.le_refl _))).mono fun e w' ⟨h1, d, h2⟩ => ⟨h1, by rw [h2]; exact below_drewN (Below.refl _ _) d⟩)
        have HCL := Lib.hid (fun (W : World) (hW : Below w.heap.size w W) => show W.cell? ⟨pa, oa + j, none⟩ = some (.slice (B j) (L.getD j []).length (C j)) ∧ W.cell? ⟨pb, ob + j, none⟩ = some (.slice (B' j) (M.getD j []).length (C' j)) from
          ⟨(hW.cell (p := ⟨pa, oa + j, none⟩) hp1).trans hc1, (hW.cell (p := ⟨pb, ob + j, none⟩) hp2).trans hc2⟩)
        have HBD := Lib.hid (show Below w.heap.size w wr.drew from below_drewN HBW.out 1)
        have k0 := HCL.out _ HBD.out
        cases hq : decide (L.getD j [] = M.getD j []) with
        | true =>
          have HY := Lib.hid (HNX.out (of_decide_eq_true hq))
          rw [hq] at HI
          generalize (L.getD j []).length = l1 at HI HCL k0
          generalize (M.getD j []).length = l2 at HI HCL k0
          generalize B j = Bj at HI HCL k0
          generalize B' j = Bj' at HI HCL k0
          generalize C j = Cj at HI HCL k0
          generalize C' j = Cj' at HI HCL k0
          clear hq hc1 hc2 hk1 hk2 hlt HNO HNX
          go_wp2_with (fail)
          go_region_held3 (fun W : World => W.cell? ⟨pa, oa + j, none⟩ = some (.slice Bj l1 Cj) ∧ W.cell? ⟨pb, ob + j, none⟩ = some (.slice Bj' l2 Cj')) (first | exact k0 | assumption) (first
            | (go_at_call 16; (with_reducible refine (HI.out _ HBD.out).mono ?_); rintro z w3 ⟨rfl, b3⟩; have HB3 := Lib.hid (HBD.out.trans (b3.mono HBD.out.size)); have k3 := HCL.out _ HB3.out; clear b3))
          go_wp2_with (fail)
          try rw [HW1.out]
          exact ⟨⟨j + 1, rfl, HJ.out, HY.out, HB3.out⟩, vcLess j n HJ.out⟩
        | false =>
          have HY := Lib.hid (HNO.out (of_decide_eq_false hq))
          rw [hq] at HI
          generalize (L.getD j []).length = l1 at HI HCL k0
          generalize (M.getD j []).length = l2 at HI HCL k0
          generalize B j = Bj at HI HCL k0
          generalize B' j = Bj' at HI HCL k0
          generalize C j = Cj at HI HCL k0
          generalize C' j = Cj' at HI HCL k0
          clear hq hc1 hc2 hk1 hk2 hlt HNO HNX
          go_wp2_with (fail)
          go_region_held3 (fun W : World => W.cell? ⟨pa, oa + j, none⟩ = some (.slice Bj l1 Cj) ∧ W.cell? ⟨pb, ob + j, none⟩ = some (.slice Bj' l2 Cj')) (first | exact k0 | assumption) (first
            | (go_at_call 16; (with_reducible refine (HI.out _ HBD.out).mono ?_); rintro z w3 ⟨rfl, b3⟩; have HB3 := Lib.hid (HBD.out.trans (b3.mono HBD.out.size)); have k3 := HCL.out _ HB3.out; clear b3))
          go_wp2_with (fail)
          refine bodyPost_ret (results_tmp rfl _ _ _) rfl ?_
          rw [HY.out]
          exact ⟨rfl, HB3.out⟩
      · have hje : j = n := by omega
        subst hje
        have x0 : ¬ (j : Int) < (j : Int) := by omega
        have x1 : decide ((j : Int) < (j : Int)) = false := decide_eq_false x0
        have HY := Lib.hid (show decide (L = M) = true from decide_eq_true (lists_same HLM.out fun i hi => HE.out i (by rw [← HZ.out]; exact hi)))
        go_wp2_with (fail)
        refine bodyPost_ret (results_tmp rfl _ _ _) rfl ?_
        rw [HY.out]
        exact ⟨rfl, HBW.out⟩
  · have t1 : ((n : Int) == (m : Int)) = false := beq_eq_false_iff_ne.2 (by omega)
    have HY := Lib.hid (show decide (L = M) = false from decide_eq_false fun e => hnm (by rw [← HZ.out, ← HU.out, e]))
    go_enter Tryz.func13, Tryz.ntmps13
    go_wp2_with (fail)
    refine bodyPost_ret (results_tmp rfl _ _ _) rfl ?_
    rw [HY.out]
    exact ⟨rfl, Below.refl _ _⟩
namespace Sp
theorem base_drew17 {W : World} {B : Nat} (h : B ≤ W.heap.size) (o : Obj) : B ≤ (W.drew.alloc o).heap.size := by
  rw [World.size_alloc]
  exact Nat.le_succ_of_le h
/-- What forms answers: the same entries. -/
def Fo17 (w : World) (n : Nat) (Q : List (Er × Ent)) (e : Ending) (w' : World) : Prop := ∃ G q, e = .returned (.slice G n q) ∧ EsAt w' G Q ∧ Below w.heap.size w w'
theorem es_own {W : World} {N : Nat} {t : TypeId} {A : Option Addr} {n c : Nat} {Q : List (Er × Ent)} (h : W.ownsRow N t 2 (.slice A n c) n (eCs Q)) (hn : Q.length = n) : EsAt W A Q := fun h0 => by
  rcases h.2 with ⟨_, h1⟩ | ⟨g, cap, cur, e, _, hb, _, _, _, ht⟩
  · omega
  · injection e with e1 e2 e3
    subst e1
    refine ⟨g, 0, rfl, fun j u hj => ?_⟩
    rw [cell_of_row W g _ _ _ _ hb, Nat.zero_add]
    rw [← ht] at hj
    have hj2 : j < (cur.toList.take (n * 2)).length := (List.getElem?_eq_some_iff.1 hj).1
    rw [List.getElem?_take_of_lt (by rw [List.length_take] at hj2; omega)] at hj
    rw [← Array.getElem?_toList]
    exact hj
theorem ent_take {Q : List (Er × Ent)} {j : Nat} (h : j < Q.length) : Q.take (j + 1) = Q.take j ++ [Q.getD j noQ] := by
  rw [List.take_add_one, List.getD_eq_getElem?_getD, List.getElem?_eq_getElem h]
  rfl
theorem eC_cells (w : World) (t : TypeId) (q : Er × Ent) : ∀ j u, (eC q.1 q.2)[j]? = some u → (w.alloc (.cells #[.slice q.1.kA q.2.ks.length q.1.kc, .slice q.1.vA q.2.vs.length q.1.vc] t)).cell? ((⟨w.heap.size, 0, none⟩ : Addr).add j) = some u := fun j u hj => by
  rw [Addr.add_lit, Nat.zero_add, cell_of_row _ _ _ _ _ _ (heap_alloc_new w _), ← hj]
  exact List.getElem?_toArray
theorem eC_ones (q : Er × Ent) : ∀ u ∈ eC q.1 q.2, u.oneCell' = true := fun u hu => by
  unfold eC at hu
  simp at hu
  rcases hu with rfl | rfl <;> rfl
theorem cells_below {w W : World} {B b i : Nat} {v : Value} (hc : w.cell? ⟨b, i, none⟩ = some v) (hb : Below B w W) (hB : w.heap.size ≤ B) : W.cell? ⟨b, i, none⟩ = some v :=
  (World.cell?_of_block (hb.block b (Nat.lt_of_lt_of_le (block_lt_of_cell hc) hB))).trans hc
end Sp
set_option maxRecDepth 100000 in
set_option maxHeartbeats 3200000 in
theorem law_forms (w : World) (A : Option Addr) (n c : Nat) (Q : List (Er × Ent)) (hQ : Q.length = n) (hn : n ≤ 1000) (hA : EsAt w A Q) :
    Calls Tryz.prog 8 #[.slice A n c] w (Fo17 w n Q) := by
  have HL := Lib.hid hQ
  have HN := Lib.hid hn
  have HA := Lib.hid hA
  obtain ⟨i0, hi, hz0, hz1, hz2⟩ := info_parts info_entryR
  have HI := Lib.hid hi
  have HZ0 := Lib.hid hz0
  have HZ1 := Lib.hid hz1
  have HZ2 := Lib.hid hz2
  have HB0 := Lib.hid ((Below.refl w.heap.size w).alloc (Nat.le_refl _) (.cells #[] 42))
  have HO0 := Lib.hid (show (w.alloc (.cells #[] 42)).ownsRow w.heap.size 42 2 (.slice (some ⟨w.heap.size, 0, none⟩) 0 0) 0 (eCs (Q.take 0)) from by
    have := World.ownsRow_made (e := 42) (size := 2) w #[] 0 (base := w.heap.size) (Nat.le_refl _) (Nat.zero_le _) rfl
    exact (show (w.alloc (.cells #[] 42)).ownsRow w.heap.size 42 2 (.slice (some ⟨w.heap.size, 0, none⟩) 0 0) 0 [] from by simpa using this))
  clear hQ hn hA hi hz0 hz1 hz2
  go_enter Tryz.func8, Tryz.ntmps8
  go_wp2_with (refine wpList_buildNone rfl 36 42 rfl i0 Tryz.underlying36 HI.out ?_)
  go_loopw [3, 4] (fun v i wr => ∃ (j : Nat) (G : Option Addr) (q : Nat), i = .int .i64 (j : Int) ∧ j ≤ n ∧ v = .slice G j q ∧ wr.ownsRow w.heap.size 42 2 v j (eCs (Q.take j)) ∧ Below w.heap.size w wr) (fun _ i _ => match i with | .int _ k => n - k.toNat | _ => 0)
  case atStart => exact ⟨0, _, 0, rfl, Nat.zero_le _, rfl, HO0.out, HB0.out⟩
  case round =>
    clear HB0 HO0
    obtain ⟨j, G, q, rfl, hj, rfl, ho, hb⟩ := hrel
    have HO := Lib.hid ho
    have HB := Lib.hid hb
    clear ho hb
    have x2 : 0 ≤ (j : Int) := by omega
    by_cases hlt : j < n
    · have x0 : (j : Int) < (n : Int) := by omega
      have x1 : decide ((j : Int) < (n : Int)) = true := decide_eq_true x0
      have hjl : j < Q.length := by rw [HL.out]; exact hlt
      have HT := Lib.hid (ent_take hjl)
      obtain ⟨pb, po, rfl, h1, h2⟩ := HA.out.cell (getD_some hjl)
      have HC := Lib.hid (And.intro h1 h2)
      have HJ := Lib.hid (show j + 1 ≤ n by omega)
      have HW1 := Lib.hid (IntWalk.wrap64_in ((j : Int) + 1) (by have := HN.out; omega))
      have HMJ := Lib.hid (show j + 1 ≤ maxLen ∧ (j + 1) * 48 ≤ 140737488355328 by have := HN.out; have := HJ.out; unfold maxLen; omega)
      generalize Q.getD j noQ = e at HC HT
      have HK := Lib.hid (fun (W : World) (h : Below w.heap.size w W) => show W.cell? ⟨pb, po + j * 2, none⟩ = some (.slice e.1.kA e.2.ks.length e.1.kc) ∧ W.cell? ⟨pb, po + j * 2 + 1, none⟩ = some (.slice e.1.vA e.2.vs.length e.1.vc) from
        ⟨cells_below HC.out.1 h (Nat.le_refl _), cells_below HC.out.2 h (Nat.le_refl _)⟩)
      have HBD := Lib.hid (show Below w.heap.size w wr.drew from below_drewN HB.out 1)
      have k0 := HK.out _ HBD.out
      have HWD := Lib.hid (show wr.drew.ownsRow w.heap.size 42 2 (.slice G j q) j (eCs (Q.take j)) from HO.out)
      clear h1 h2 hjl hlt
      go_wp2_with (fail)
      go_region_held3 (fun W : World => W.cell? ⟨pb, po + j * 2, none⟩ = some (.slice e.1.kA e.2.ks.length e.1.kc) ∧ W.cell? ⟨pb, po + j * 2 + 1, none⟩ = some (.slice e.1.vA e.2.vs.length e.1.vc)) (first | exact k0 | assumption | exact HK.out _ (HBD.out.alloc HBD.out.size _) | exact HK.out _ HB5.out) (first
        | (refine step_buildTo (by rfl) 36 42 1 _ (by rfl) Tryz.underlying36 #[.slice e.1.kA e.2.ks.length e.1.kc, .slice e.1.vA e.2.vs.length e.1.vc] (entryROne _ _ _ _ _ _) ?_)
        | (refine step_append_lies _ (by rfl) _ _ _ (by rfl) w.heap.size 42 i0 _ 2 48 Tryz.underlying36 HI.out HZ0.out HZ1.out HZ2.out rfl (by omega) (.slice G j q) j (eCs (Q.take j)) (by rfl) (HWD.out.alloc _) ⟨wr.drew.heap.size, 0, none⟩ 1 1 (eC e.1 e.2) (by rfl) (by rfl) (eC_cells wr.drew _ e) (eC_ones e) (by omega) HMJ.out.1 HMJ.out.2 (base_drew17 HB.out.size _) _ rfl ?_; intro g5 c5 w5 hown5 hg5 hwh5 hl5; have HOW5 := Lib.hid hown5; have HB5 := Lib.hid (show Below w.heap.size w w5 from (HBD.out.alloc HBD.out.size _).grown hg5 (base_drew17 HB.out.size _) (fun i hi => (World.ownsRow.lt HWD.out i hi).1)); clear hown5 hg5 hwh5 hl5))
      have HON := Lib.hid (show w5.ownsRow w.heap.size 42 2 (.slice (some ⟨g5, 0, none⟩) (j + 1) c5) (j + 1) (eCs (Q.take (j + 1))) from by
        rw [HT.out, eCs_append]
        have := HOW5.out
        simpa [eCs] using this)
      go_wp2_with (fail)
      try rw [HW1.out]
      exact ⟨⟨j + 1, _, c5, rfl, HJ.out, rfl, HON.out, HB5.out⟩, vcLess j n HJ.out⟩
    · have hje : j = n := by omega
      subst hje
      have x0 : ¬ (j : Int) < (j : Int) := by omega
      have x1 : decide ((j : Int) < (j : Int)) = false := decide_eq_false x0
      have HT := Lib.hid (show Q.take j = Q from List.take_of_length_le (by rw [HL.out]; exact Nat.le_refl _))
      rw [HT.out] at HO
      go_wp2_with (fail)
      refine bodyPost_ret (results_tmp rfl _ _ _) rfl ?_
      exact ⟨G, q, rfl, es_own HO.out HL.out, HB.out⟩
end Go.Proofs.YtkdkeokldcehhaaGreatDoor
