/-
  The reference of layer 17: Step, where it goes well. Conditions: the model's weights are as many as its shape asks; the entries are there.
-/
import Derived.Test.YtkdkeokldcehhaaGreatDoorMg35
import Derived.Test.YtkdkeokldcehhaaGreatDoorMg36
import Derived.Test.YtkdkeokldcehhaaGreatDoorMg20
import Derived.Test.YtkdkeokldcehhaaGreatDoorMg18
import Derived.Deep.CutBlock
import Derived.Deep.DeepMust
import Derived.Deep.DeepCutAuto
set_option maxRecDepth 100000
namespace Go.Proofs.YtkdkeokldcehhaaGreatDoor
open Go.ChangeShapes Go.WideShapes Go.ChangeAt Go.RowKit Cf Vc Br Nr Sf Ac Sp Rf
open Go.Proofs.YtkdkeokldcehhaaGreatDoor.Nm (sat shift dot sum Fits)

namespace Rf
theorem row_in {x : Cfg} {s : ByteArray} (h : Ok x s) {p k a : Nat} (hp : p ≤ 11) (hk : (k : Int) < timesZ x (p : Int)) (ha : (a : Int) < rowsZ x (p : Int)) (i : Nat) : -128 ≤ (rowZ x s (p : Int) (k : Int) (a : Int)).getD i 0 ∧ (rowZ x s (p : Int) (k : Int) (a : Int)).getD i 0 ≤ 127 := by
  obtain ⟨F, C, R, _, _, _, _, _, _, _, _, _, _, hl, h3⟩ := Rf.row_at h hp hk ha
  by_cases hi : i < C
  · obtain ⟨hq, e⟩ := h3 i hi
    rw [e]
    exact i8_in _
  · rw [List.getD_eq_getElem?_getD, List.getElem?_eq_none (by omega)]
    exact ⟨by decide, by decide⟩
theorem startL_at (x : Cfg) (s : ByteArray) (tok : Int) (place i : Nat) (h : i < dN x) : (startL x s tok place).getD i 0 = sat (16 * ((rowZ x s 0 0 tok).getD i 0 + (rowZ x s 1 0 (place : Int)).getD i 0)) := by
  unfold startL
  rw [List.getD_eq_getElem?_getD, List.getElem?_map, List.getElem?_range h]
  rfl
theorem startL_len (x : Cfg) (s : ByteArray) (tok : Int) (place : Nat) : (startL x s tok place).length = dN x := by simp [startL]
theorem scoresL_at (x : Cfg) (s : ByteArray) (z : List Int) (t : Nat) (h : t < vN x) : (scoresL x s z).getD t 0 = shift (dot (rowZ x s 0 0 (t : Int)) (normK x s 11 0 z)) 5 := by
  unfold scoresL
  rw [List.getD_eq_getElem?_getD, List.getElem?_map, List.getElem?_range h]
  rfl
theorem err_ok {x : Cfg} {P : List Ent} {tok : Int} (h : errZ x P tok = 0) : P.all (goodE x) = true ∧ 0 ≤ tok ∧ tok < x.v ∧ (P.length : Int) < x.c := by
  unfold errZ at h
  split at h
  · rename_i h1
    split at h
    · rename_i h2
      split at h
      · rename_i h3; exact ⟨h1, h2.1, h2.2, h3⟩
      · cases h
    · cases h
  · cases h
theorem good_at {x : Cfg} {Q : List (Er × Ent)} (h : (past Q).all (goodE x) = true) {j : Nat} (hj : j < Q.length) : goodE x (Q.getD j noQ).2 = true := by
  refine List.all_eq_true.1 h _ ?_
  unfold past
  refine List.mem_map.2 ⟨Q.getD j noQ, ?_, rfl⟩
  rw [List.getD_eq_getElem?_getD, List.getElem?_eq_getElem hj]
  exact List.getElem_mem _
theorem ent_row {x : Cfg} {w : World} {r : Er} {e : Ent} (he : EOn (fun _ => True) w r e) (hg : goodE x e = true) {k : Nat} (hk : k < bN x) : ∃ pk ok pv ov, r.kA = some ⟨pk, ok, none⟩ ∧ r.vA = some ⟨pv, ov, none⟩ ∧ (e.ks.length = bN x ∧ e.vs.length = bN x) ∧ w.cell? ⟨pk, ok + k, none⟩ = some (.slice (r.kB k) (dN x) (r.kC k)) ∧ w.cell? ⟨pv, ov + k, none⟩ = some (.slice (r.vB k) (dN x) (r.vC k)) ∧ KIn .i64 w (r.kB k) (e.ks.getD k []) ∧ KIn .i64 w (r.vB k) (e.vs.getD k []) ∧ ((e.ks.getD k []).length = dN x ∧ (e.vs.getD k []).length = dN x) ∧ dN x ≤ r.kC k ∧ dN x ≤ r.vC k := by
  obtain ⟨h1, h2⟩ := goodE_iff.1 hg
  obtain ⟨a1, a2⟩ := rowsB_iff.1 h1
  obtain ⟨b1, b2⟩ := rowsB_iff.1 h2
  have hl1 : (e.ks.getD k []).length = dN x := (rowB_iff.1 (a2 _ (by rw [List.getD_eq_getElem?_getD, List.getElem?_eq_getElem (show k < e.ks.length by omega)]; exact List.getElem_mem _))).1
  have hl2 : (e.vs.getD k []).length = dN x := (rowB_iff.1 (b2 _ (by rw [List.getD_eq_getElem?_getD, List.getElem?_eq_getElem (show k < e.vs.length by omega)]; exact List.getElem_mem _))).1
  obtain ⟨pk, ok, e1, c1, k1⟩ := he.k.is.at (show k < e.ks.length by omega)
  obtain ⟨pv, ov, e2, c2, k2⟩ := he.v.is.at (show k < e.vs.length by omega)
  rw [hl1] at c1
  rw [hl2] at c2
  have m1 := he.k.cap k (by omega)
  have m2 := he.v.cap k (by omega)
  exact ⟨pk, ok, pv, ov, e1, e2, ⟨a1, b1⟩, c1, c2, k1, k2, ⟨hl1, hl2⟩, by omega, by omega⟩
theorem ent_lens {x : Cfg} {e : Ent} (hg : goodE x e = true) {k : Nat} (hk : k < bN x) : (e.ks.getD k []).length = dN x ∧ (e.vs.getD k []).length = dN x := by
  obtain ⟨h1, h2⟩ := goodE_iff.1 hg
  obtain ⟨a1, a2⟩ := rowsB_iff.1 h1
  obtain ⟨b1, b2⟩ := rowsB_iff.1 h2
  exact ⟨(rowB_iff.1 (a2 _ (by rw [List.getD_eq_getElem?_getD, List.getElem?_eq_getElem (show k < e.ks.length by omega)]; exact List.getElem_mem _))).1, (rowB_iff.1 (b2 _ (by rw [List.getD_eq_getElem?_getD, List.getElem?_eq_getElem (show k < e.vs.length by omega)]; exact List.getElem_mem _))).1⟩
theorem lens_more {L : List (List Int)} {l : List Int} {n m : Nat} (hn : L.length = n) (h : ∀ j, j < n → (L.getD j []).length = m) (hl : l.length = m) : ∀ j, j < n + 1 → ((L ++ [l]).getD j []).length = m := fun j hj => by
  by_cases e : j = n
  · rw [e, List.getD_eq_getElem?_getD, List.getElem?_append_right (by omega), hn, Nat.sub_self]
    exact hl
  · rw [List.getD_eq_getElem?_getD, List.getElem?_append_left (by omega), ← List.getD_eq_getElem?_getD]
    exact h j (by omega)
theorem kAt_len (Q : List (Er × Ent)) (k : Nat) : (kAt (past Q) k).length = Q.length ∧ (vAt (past Q) k).length = Q.length := by simp [kAt, vAt, past]
theorem kAt_at (Q : List (Er × Ent)) (k : Nat) {j : Nat} (hj : j < Q.length) : (kAt (past Q) k).getD j [] = (Q.getD j noQ).2.ks.getD k [] ∧ (vAt (past Q) k).getD j [] = (Q.getD j noQ).2.vs.getD k [] := by
  unfold kAt vAt past
  rw [List.map_map, List.map_map, List.getD_eq_getElem?_getD, List.getD_eq_getElem?_getD (l := List.map _ _), List.getElem?_map, List.getElem?_map, List.getD_eq_getElem?_getD (l := Q), List.getElem?_eq_getElem hj]
  exact ⟨rfl, rfl⟩
theorem rows_nums {x : Cfg} (p : Nat) (h : p = 0 ∨ p = 1) : rowsZ x (p : Int) = (if p = 0 then x.v else x.c) ∧ timesZ x (p : Int) = 1 := by
  rcases h with rfl | rfl <;> exact ⟨rfl, rfl⟩
end Rf

set_option maxRecDepth 100000 in
set_option maxHeartbeats 25600000 in
theorem ref17_step (w : World) (x : Cfg) (s : ByteArray) (hk : Ok x s) (A : Option Addr) (n c : Nat) (Q : List (Er × Ent)) (tok : Int) (hQ : Q.length = n) (hA : EsIn w A Q) (he : errZ x (past Q) tok = 0) :
    Calls Tryz.prog 15 #[mdV x s, .slice A n c, .int .i64 tok] w (RefSays w x s (past Q) tok) := by
  obtain ⟨hall, ht0, ht1, hpc⟩ := err_ok he
  rw [past_length, hQ] at hpc
  obtain ⟨tn, rfl⟩ : ∃ t : Nat, tok = (t : Int) := ⟨tok.toNat, by omega⟩
  have hc32 := hk.good.is.c32
  have hdm := dims hk.good.is
  have hd1 := hk.good.is.d1
  have hd16 := hk.good.is.d16
  have hb1 := hk.good.is.b1
  have hb3 := hk.good.is.b3
  have hv2 := hk.good.is.v2
  have hv32 := hk.good.is.v32
  have HGA := Lib.hid (fun j (hj : j < n) => good_at hall (j := j) (by rw [hQ]; exact hj))
  have HGD := Lib.hid (fun W (hW : Below w.heap.size w W) (q : Er × Ent) (hq : q ∈ Q) => ref17_good W x s hk q.1 q.2 ((hA.all q hq).below hW))
  have HK := Lib.hid hk
  have HA := Lib.hid hA
  have HQ := Lib.hid hQ
  have HN := Lib.hid (show n ≤ 31 ∧ (n : Int) < x.c by omega)
  have HTN := Lib.hid (And.intro ht0 ht1)
  obtain ⟨d, hd⟩ : ∃ d, dN x = d := ⟨_, rfl⟩
  rw [hd] at hdm
  have HD := Lib.hid (show 1 ≤ d ∧ d ≤ 16 ∧ x.d = (d : Int) by omega)
  have HDE := Lib.hid hd
  have HBV := Lib.hid (show x.b = (bN x : Int) ∧ bN x ≤ 3 ∧ x.v = (vN x : Int) ∧ vN x ≤ 32 by omega)
  have HRA := Lib.hid (fun W => show Calls Tryz.prog 33 #[mdV x s, .int .i64 0, .int .i64 0, .int .i64 (tn : Int)] W (RowSays W (fun v => .tuple #[v, .bool true]) (rowZ x s 0 0 (tn : Int))) from ref16_row W x s hk 0 0 tn (by omega) (by rw [(rows_nums 0 (.inl rfl)).2]; decide) (by rw [(rows_nums 0 (.inl rfl)).1]; exact ht1))
  have HRB := Lib.hid (fun W => show Calls Tryz.prog 33 #[mdV x s, .int .i64 1, .int .i64 0, .int .i64 (n : Int)] W (RowSays W (fun v => .tuple #[v, .bool true]) (rowZ x s 1 0 (n : Int))) from ref16_row W x s hk 1 0 n (by omega) (by rw [(rows_nums 1 (.inr rfl)).2]; decide) (by rw [(rows_nums 1 (.inr rfl)).1]; exact hpc))
  have HRAI := Lib.hid (fun i => show -128 ≤ (rowZ x s 0 0 (tn : Int)).getD i 0 ∧ (rowZ x s 0 0 (tn : Int)).getD i 0 ≤ 127 from row_in hk (p := 0) (k := 0) (a := tn) (by omega) (by rw [(rows_nums 0 (.inl rfl)).2]; decide) (by rw [(rows_nums 0 (.inl rfl)).1]; exact ht1) i)
  have HRBI := Lib.hid (fun i => show -128 ≤ (rowZ x s 1 0 (n : Int)).getD i 0 ∧ (rowZ x s 1 0 (n : Int)).getD i 0 ≤ 127 from row_in hk (p := 1) (k := 0) (a := n) (by omega) (by rw [(rows_nums 1 (.inr rfl)).2]; decide) (by rw [(rows_nums 1 (.inr rfl)).1]; exact hpc) i)
  have hla : (rowZ x s 0 0 (tn : Int)).length = d := by
    obtain ⟨F, C, R, _, hC, _, _, _, _, _, _, _, _, hl, _⟩ := Rf.row_at hk (p := 0) (k := 0) (a := tn) (by omega) (by rw [(rows_nums 0 (.inl rfl)).2]; decide) (by rw [(rows_nums 0 (.inl rfl)).1]; exact ht1)
    have h0 : colsZ x ((0 : Nat) : Int) = x.d := rfl
    have h1 : (rowZ x s 0 0 (tn : Int)).length = C := hl
    omega
  have hlb : (rowZ x s 1 0 (n : Int)).length = d := by
    obtain ⟨F, C, R, _, hC, _, _, _, _, _, _, _, _, hl, _⟩ := Rf.row_at hk (p := 1) (k := 0) (a := n) (by omega) (by rw [(rows_nums 1 (.inr rfl)).2]; decide) (by rw [(rows_nums 1 (.inr rfl)).1]; exact hpc)
    have h0 : colsZ x ((1 : Nat) : Int) = x.d := rfl
    have h1 : (rowZ x s 1 0 (n : Int)).length = C := hl
    omega
  have HSA := Lib.hid (fun i (h : i < d) => startL_at x s (tn : Int) n i (by rw [hd]; exact h))
  have HSL := Lib.hid (show (startL x s (tn : Int) n).length = d from (startL_len x s (tn : Int) n).trans hd)
  have HLA := Lib.hid hla
  have HLB := Lib.hid hlb
  have HB0 := Lib.hid ((Below.refl w.heap.size w).alloc (Nat.le_refl _) (mdO x s))
  have HB1 := Lib.hid (HB0.out.alloc HB0.out.size noO)
  have HM1 := Lib.hid (heap_alloc_old _ noO (Array.getElem?_eq_some_iff.1 (heap_alloc_new w (mdO x s))).1 |>.trans (heap_alloc_new w (mdO x s)))
  have HR1 := Lib.hid (show ((w.alloc (mdO x s)).alloc noO).heap[w.heap.size + 1]? = some noO from by
    have := heap_alloc_new (w.alloc (mdO x s)) noO
    rwa [World.size_alloc] at this)
  obtain ⟨i0, hi, hz0, hz1, hz2⟩ := info_parts info_int
  obtain ⟨j0, hj, hy0, hy1, hy2⟩ := info_parts info_intsR
  have HI := Lib.hid hi
  have HZ0 := Lib.hid hz0
  have HZ1 := Lib.hid hz1
  have HZ2 := Lib.hid hz2
  have HJ := Lib.hid hj
  have HY0 := Lib.hid hy0
  have HY1 := Lib.hid hy1
  have HY2 := Lib.hid hy2
  unfold RowSays at HRA HRB
  rw [hla] at HRA
  rw [hlb] at HRB
  unfold mdO brA noO at HB1 HM1 HR1
  unfold mdV brA at HGD HRA HRB ⊢
  clear hk hQ hA he HB0 hall ht0 ht1 hpc hc32 hdm hd1 hd16 hb1 hb3 hv2 hv32 hd hla hlb hi hz0 hz1 hz2 hj hy0 hy1 hy2
  go_enter Tryz.func15, Tryz.ntmps15
  go_wp2_with (fail)
  generalize (w.alloc (.cells #[.int .i64 x.v, .int .i64 x.d, .int .i64 x.h, .int .i64 x.b, .int .i64 x.n, .int .i64 x.c, .string s] 35)).alloc (.cells #[.slice none 0 0, .slice none 0 0] 42) = w2 at HB1 HM1 HR1 ⊢
  go_loopw [9] (fun i wr => ∃ j : Nat, i = .int .i64 (j : Int) ∧ j ≤ n ∧ Below w2.heap.size w2 wr) (fun i _ => match i with | .int _ k => n - k.toNat | _ => 0)
  case atStart => exact ⟨0, rfl, Nat.zero_le _, Below.refl _ _⟩
  case round =>
    obtain ⟨j, rfl, hj, hb⟩ := hrel
    have HB := Lib.hid hb
    have HBW := Lib.hid (HB1.out.trans (hb.mono HB1.out.size))
    clear hb
    have x2 : 0 ≤ (j : Int) := by omega
    by_cases hlt : j < n
    · have x0 : (j : Int) < (n : Int) := by omega
      have x1 : decide ((j : Int) < (n : Int)) = true := decide_eq_true x0
      have HLT := Lib.hid hlt
      have hgq := getD_some (Q := Q) (j := j) (by rw [HQ.out]; exact hlt)
      obtain ⟨pb, po, hAe, c0, c1⟩ := (HA.out.below HBW.out).row.cell hgq
      subst hAe
      have HGJ := Lib.hid (fun W (hW : Below wr.heap.size wr W) => HGD.out W (HBW.out.trans (hW.mono HBW.out.size)) (Q.getD j noQ) (List.mem_of_getElem? hgq))
      rw [HGA.out j hlt] at HGJ
      unfold eV at HGJ
      generalize (Q.getD j noQ).2.ks.length = n1 at c0 HGJ
      generalize (Q.getD j noQ).2.vs.length = n2 at c1 HGJ
      generalize (Q.getD j noQ).1.kA = A1 at c0 HGJ
      generalize (Q.getD j noQ).1.kc = q1 at c0 HGJ
      generalize (Q.getD j noQ).1.vA = A2 at c1 HGJ
      generalize (Q.getD j noQ).1.vc = q2 at c1 HGJ
      have HCL := Lib.hid (fun W (hW : Below wr.heap.size wr W) => show ((W.cell? ⟨w.heap.size, 0, none⟩ = some (.int .i64 x.v) ∧ W.cell? ⟨w.heap.size, 1, none⟩ = some (.int .i64 x.d) ∧ W.cell? ⟨w.heap.size, 2, none⟩ = some (.int .i64 x.h) ∧ W.cell? ⟨w.heap.size, 3, none⟩ = some (.int .i64 x.b) ∧ W.cell? ⟨w.heap.size, 4, none⟩ = some (.int .i64 x.n) ∧ W.cell? ⟨w.heap.size, 5, none⟩ = some (.int .i64 x.c) ∧ W.cell? ⟨w.heap.size, 6, none⟩ = some (.string s)) ∧ W.cell? ⟨pb, po + j * 2, none⟩ = some (.slice A1 n1 q1) ∧ W.cell? ⟨pb, po + j * 2 + 1, none⟩ = some (.slice A2 n2 q2)) from
        ⟨Rf.seven (show W.heap[w.heap.size]? = some (mdO x s) from Rf.stays (Rf.stays HM1.out HB.out) hW), hb0c4 hW c0, hb0c4 hW c1⟩)
      have HWB := Lib.hid (show -9223372036854775808 ≤ (j : Int) + 1 ∧ (j : Int) + 1 ≤ 9223372036854775807 by have := HN.out; omega)
      have HD0 := Lib.hid (show Below wr.heap.size wr wr.drew from below_drewN (Below.refl _ _) 1)
      clear c0 c1 hgq hlt hj
      have k0 := HCL.out _ HD0.out
      go_wp2_with (fail)
      go_region_held3 (fun W : World => ((W.cell? ⟨w.heap.size, 0, none⟩ = some (.int .i64 x.v) ∧ W.cell? ⟨w.heap.size, 1, none⟩ = some (.int .i64 x.d) ∧ W.cell? ⟨w.heap.size, 2, none⟩ = some (.int .i64 x.h) ∧ W.cell? ⟨w.heap.size, 3, none⟩ = some (.int .i64 x.b) ∧ W.cell? ⟨w.heap.size, 4, none⟩ = some (.int .i64 x.n) ∧ W.cell? ⟨w.heap.size, 5, none⟩ = some (.int .i64 x.c) ∧ W.cell? ⟨w.heap.size, 6, none⟩ = some (.string s)) ∧ W.cell? ⟨pb, po + j * 2, none⟩ = some (.slice A1 n1 q1) ∧ W.cell? ⟨pb, po + j * 2 + 1, none⟩ = some (.slice A2 n2 q2))) (first | exact k0 | assumption) (first
        | (go_at_call 11; (with_reducible refine (HGJ.out _ HD0.out).mono ?_); rintro e w3 ⟨rfl, b3⟩; have HB3 := Lib.hid (HB.out.trans ((HD0.out.trans (b3.mono HD0.out.size)).mono HB.out.size)); have k3 := HCL.out _ (HD0.out.trans (b3.mono HD0.out.size)); clear b3))
      clear k0 k3
      go_wp2_with (fail)
      rw [IntWalk.wrap64_in ((j : Int) + 1) HWB.out]
      exact ⟨⟨j + 1, rfl, HLT.out, HB3.out⟩, vc_less j n HLT.out⟩
    · have x0 : ¬ (j : Int) < (n : Int) := by omega
      have x1 : decide ((j : Int) < (n : Int)) = false := decide_eq_false x0
      have HM2 := Lib.hid (show wr.heap[w.heap.size]? = some (mdO x s) from Rf.stays HM1.out HB.out)
      have HR2 := Lib.hid (Rf.stays HR1.out HB.out)
      clear hlt hj HB HB1 HM1 HR1 HGD
      have s1 : decide ((tn : Int) < 0) = false := decide_eq_false (by have := HTN.out; omega)
      have s2 : decide (x.v ≤ (tn : Int)) = false := decide_eq_false (by have := HTN.out; omega)
      have s3 : decide (x.c ≤ (n : Int)) = false := decide_eq_false (by have := HN.out; omega)
      generalize wr = w3 at HBW HM2 HR2 ⊢
      obtain ⟨e0, e1, e2, e3, e4, e5, e6⟩ := Rf.seven HM2.out
      go_wp2_with (fail)
      refine (HRA.out _).mono ?_
      rintro e w4 ⟨PA, pc, rfl, hka, b4⟩
      have HB4 := Lib.hid b4
      have HKA := Lib.hid hka
      clear b4 hka e0 e1 e2 e3 e4 e5 e6 s1 s2 s3
      obtain ⟨e0, e1, e2, e3, e4, e5, e6⟩ := Rf.seven (Rf.stays HM2.out HB4.out)
      go_wp2_with (fail)
      refine (HRB.out _).mono ?_
      rintro e w5 ⟨PB, qc, rfl, hkb, b5⟩
      have HB5 := Lib.hid (HBW.out.trans ((HB4.out.trans (b5.mono HB4.out.size)).mono HBW.out.size))
      have HM5 := Lib.hid (Rf.stays HM2.out (HB4.out.trans (b5.mono HB4.out.size)))
      have HR5 := Lib.hid (Rf.stays HR2.out (HB4.out.trans (b5.mono HB4.out.size)))
      have HKA5 := Lib.hid (HKA.out.below b5 (Nat.le_refl _))
      have HKB5 := Lib.hid hkb
      clear b5 hkb e0 e1 e2 e3 e4 e5 e6 HB4 HKA HM2 HR2 HBW HRA HRB
      generalize rowZ x s 0 0 (tn : Int) = ra at HRAI HLA HKA5 HSA
      generalize rowZ x s 1 0 (n : Int) = rb at HRBI HLB HKB5 HSA
      obtain ⟨Z0, hZ0⟩ : ∃ Z0, startL x s (tn : Int) n = Z0 := ⟨_, rfl⟩
      rw [hZ0] at HSA HSL
      have HZE := Lib.hid hZ0
      clear hZ0
      go_wp2_with (refine wpList_buildNone rfl 45 3 rfl i0 Tryz.underlying45 HI.out ?_)
      have HO5 := Lib.hid (Own.new w5 w5.heap.size (Nat.le_refl _))
      have HC5 := Lib.hid ((Below.refl w5.heap.size w5).alloc (Nat.le_refl _) (.cells #[] 3))
      go_loopw [14, 15] (fun xv iv wr => ∃ (j : Nat) (G : Option Addr) (cg : Nat), iv = .int .i64 (j : Int) ∧ j ≤ d ∧ xv = .slice G j cg ∧ Own wr w5.heap.size xv (Z0.take j) ∧ Below w5.heap.size w5 wr) (fun _ iv _ => match iv with | .int _ k => d - k.toNat | _ => 0)
      case atStart => exact ⟨0, _, 0, rfl, Nat.zero_le _, rfl, HO5.out, HC5.out⟩
      case round =>
        clear HO5 HC5
        obtain ⟨j, G, cg, rfl, hj, rfl, ho, hb⟩ := hrel
        have HO := Lib.hid ho
        have HB := Lib.hid hb
        have HM := Lib.hid (Rf.stays HM5.out hb)
        clear ho hb
        have x2 : 0 ≤ (j : Int) := by omega
        by_cases hlt : j < d
        · have x0 : (j : Int) < x.d := by rw [HD.out.2.2]; omega
          have x1 : decide ((j : Int) < x.d) = true := decide_eq_true x0
          have HLT := Lib.hid hlt
          have x3 : (j : Int) < (d : Int) := by omega
          have HMJ := Lib.hid (app_small (show j + 1 ≤ d from hlt) (by have := HD.out; omega))
          have HRN := Lib.hid (take_more Z0 j (by rw [HSL.out]; exact hlt))
          have HOL := Lib.hid (show (Z0.take j).length = j by rw [List.length_take, HSL.out]; omega)
          have HXJ := Lib.hid (HSA.out j hlt)
          have hla := HRAI.out j
          have hlb := HRBI.out j
          obtain ⟨pa, oa, hAe, hca⟩ := (HKA5.out.below HB.out (Nat.le_refl _)).at (show j < ra.length by rw [HLA.out]; exact hlt)
          obtain ⟨pb, ob, hBe, hcb⟩ := (HKB5.out.below HB.out (Nat.le_refl _)).at (show j < rb.length by rw [HLB.out]; exact hlt)
          subst hAe hBe
          have HPL := Lib.hid (show pa < w5.heap.size ∧ pb < w5.heap.size from ⟨KIn.low HKA5.out (by rw [HLA.out]; omega) _ rfl, KIn.low HKB5.out (by rw [HLB.out]; omega) _ rfl⟩)
          generalize ra.getD j 0 = za at hca hla HXJ
          generalize rb.getD j 0 = zb at hcb hlb HXJ
          have HWD := Lib.hid (show (-9223372036854775808 ≤ za + zb ∧ za + zb ≤ 9223372036854775807) ∧ (-9223372036854775808 ≤ 16 * (za + zb) ∧ 16 * (za + zb) ≤ 9223372036854775807) ∧ (-9223372036854775808 ≤ (j : Int) + 1 ∧ (j : Int) + 1 ≤ 9223372036854775807) from by have := HD.out; omega)
          have HCL := Lib.hid (fun W (hW : Below w5.heap.size wr W) => show W.cell? ⟨pa, oa + j, none⟩ = some (.int .i64 za) ∧ W.cell? ⟨pb, ob + j, none⟩ = some (.int .i64 zb) from
            ⟨(hW.cell (p := ⟨pa, oa + j, none⟩) HPL.out.1).trans hca, (hW.cell (p := ⟨pb, ob + j, none⟩) HPL.out.2).trans hcb⟩)
          have HRR := Lib.hid (show Below w5.heap.size wr wr from Below.refl _ _)
          have HSW := Lib.hid HB.out.size
          have k0 := HCL.out _ (below_drewN HRR.out 1)
          have k1 : ∀ o : Obj, (wr.alloc o).drew.cell? ⟨pa, oa + j, none⟩ = some (.int .i64 za) ∧ (wr.alloc o).drew.cell? ⟨pb, ob + j, none⟩ = some (.int .i64 zb) := fun o => HCL.out _ (below_drewN (HRR.out.alloc HSW.out o) 1)
          have HBG := Lib.hid (fun (o : Obj) (wz : World) (hg : (wr.alloc o).drew.grownBy wz (Value.slice G j cg).ownBlock) => show Below w5.heap.size wr wz from
            (HRR.out.alloc HSW.out o).grown (show (wr.alloc o).grownBy wz (Value.slice G j cg).ownBlock from ⟨hg.os, hg.tape, hg.output, hg.size, hg.block⟩) (by have := HSW.out; simp; omega) (fun i hi => (HO.out.lt i hi).1))
          have k2 : ∀ (o : Obj) (wz : World), (wr.alloc o).drew.grownBy wz (Value.slice G j cg).ownBlock → wz.cell? ⟨pa, oa + j, none⟩ = some (.int .i64 za) ∧ wz.cell? ⟨pb, ob + j, none⟩ = some (.int .i64 zb) := fun o wz hg => HCL.out _ (HBG.out o wz hg)
          have hown0 : wr.drew.ownsRow w5.heap.size 3 1 (.slice G j cg) j (icells (Z0.take j)) := Own.at HO.out HOL.out
          have y1 : wrap64 (za + zb) = za + zb := IntWalk.wrap64_in _ HWD.out.1
          have y1' : IntKind.i64.wrap (za + zb) = za + zb := IntWalk.i64_in _ HWD.out.1
          have y2 : wrap64 (16 * (za + zb)) = 16 * (za + zb) := IntWalk.wrap64_in _ HWD.out.2.1
          have y2' : IntKind.i64.wrap (16 * (za + zb)) = 16 * (za + zb) := IntWalk.i64_in _ HWD.out.2.1
          obtain ⟨e0, e1, e2, e3, e4, e5, e6⟩ := Rf.seven HM.out
          clear hlt hj hla hlb hca hcb
          go_wp2_with (fail)
          clear e0 e1 e2 e3 e4 e5 e6
          go_region_held3 (fun W : World => W.cell? ⟨pa, oa + j, none⟩ = some (.int .i64 za) ∧ W.cell? ⟨pb, ob + j, none⟩ = some (.int .i64 zb)) (first | exact k0 | exact k1 _ | exact k2 _ _ ‹_› | assumption) (first
            | (go_at_call 34; refine (rsat_any _ _).mono ?_; rintro e w' ⟨rfl, rfl⟩)
            | ((refine step_append_lies _ (by rfl) _ _ _ (by rfl) w5.heap.size 3 i0 _ 1 8 Tryz.underlying45 HI.out HZ0.out HZ1.out HZ2.out rfl Nat.one_pos (.slice G j cg) j (icells (Z0.take j)) (by rfl) (hown0.alloc _)
                  ⟨wr.heap.size, 0, none⟩ 1 1 [.int .i64 (sat (16 * (za + zb)))] (by rfl) (by rfl) (one_src wr.drew _) (one_one _)
                  Nat.one_pos HMJ.out.1 HMJ.out.2 (by have := HSW.out; simp at *; omega) (wr.heap.size + 1) (by simp) ?_; intro gg cap wz hownz hgrow hat hltz)))
          have HON := Lib.hid (show Own wz w5.heap.size (.slice (some ⟨gg, 0, none⟩) (j + 1) cap) (Z0.take (j + 1)) from by
            rw [HRN.out, HXJ.out]
            exact Own.grew HOL.out hownz)
          have HBN := Lib.hid (HB.out.trans (HBG.out _ _ hgrow))
          clear hownz hgrow hat hltz k0 k1 k2 hown0 y1 y1' y2 y2'
          go_wp2_with (fail)
          rw [IntWalk.wrap64_in ((j : Int) + 1) HWD.out.2.2]
          exact ⟨⟨j + 1, _, cap, rfl, HLT.out, rfl, HON.out, HBN.out⟩, vc_less j d HLT.out⟩
        · have hke : j = d := by omega
          have x0 : ¬ (j : Int) < x.d := by rw [HD.out.2.2]; omega
          have x1 : decide ((j : Int) < x.d) = false := decide_eq_false x0
          rw [hke, List.take_of_length_le (by rw [HSL.out]; exact Nat.le_refl _)] at HO
          rw [hke] at x0 x1
          rw [hke]
          obtain ⟨e0, e1, e2, e3, e4, e5, e6⟩ := Rf.seven HM.out
          have HB6 := Lib.hid (HB5.out.trans (HB.out.mono HB5.out.size))
          have HR6 := Lib.hid (Rf.stays HR5.out HB.out)
          have HX6 := Lib.hid HO.out.kin
          have HM6 := Lib.hid HM.out
          clear hlt hke hj HSA HRAI HRBI HKA5 HKB5 HLA HLB HB HB5 HR5 HM5 HO HM
          generalize wr = w6 at HB6 HR6 HX6 HM6 e0 e1 e2 e3 e4 e5 e6 ⊢
          have HE6 := Lib.hid (heap_alloc_new w6 (.cells #[.slice none 0 0, .slice none 0 0] 42))
          have HC6 := Lib.hid ((Below.refl w6.heap.size w6).alloc (Nat.le_refl _) (.cells #[.slice none 0 0, .slice none 0 0] 42))
          have HX7 := Lib.hid (HX6.out.below HC6.out (Nat.le_refl _))
          go_wp2_with (fail)
          generalize w6.alloc (.cells #[.slice none 0 0, .slice none 0 0] 42) = w7 at HE6 HC6 HX7 ⊢
          go_loopw [14, 17] (fun xv kv wr => ∃ (k : Nat) (KA : Option Addr) (kc : Nat) (VA : Option Addr) (vc : Nat) (KB : Nat → Option Addr) (KC : Nat → Nat) (VB : Nat → Option Addr) (VC : Nat → Nat) (XA : Option Addr) (xc : Nat), kv = .int .i64 (k : Int) ∧ k ≤ bN x ∧ xv = .slice XA d xc ∧ wr.heap[w6.heap.size]? = some (.cells #[.slice KA k kc, .slice VA k vc] 42 (0, 0)) ∧ Mk w6.heap.size (w6.heap.size ≤ ·) wr (.slice KA k kc) (.slice VA k vc) KB KC VB VC (through x s (past Q) Z0 k).1 (through x s (past Q) Z0 k).2.1 ∧ KIn .i64 wr XA (through x s (past Q) Z0 k).2.2 ∧ Ft (offKV (.slice KA k kc) (.slice VA k vc)) XA d ∧ Below w6.heap.size w6 wr) (fun _ kv _ => match kv with | .int _ k => bN x - k.toNat | _ => 0)
          case atStart => exact ⟨0, none, 0, none, 0, fun _ => none, fun _ => 0, fun _ => none, fun _ => 0, G, cg, rfl, Nat.zero_le _, rfl, HE6.out, Mk.start _ _ _ _ _ _ _, HX7.out, fun _ _ _ => ⟨(by intro e; cases e), (by intro e; cases e)⟩, HC6.out⟩
          case round =>
            clear HE6 HC6 HX6 HX7 e0 e1 e2 e3 e4 e5 e6
            obtain ⟨k, KA, kc, VA, vc, KB, KC, VB, VC, XA, xc, rfl, hkb, rfl, hen, hmk, hxk, hxf, hb⟩ := hrel
            have HEN := Lib.hid hen
            have HMK := Lib.hid hmk
            have HXK := Lib.hid hxk
            have HXF := Lib.hid hxf
            have HB := Lib.hid hb
            have HM := Lib.hid (Rf.stays HM6.out hb)
            clear hen hmk hxk hxf hb
            have x2 : 0 ≤ (k : Int) := by omega
            by_cases hlt : k < bN x
            · have x0 : (k : Int) < x.b := by rw [HBV.out.1]; omega
              have x1 : decide ((k : Int) < x.b) = true := decide_eq_true x0
              have HLT := Lib.hid hlt
              have HXB := Lib.hid x0
              obtain ⟨Ks, Vs, z, hT⟩ : ∃ Ks Vs z, through x s (past Q) Z0 k = (Ks, Vs, z) := ⟨_, _, _, rfl⟩
              have hrz := through_row x s (past Q) Z0 (by rw [← HZE.out]; exact startL_row x s _ n) k
              have hrs := through_rows x s (past Q) Z0 k
              have HNXT := Lib.hid (show through x s (past Q) Z0 (k + 1) = (Ks ++ [keyL x s k z], Vs ++ [valL x s k z], blockL x s k (kAt (past Q) k) (vAt (past Q) k) z) from by
                show ((through x s (past Q) Z0 k).1 ++ [_], (through x s (past Q) Z0 k).2.1 ++ [_], _) = _
                rw [hT])
              rw [hT] at HMK HXK hrz hrs
              have HZL := Lib.hid (show z.length = d from (rowB_iff.1 hrz).1.trans HDE.out)
              have HKL := Lib.hid (show Ks.length = k from (rowsB_iff.1 hrs.1).1)
              have HVL := Lib.hid (show Vs.length = k from (rowsB_iff.1 hrs.2).1)
              have HMK' := Lib.hid (show Mk w6.heap.size (w6.heap.size ≤ ·) wr (.slice KA k kc) (.slice VA k vc) KB KC VB VC Ks Vs from HMK.out)
              have HXK' := Lib.hid (show KIn .i64 wr XA z from HXK.out)
              clear hT hrz hrs HMK HXK
              have hgl2 : (gains x s 2 k).length = d := (gains_length HK.out.good (.inl rfl) x0).trans HDE.out
              have HGL2 := Lib.hid hgl2
              have HG2 := Lib.hid (show Calls Tryz.prog 36 #[.agg #[.int .i64 x.v, .int .i64 x.d, .int .i64 x.h, .int .i64 x.b, .int .i64 x.n, .int .i64 x.c, .string s], .int .i64 2, .int .i64 (k : Int)] wr (fun e w' => ∃ A c, e = .returned (.slice A d c) ∧ KIn .i64 w' A (gains x s 2 k) ∧ Below wr.heap.size wr w') from by
                have h1 := ref17_gains wr x s HK.out 2 k (by omega) x0
                unfold RowSays at h1
                rwa [hgl2] at h1)
              obtain ⟨e0, e1, e2, e3, e4, e5, e6⟩ := Rf.seven HM.out
              clear hlt hkb hgl2
              go_wp2_with (fail)
              refine HG2.out.mono ?_
              rintro e w8 ⟨GA, gc, rfl, hga, b8⟩
              have HOF := Lib.hid (show Calls Tryz.prog 35 #[.slice GA d gc, .slice XA d xc] w8 (fun e w' => ∃ A c, e = .returned (.slice A d c) ∧ KIn .i64 w' A (normK x s 2 k z) ∧ d ≤ c ∧ (∀ a, A = some a → w8.heap.size ≤ a.block) ∧ Below w8.heap.size w8 w') from by
                have h1 := ref13_of_same w8 GA gc (gains x s 2 k) XA d xc z HGL2.out HZL.out (by have := HD.out; omega) hga (HXK'.out.below b8 (Nat.le_refl _))
                unfold RowSaysN at h1
                have h2 : (ofL (gains x s 2 k) z).length = d := (normK_length HK.out.good (.inl rfl) HXB.out (HZL.out.trans HDE.out.symm)).trans HDE.out
                rwa [h2] at h1)
              have HB8 := Lib.hid b8
              clear hga b8 HG2 e0 e1 e2 e3 e4 e5 e6
              go_wp2_with (fail)
              refine HOF.out.mono ?_
              rintro e w9 ⟨HA1, hc1, rfl, hh, hhc, hhn, b9⟩
              have HW9 := Lib.hid (HB8.out.trans (b9.mono HB8.out.size))
              have HHL := Lib.hid (show (normK x s 2 k z).length = d from (normK_length HK.out.good (.inl rfl) HXB.out (HZL.out.trans HDE.out.symm)).trans HDE.out)
              have HMK9 := Lib.hid (HMK'.out.step HW9.out)
              have HEN9 := Lib.hid (Rf.stays HEN.out HW9.out)
              have HM9 := Lib.hid (Rf.stays HM.out HW9.out)
              have HXK9 := Lib.hid (HXK'.out.below HW9.out (Nat.le_refl _))
              have HH9 := Lib.hid hh
              have HHF9 := Lib.hid (show Ft (offKV (.slice KA k kc) (.slice VA k vc)) HA1 (normK x s 2 k z).length from fun _ a ha => by
                have h1 := hhn a ha
                have h2 := HB8.out.size
                exact ⟨fun e => by have := (HMK'.out.k.own.lt _ e).2; omega, fun e => by have := (HMK'.out.v.own.lt _ e).2; omega⟩)
              have HXF9 := Lib.hid (show Ft (offKV (.slice KA k kc) (.slice VA k vc)) XA z.length from by rw [HZL.out]; exact HXF.out)
              have HC9 := Lib.hid (HB.out.trans (HW9.out.mono HB.out.size))
              clear hh hhc hhn b9 HOF HW9 HB8 HB HMK' HEN HM HXK' HXF
              have hkeyl : (keyL x s k z).length = d := (rowB_iff.1 (tim_row (x := x) (s := s) (p := 4) (k := k) (v := normK x s 2 k z) (by omega))).1.trans HDE.out
              have hvall : (valL x s k z).length = d := (rowB_iff.1 (tim_row (x := x) (s := s) (p := 5) (k := k) (v := normK x s 2 k z) (by omega))).1.trans HDE.out
              have HKYL := Lib.hid hkeyl
              have HVYL := Lib.hid hvall
              have HMXB := Lib.hid (show k + 1 ≤ maxLen ∧ (k + 1) * 24 ≤ 140737488355328 from by have := HBV.out; have := HLT.out; unfold maxLen; omega)
              have HT4 := Lib.hid (fun W (hW : Below w9.heap.size w9 W) => show Calls Tryz.prog 37 #[.agg #[.int .i64 x.v, .int .i64 x.d, .int .i64 x.h, .int .i64 x.b, .int .i64 x.n, .int .i64 x.c, .string s], .int .i64 4, .int .i64 (k : Int), .slice HA1 d hc1, .int .i64 6] W (fun e w' => ∃ A c, e = .returned (.slice A d c) ∧ KIn .i64 w' A (keyL x s k z) ∧ d ≤ c ∧ (∀ a, A = some a → W.heap.size ≤ a.block) ∧ Below W.heap.size W w') from by
                have h1 := ref17_times W x s HK.out 4 k (by omega) HXB.out HA1 d hc1 (normK x s 2 k z) HHL.out (by have := HD.out; omega) (HH9.out.below hW (Nat.le_refl _))
                unfold RowSaysN at h1
                have h2 : (tim x s 4 k (normK x s 2 k z)).length = d := HKYL.out
                rwa [h2] at h1)
              have HCE := Lib.hid (fun W (hW : Below w9.heap.size w9 W) => show ((W.cell? ⟨w.heap.size, 0, none⟩ = some (.int .i64 x.v) ∧ W.cell? ⟨w.heap.size, 1, none⟩ = some (.int .i64 x.d) ∧ W.cell? ⟨w.heap.size, 2, none⟩ = some (.int .i64 x.h) ∧ W.cell? ⟨w.heap.size, 3, none⟩ = some (.int .i64 x.b) ∧ W.cell? ⟨w.heap.size, 4, none⟩ = some (.int .i64 x.n) ∧ W.cell? ⟨w.heap.size, 5, none⟩ = some (.int .i64 x.c) ∧ W.cell? ⟨w.heap.size, 6, none⟩ = some (.string s)) ∧ W.cell? ⟨w6.heap.size, 0, none⟩ = some (.slice KA k kc)) from ⟨Rf.seven (show W.heap[w.heap.size]? = some (mdO x s) from Rf.stays HM9.out hW), rf0 (Rf.stays HEN9.out hW)⟩)
              have HBM := Lib.hid (show w.heap.size < w6.heap.size from (Array.getElem?_eq_some_iff.1 HM6.out).1)
              have BD9 := Lib.hid (show Below w9.heap.size w9 w9.drew from below_drewN (Below.refl _ _) 1)
              clear hkeyl hvall
              have k0 := HCE.out _ BD9.out
              go_wp2_with (fail)
              -- HANDV 0
              refine wp_region_noPanic ?_
              refine wp_region_heldV (S := (fun W : World => ((W.cell? ⟨w.heap.size, 0, none⟩ = some (.int .i64 x.v) ∧ W.cell? ⟨w.heap.size, 1, none⟩ = some (.int .i64 x.d) ∧ W.cell? ⟨w.heap.size, 2, none⟩ = some (.int .i64 x.h) ∧ W.cell? ⟨w.heap.size, 3, none⟩ = some (.int .i64 x.b) ∧ W.cell? ⟨w.heap.size, 4, none⟩ = some (.int .i64 x.n) ∧ W.cell? ⟨w.heap.size, 5, none⟩ = some (.int .i64 x.c) ∧ W.cell? ⟨w.heap.size, 6, none⟩ = some (.string s)) ∧ W.cell? ⟨w6.heap.size, 0, none⟩ = some (.slice KA k kc)))) 9 (by kernel_rfl) (by kernel_rfl) (by kernel_rfl) (by kernel_rfl) (by decide) k0 (fun hHeld => ?_)
              refine wpAnyV_take (i := 0) (v := .pointer (some ⟨w6.heap.size, 0, none⟩)) 108 rfl rfl (by decide) (by kernel_rfl) (by kernel_rfl) (fun _ _ _ h => h) (Or.inl ⟨by rfl, ?_⟩) hHeld ?_
              · intro W hW
                try dsimp only at hW
                go_simp
              simp only [Act.put, List.setIfInBounds_toArray, List.set_cons_succ, List.set_cons_zero]
              refine wpAnyV_take (i := 1) (v := .slice KA k kc) 109 rfl rfl (by decide) (by kernel_rfl) (by kernel_rfl) (fun _ _ _ h => h) (Or.inl ⟨by rfl, ?_⟩) hHeld ?_
              · intro W hW
                try dsimp only at hW
                go_simp
              simp only [Act.put, List.setIfInBounds_toArray, List.set_cons_succ, List.set_cons_zero]
              refine wpAnyV_take (i := 2) (v := .agg #[.int .i64 x.v, .int .i64 x.d, .int .i64 x.h, .int .i64 x.b, .int .i64 x.n, .int .i64 x.c, .string s]) 110 rfl rfl (by decide) (by kernel_rfl) (by kernel_rfl) (fun _ _ _ h => h) (Or.inl ⟨by rfl, ?_⟩) hHeld ?_
              · intro W hW
                try dsimp only at hW
                go_simp
              simp only [Act.put, List.setIfInBounds_toArray, List.set_cons_succ, List.set_cons_zero]
              refine wpAnyV_take (i := 3) (v := .int .i64 (k : Int)) 111 rfl rfl (by decide) (by kernel_rfl) (by kernel_rfl) (fun _ _ _ h => h) (Or.inl ⟨by rfl, ?_⟩) hHeld ?_
              · intro W hW
                try dsimp only at hW
                go_simp
              simp only [Act.put, List.setIfInBounds_toArray, List.set_cons_succ, List.set_cons_zero]
              refine wpAnyV_take (i := 4) (v := .slice HA1 d hc1) 112 rfl rfl (by decide) (by kernel_rfl) (by kernel_rfl) (fun _ _ _ h => h) (Or.inl ⟨by rfl, ?_⟩) hHeld ?_
              · intro W hW
                try dsimp only at hW
                go_simp
              simp only [Act.put, List.setIfInBounds_toArray, List.set_cons_succ, List.set_cons_zero]
              refine wpAnyV_one (i := 5) (by kernel_rfl) rfl (by decide) (fun K hK => ?_)
              go_simp
              refine (HT4.out _ BD9.out).mono ?_
              rintro e wa ⟨TA, tc, rfl, hta, htc, htn, ba⟩
              have BA := Lib.hid (BD9.out.trans (ba.mono BD9.out.size))
              have HTA := Lib.hid hta
              have HTC := Lib.hid htc
              have HTN2 := Lib.hid (show ∀ a, TA = some a → w9.heap.size ≤ a.block from htn)
              have k5 := HCE.out _ BA.out
              have k6 := HCE.out _ (BA.out.alloc BA.out.size (.cells #[.slice TA d tc] 45))
              clear hta htc htn ba
              refine hK.out _ _ k5 (fun hHeld2 => ?_)
              clear hK K hHeld
              have hHeld := hHeld2
              clear hHeld2
              try simp only [Act.put, List.setIfInBounds_toArray, List.set_cons_succ, List.set_cons_zero]
              refine wpAnyV_one (i := 6) (by kernel_rfl) rfl (by decide) (fun K hK => ?_)
              go_simp
              refine hK.out _ _ k6 (fun hHeld2 => ?_)
              clear hK K hHeld
              have hHeld := hHeld2
              clear hHeld2
              try simp only [Act.put, List.setIfInBounds_toArray, List.set_cons_succ, List.set_cons_zero]
              have HMA := Lib.hid (HMK9.out.step BA.out)
              have HEA := Lib.hid (Rf.stays HEN9.out BA.out)
              have HWA := Lib.hid (show wa.ownsRow w6.heap.size 45 1 (.slice KA k kc) k (lC KB KC Ks) from by have := HMA.out.k.own; rwa [HKL.out] at this)
              have HONE := Lib.hid (one_sl wa (.slice TA d tc) rfl)
              have HCA := Lib.hid (HC9.out.trans (BA.out.mono HC9.out.size))
              refine wpAnyV_one (i := 7) (by kernel_rfl) rfl (by decide) (fun K hK => ?_)
              refine step_append_lies _ (by rfl) _ _ _ (by rfl) w6.heap.size 45 j0 _ 1 24 Tryz.underlying27 HJ.out HY0.out HY1.out HY2.out rfl Nat.one_pos (.slice KA k kc) k _ (by rfl) (HWA.out.alloc _) ⟨wa.heap.size, 0, none⟩ 1 1 [.slice TA d tc] (by rfl) rfl HONE.out.1 HONE.out.2 Nat.one_pos HMXB.out.1 HMXB.out.2 (base_le HCA.out rfl _) _ rfl ?_
              intro g cap wz hown hgrow hat hlt
              have HKY := Lib.hid (HMA.out.keyed (b := w6.heap.size) (l := keyL x s k z) (A := TA) (c := tc) (g := g) (cap := cap) (wz := wz) HEA.out entry_ints HKL.out HTA.out (fun _ a ha => by have h1 := HTN2.out a ha; have h2 := HC9.out.size; exact ⟨by omega, fun e => by have := (HMK9.out.k.own.lt _ e).2; omega, fun e => by have := (HMK9.out.v.own.lt _ e).2; omega⟩) (by rw [HKYL.out]; exact HTC.out) (by rw [HKYL.out]; exact hown) hgrow hat)
              have HCZ := Lib.hid ((HCA.out.alloc HCA.out.size (.cells #[.slice TA d tc] 45)).grown hgrow (by have := HCA.out.size; simp; omega) (fun i hi => (HMA.out.k.own.lt i hi).1))
              have HMZ := Lib.hid (show wz.heap[w.heap.size]? = some (mdO x s) from (HCZ.out.block _ HBM.out).trans HM6.out)
              have k7 : (wz.cell? ⟨w.heap.size, 0, none⟩ = some (.int .i64 x.v) ∧ wz.cell? ⟨w.heap.size, 1, none⟩ = some (.int .i64 x.d) ∧ wz.cell? ⟨w.heap.size, 2, none⟩ = some (.int .i64 x.h) ∧ wz.cell? ⟨w.heap.size, 3, none⟩ = some (.int .i64 x.b) ∧ wz.cell? ⟨w.heap.size, 4, none⟩ = some (.int .i64 x.n) ∧ wz.cell? ⟨w.heap.size, 5, none⟩ = some (.int .i64 x.c) ∧ wz.cell? ⟨w.heap.size, 6, none⟩ = some (.string s)) ∧ wz.cell? ⟨w6.heap.size, 0, none⟩ = some (.slice KA k kc) := ⟨Rf.seven HMZ.out, rf0 HKY.out.1⟩
              have fz := rfFz HKY.out.1 0
              have cz := k7.2
              clear hown hgrow hat hlt
              refine hK.out _ _ k7 (fun hHeld2 => ?_)
              clear hK K hHeld
              have hHeld := hHeld2
              clear hHeld2
              try simp only [Act.put, List.setIfInBounds_toArray]
              refine wpAnyV_take (i := 8) (v := .pointer (some ⟨w6.heap.size, 0, none⟩)) 116 rfl rfl (by decide) (by kernel_rfl) (by kernel_rfl) (fun _ _ _ h => h) (Or.inl ⟨by rfl, ?_⟩) hHeld ?_
              · intro W hW
                try dsimp only at hW
                go_simp
              simp only [Act.put]
              refine wpAnyV_last (by kernel_rfl) rfl (by kernel_rfl) (fun K hK => ?_)
              go_simp
              refine hK.out _ _ ?_
              refine NoPanic.normal ?_
              -- VDNAH 0
              refine gen_post (fun W : World => W.heap[w6.heap.size]? = some (.cells #[.slice (some ⟨g, 0, none⟩) (k + 1) cap, .slice VA k vc] 42 (0, 0)) ∧ Mk w6.heap.size (w6.heap.size ≤ ·) W (.slice (some ⟨g, 0, none⟩) (k + 1) cap) (.slice VA k vc) (updF KB k TA) (updF KC k tc) VB VC (Ks ++ [keyL x s k z]) Vs ∧ (KIn .i64 W XA z ∧ Ft (offKV (.slice (some ⟨g, 0, none⟩) (k + 1) cap) (.slice VA k vc)) XA z.length) ∧ (KIn .i64 W HA1 (normK x s 2 k z) ∧ Ft (offKV (.slice (some ⟨g, 0, none⟩) (k + 1) cap) (.slice VA k vc)) HA1 (normK x s 2 k z).length) ∧ Below w6.heap.size w6 W ∧ W.heap[w.heap.size]? = some (mdO x s)) ?_ ?_
              · exact ⟨HKY.out.2.1, HKY.out.2.2.1, HKY.out.2.2.2 _ _ (HXK9.out.below BA.out (Nat.le_refl _)) HXF9.out, HKY.out.2.2.2 _ _ (HH9.out.below BA.out (Nat.le_refl _)) HHF9.out, HCZ.out.setCell (Nat.le_refl _) _, (heap_setCell_other wz ⟨w6.heap.size, 0, none⟩ _ _ (Nat.ne_of_lt HBM.out)).trans HMZ.out⟩
              clear k0 k5 k6 k7 fz cz HKY HCZ HMZ HCA HONE HWA HEA HMA HTN2 BA BD9 HCE HT4 HMK9 HEN9 HM9 HXK9 HH9 HHF9 HXF9 HC9 hHeld
              rintro w10 ⟨u1, u2, ⟨u3, u4⟩, ⟨u5, u6⟩, u7, u8⟩
              have HEN10 := Lib.hid u1
              have HMK10 := Lib.hid u2
              have HXK10 := Lib.hid u3
              have HXF10 := Lib.hid u4
              have HH10 := Lib.hid u5
              have HHF10 := Lib.hid u6
              have HC10 := Lib.hid u7
              have HM10 := Lib.hid u8
              clear u1 u2 u3 u4 u5 u6 u7 u8
              have HT5 := Lib.hid (fun W (hW : Below w10.heap.size w10 W) => show Calls Tryz.prog 37 #[.agg #[.int .i64 x.v, .int .i64 x.d, .int .i64 x.h, .int .i64 x.b, .int .i64 x.n, .int .i64 x.c, .string s], .int .i64 5, .int .i64 (k : Int), .slice HA1 d hc1, .int .i64 6] W (fun e w' => ∃ A c, e = .returned (.slice A d c) ∧ KIn .i64 w' A (valL x s k z) ∧ d ≤ c ∧ (∀ a, A = some a → W.heap.size ≤ a.block) ∧ Below W.heap.size W w') from by
                have h1 := ref17_times W x s HK.out 5 k (by omega) HXB.out HA1 d hc1 (normK x s 2 k z) HHL.out (by have := HD.out; omega) (HH10.out.below hW (Nat.le_refl _))
                unfold RowSaysN at h1
                have h2 : (tim x s 5 k (normK x s 2 k z)).length = d := HVYL.out
                rwa [h2] at h1)
              have HCF := Lib.hid (fun W (hW : Below w10.heap.size w10 W) => show ((W.cell? ⟨w.heap.size, 0, none⟩ = some (.int .i64 x.v) ∧ W.cell? ⟨w.heap.size, 1, none⟩ = some (.int .i64 x.d) ∧ W.cell? ⟨w.heap.size, 2, none⟩ = some (.int .i64 x.h) ∧ W.cell? ⟨w.heap.size, 3, none⟩ = some (.int .i64 x.b) ∧ W.cell? ⟨w.heap.size, 4, none⟩ = some (.int .i64 x.n) ∧ W.cell? ⟨w.heap.size, 5, none⟩ = some (.int .i64 x.c) ∧ W.cell? ⟨w.heap.size, 6, none⟩ = some (.string s)) ∧ W.cell? ⟨w6.heap.size, 1, none⟩ = some (.slice VA k vc)) from ⟨Rf.seven (show W.heap[w.heap.size]? = some (mdO x s) from Rf.stays HM10.out hW), rf1 (Rf.stays HEN10.out hW)⟩)
              have BD10 := Lib.hid (show Below w10.heap.size w10 w10.drew from below_drewN (Below.refl _ _) 1)
              have k0 := HCF.out _ BD10.out
              go_wp2_with (fail)
              -- HANDV 1
              refine wp_region_noPanic ?_
              refine wp_region_heldV (S := (fun W : World => ((W.cell? ⟨w.heap.size, 0, none⟩ = some (.int .i64 x.v) ∧ W.cell? ⟨w.heap.size, 1, none⟩ = some (.int .i64 x.d) ∧ W.cell? ⟨w.heap.size, 2, none⟩ = some (.int .i64 x.h) ∧ W.cell? ⟨w.heap.size, 3, none⟩ = some (.int .i64 x.b) ∧ W.cell? ⟨w.heap.size, 4, none⟩ = some (.int .i64 x.n) ∧ W.cell? ⟨w.heap.size, 5, none⟩ = some (.int .i64 x.c) ∧ W.cell? ⟨w.heap.size, 6, none⟩ = some (.string s)) ∧ W.cell? ⟨w6.heap.size, 1, none⟩ = some (.slice VA k vc)))) 9 (by kernel_rfl) (by kernel_rfl) (by kernel_rfl) (by kernel_rfl) (by decide) k0 (fun hHeld => ?_)
              refine wpAnyV_take (i := 0) (v := .pointer (some ⟨w6.heap.size, 1, none⟩)) 117 rfl rfl (by decide) (by kernel_rfl) (by kernel_rfl) (fun _ _ _ h => h) (Or.inl ⟨by rfl, ?_⟩) hHeld ?_
              · intro W hW
                try dsimp only at hW
                go_simp
              simp only [Act.put]
              refine wpAnyV_take (i := 1) (v := .slice VA k vc) 118 rfl rfl (by decide) (by kernel_rfl) (by kernel_rfl) (fun _ _ _ h => h) (Or.inl ⟨by rfl, ?_⟩) hHeld ?_
              · intro W hW
                try dsimp only at hW
                go_simp
              simp only [Act.put]
              refine wpAnyV_take (i := 2) (v := .agg #[.int .i64 x.v, .int .i64 x.d, .int .i64 x.h, .int .i64 x.b, .int .i64 x.n, .int .i64 x.c, .string s]) 119 rfl rfl (by decide) (by kernel_rfl) (by kernel_rfl) (fun _ _ _ h => h) (Or.inl ⟨by rfl, ?_⟩) hHeld ?_
              · intro W hW
                try dsimp only at hW
                go_simp
              simp only [Act.put]
              refine wpAnyV_take (i := 3) (v := .int .i64 (k : Int)) 120 rfl rfl (by decide) (by kernel_rfl) (by kernel_rfl) (fun _ _ _ h => h) (Or.inl ⟨by rfl, ?_⟩) hHeld ?_
              · intro W hW
                try dsimp only at hW
                go_simp
              simp only [Act.put]
              refine wpAnyV_take (i := 4) (v := .slice HA1 d hc1) 121 rfl rfl (by decide) (by kernel_rfl) (by kernel_rfl) (fun _ _ _ h => h) (Or.inl ⟨by rfl, ?_⟩) hHeld ?_
              · intro W hW
                try dsimp only at hW
                go_simp
              simp only [Act.put]
              refine wpAnyV_one (i := 5) (by kernel_rfl) rfl (by decide) (fun K hK => ?_)
              go_simp
              refine (HT5.out _ BD10.out).mono ?_
              rintro e wb ⟨TB, td, rfl, hta, htc, htn, ba⟩
              have BB := Lib.hid (BD10.out.trans (ba.mono BD10.out.size))
              have HTB := Lib.hid hta
              have HTD := Lib.hid htc
              have HTN3 := Lib.hid (show ∀ a, TB = some a → w10.heap.size ≤ a.block from htn)
              have k5 := HCF.out _ BB.out
              have k6 := HCF.out _ (BB.out.alloc BB.out.size (.cells #[.slice TB d td] 45))
              clear hta htc htn ba
              refine hK.out _ _ k5 (fun hHeld2 => ?_)
              clear hK K hHeld
              have hHeld := hHeld2
              clear hHeld2
              try simp only [Act.put]
              refine wpAnyV_one (i := 6) (by kernel_rfl) rfl (by decide) (fun K hK => ?_)
              go_simp
              refine hK.out _ _ k6 (fun hHeld2 => ?_)
              clear hK K hHeld
              have hHeld := hHeld2
              clear hHeld2
              try simp only [Act.put]
              have HMB := Lib.hid (HMK10.out.step BB.out)
              have HEB := Lib.hid (Rf.stays HEN10.out BB.out)
              have HWB := Lib.hid (show wb.ownsRow w6.heap.size 45 1 (.slice VA k vc) k (lC VB VC Vs) from by have := HMB.out.v.own; rwa [HVL.out] at this)
              have HONF := Lib.hid (one_sl wb (.slice TB d td) rfl)
              have HCB := Lib.hid (HC10.out.trans (BB.out.mono HC10.out.size))
              refine wpAnyV_one (i := 7) (by kernel_rfl) rfl (by decide) (fun K hK => ?_)
              refine step_append_lies _ (by rfl) _ _ _ (by rfl) w6.heap.size 45 j0 _ 1 24 Tryz.underlying27 HJ.out HY0.out HY1.out HY2.out rfl Nat.one_pos (.slice VA k vc) k _ (by rfl) (HWB.out.alloc _) ⟨wb.heap.size, 0, none⟩ 1 1 [.slice TB d td] (by rfl) rfl HONF.out.1 HONF.out.2 Nat.one_pos HMXB.out.1 HMXB.out.2 (base_le HCB.out rfl _) _ rfl ?_
              intro g2 cap2 wz2 hown hgrow hat hlt
              have HVY := Lib.hid (HMB.out.valued (b := w6.heap.size) (l := valL x s k z) (A := TB) (c := td) (g := g2) (cap := cap2) (wz := wz2) HEB.out entry_ints HVL.out HTB.out (fun _ a ha => by have h1 := HTN3.out a ha; have h2 := HC10.out.size; exact ⟨by omega, fun e => by have := (HMK10.out.k.own.lt _ e).2; omega, fun e => by have := (HMK10.out.v.own.lt _ e).2; omega⟩) (by rw [HVYL.out]; exact HTD.out) (by rw [HVYL.out]; exact hown) hgrow hat)
              have HCZ2 := Lib.hid ((HCB.out.alloc HCB.out.size (.cells #[.slice TB d td] 45)).grown hgrow (by have := HCB.out.size; simp; omega) (fun i hi => (HMB.out.v.own.lt i hi).1))
              have HMZ2 := Lib.hid (show wz2.heap[w.heap.size]? = some (mdO x s) from (HCZ2.out.block _ HBM.out).trans HM6.out)
              have k7 : (wz2.cell? ⟨w.heap.size, 0, none⟩ = some (.int .i64 x.v) ∧ wz2.cell? ⟨w.heap.size, 1, none⟩ = some (.int .i64 x.d) ∧ wz2.cell? ⟨w.heap.size, 2, none⟩ = some (.int .i64 x.h) ∧ wz2.cell? ⟨w.heap.size, 3, none⟩ = some (.int .i64 x.b) ∧ wz2.cell? ⟨w.heap.size, 4, none⟩ = some (.int .i64 x.n) ∧ wz2.cell? ⟨w.heap.size, 5, none⟩ = some (.int .i64 x.c) ∧ wz2.cell? ⟨w.heap.size, 6, none⟩ = some (.string s)) ∧ wz2.cell? ⟨w6.heap.size, 1, none⟩ = some (.slice VA k vc) := ⟨Rf.seven HMZ2.out, rf1 HVY.out.1⟩
              have fz := rfFz HVY.out.1 1
              have cz := k7.2
              clear hown hgrow hat hlt
              refine hK.out _ _ k7 (fun hHeld2 => ?_)
              clear hK K hHeld
              have hHeld := hHeld2
              clear hHeld2
              try simp only [Act.put, List.setIfInBounds_toArray]
              refine wpAnyV_take (i := 8) (v := .pointer (some ⟨w6.heap.size, 1, none⟩)) 125 rfl rfl (by decide) (by kernel_rfl) (by kernel_rfl) (fun _ _ _ h => h) (Or.inl ⟨by rfl, ?_⟩) hHeld ?_
              · intro W hW
                try dsimp only at hW
                go_simp
              simp only [Act.put]
              refine wpAnyV_last (by kernel_rfl) rfl (by kernel_rfl) (fun K hK => ?_)
              go_simp
              refine hK.out _ _ ?_
              refine NoPanic.normal ?_
              -- VDNAH 1
              refine gen_post (fun W : World => W.heap[w6.heap.size]? = some (.cells #[.slice (some ⟨g, 0, none⟩) (k + 1) cap, .slice (some ⟨g2, 0, none⟩) (k + 1) cap2] 42 (0, 0)) ∧ Mk w6.heap.size (w6.heap.size ≤ ·) W (.slice (some ⟨g, 0, none⟩) (k + 1) cap) (.slice (some ⟨g2, 0, none⟩) (k + 1) cap2) (updF KB k TA) (updF KC k tc) (updF VB k TB) (updF VC k td) (Ks ++ [keyL x s k z]) (Vs ++ [valL x s k z]) ∧ (KIn .i64 W XA z ∧ Ft (offKV (.slice (some ⟨g, 0, none⟩) (k + 1) cap) (.slice (some ⟨g2, 0, none⟩) (k + 1) cap2)) XA z.length) ∧ KIn .i64 W HA1 (normK x s 2 k z) ∧ Below w6.heap.size w6 W ∧ W.heap[w.heap.size]? = some (mdO x s)) ?_ ?_
              · exact ⟨HVY.out.2.1, HVY.out.2.2.1, HVY.out.2.2.2 _ _ (HXK10.out.below BB.out (Nat.le_refl _)) HXF10.out, (HVY.out.2.2.2 _ _ (HH10.out.below BB.out (Nat.le_refl _)) HHF10.out).1, HCZ2.out.setCell (Nat.le_refl _) _, (heap_setCell_other wz2 ⟨w6.heap.size, 1, none⟩ _ _ (Nat.ne_of_lt HBM.out)).trans HMZ2.out⟩
              clear k0 k5 k6 k7 fz cz HVY HCZ2 HMZ2 HCB HONF HWB HEB HMB HTN3 BB BD10 HCF HT5 HMK10 HEN10 HM10 HXK10 HH10 HHF10 HXF10 HC10 hHeld HTA HTB
              rintro w11 ⟨u1, u2, ⟨u3, u4⟩, u5, u7, u8⟩
              have HEN := Lib.hid u1
              have HMK := Lib.hid u2
              have HXK := Lib.hid u3
              have HXF := Lib.hid u4
              have HH := Lib.hid u5
              have HC := Lib.hid u7
              have HM := Lib.hid u8
              clear u1 u2 u3 u4 u5 u7 u8
              have HW11 := Lib.hid (HB6.out.trans (HC.out.mono HB6.out.size))
              have HKPL := Lib.hid (show (kAt (past Q) k).length = n ∧ (vAt (past Q) k).length = n from by rw [(kAt_len Q k).1, (kAt_len Q k).2]; exact ⟨HQ.out, HQ.out⟩)
              have HKPA := Lib.hid (fun j (hj : j < n) => kAt_at Q k (j := j) (by rw [HQ.out]; exact hj))
              have hsn : seenL x s k (kAt (past Q) k) (vAt (past Q) k) z = lookL (hN x) (nH x) (tim x s 3 k (normK x s 2 k z)) (kAt (past Q) k ++ [keyL x s k z]) (vAt (past Q) k ++ [valL x s k z]) := rfl
              have HSN := Lib.hid hsn
              obtain ⟨KP, hKP⟩ : ∃ KP, kAt (past Q) k = KP := ⟨_, rfl⟩
              obtain ⟨VP, hVP⟩ : ∃ VP, vAt (past Q) k = VP := ⟨_, rfl⟩
              rw [hKP, hVP] at HKPL HSN HNXT
              rw [hKP, hVP] at HKPA
              clear hKP hVP hsn
              go_wp2_with (refine wpList_buildNone rfl 27 45 rfl j0 Tryz.underlying27 HJ.out ?_)
              have HKV0 := Lib.hid (show Mk w11.heap.size (fun _ => True) ((w11.alloc (.cells #[] 45)).alloc (.cells #[] 45)) (.slice (some ⟨w11.heap.size, 0, none⟩) 0 0) (.slice (some ⟨w11.heap.size + 1, 0, none⟩) 0 0) (fun _ => none) (fun _ => 0) (fun _ => none) (fun _ => 0) [] [] from by
                refine ⟨(GL.new _ _ _ w11 (Nat.le_refl _)).step ((Below.refl _ _).alloc (Nat.le_refl _) _), ?_, fun j hj e => ?_⟩
                · have := GL.new (N := w11.heap.size) (fun j => True ∧ (Value.slice (some ⟨w11.heap.size, 0, none⟩) 0 0).ownBlock ≠ some j) (fun _ => none) (fun _ => 0) (w11.alloc (.cells #[] 45)) (by simp)
                  rwa [World.size_alloc] at this
                · have h1 : w11.heap.size = j := Option.some.inj hj
                  have h2 : w11.heap.size + 1 = j := Option.some.inj e
                  omega)
              have HC0 := Lib.hid (((Below.refl w11.heap.size w11).alloc (Nat.le_refl _) (.cells #[] 45)).alloc (by simp) (.cells #[] 45))
              go_loopw [19, 20, 21] (fun sv mv jv wr => ∃ (j : Nat) (A1 : Option Addr) (c1 : Nat) (A2 : Option Addr) (c2 : Nat) (B1 : Nat → Option Addr) (C1 : Nat → Nat) (B2 : Nat → Option Addr) (C2 : Nat → Nat), jv = .int .i64 (j : Int) ∧ j ≤ n ∧ sv = .slice A1 j c1 ∧ mv = .slice A2 j c2 ∧ Mk w11.heap.size (fun _ => True) wr sv mv B1 C1 B2 C2 (KP.take j) (VP.take j) ∧ Below w11.heap.size w11 wr) (fun _ _ jv _ => match jv with | .int _ k => n - k.toNat | _ => 0)
              case atStart => exact ⟨0, _, 0, _, 0, _, _, _, _, rfl, Nat.zero_le _, rfl, rfl, HKV0.out, HC0.out⟩
              case round =>
                clear HKV0 HC0
                obtain ⟨j, A1, c1, A2, c2, B1, C1, B2, C2, rfl, hj, rfl, rfl, hkv, hb⟩ := hrel
                have HKV := Lib.hid hkv
                have HB := Lib.hid hb
                have HWR := Lib.hid (HW11.out.trans (hb.mono HW11.out.size))
                clear hkv hb
                have x2 : 0 ≤ (j : Int) := by omega
                by_cases hlt : j < n
                · have x0 : (j : Int) < (n : Int) := by omega
                  have x1 : decide ((j : Int) < (n : Int)) = true := decide_eq_true x0
                  have HLT2 := Lib.hid hlt
                  have hgq := getD_some (Q := Q) (j := j) (by rw [HQ.out]; exact hlt)
                  obtain ⟨pb, po, hAe, q0, q1⟩ := HA.out.row.cell hgq
                  have hqb : pb < w.heap.size := block_lt_of_cell q0
                  obtain ⟨pk, ok, pv, ov, hka, hva, ⟨hkl, hvl⟩, hck, hcv, hkk, hkv, ⟨hl1, hl2⟩, hm1, hm2⟩ := ent_row (HA.out.all _ (List.mem_of_getElem? hgq)) (HGA.out j hlt) HLT.out
                  rw [hka, hkl] at q0
                  rw [hva, hvl] at q1
                  rw [← (HKPA.out j hlt).1] at hkk hl1
                  rw [← (HKPA.out j hlt).2] at hkv hl2
                  generalize (Q.getD j noQ).1.kB k = kb1 at hck hkk
                  generalize (Q.getD j noQ).1.kC k = kc1 at hck hm1
                  generalize (Q.getD j noQ).1.vB k = vb1 at hcv hkv
                  generalize (Q.getD j noQ).1.vC k = vc1 at hcv hm2
                  generalize (Q.getD j noQ).1.kc = kq1 at q0
                  generalize (Q.getD j noQ).1.vc = vq1 at q1
                  rw [HDE.out] at hck hcv hl1 hl2 hm1 hm2
                  subst hAe
                  have hpk : pk < w.heap.size := block_lt_of_cell hck
                  have hpv : pv < w.heap.size := block_lt_of_cell hcv
                  have HCC := Lib.hid (fun W (hW : Below w11.heap.size w11 W) => show W.cell? ⟨pb, po + j * 2, none⟩ = some (.slice (some ⟨pk, ok, none⟩) (bN x) kq1) ∧ W.cell? ⟨pb, po + j * 2 + 1, none⟩ = some (.slice (some ⟨pv, ov, none⟩) (bN x) vq1) ∧ W.cell? ⟨pk, ok + k, none⟩ = some (.slice kb1 d kc1) ∧ W.cell? ⟨pv, ov + k, none⟩ = some (.slice vb1 d vc1) from by
                    have hB := HW11.out.trans (hW.mono HW11.out.size)
                    exact ⟨hb0c4 hB q0, hb0c4 hB q1, hb0c4 hB hck, hb0c4 hB hcv⟩)
                  have HKK := Lib.hid (fun W (hW : Below w11.heap.size w11 W) => show KIn .i64 W kb1 (KP.getD j []) ∧ KIn .i64 W vb1 (VP.getD j []) from by
                    have hB := HW11.out.trans (hW.mono HW11.out.size)
                    exact ⟨hkk.below hB (Nat.le_refl _), hkv.below hB (Nat.le_refl _)⟩)
                  have HLOW := Lib.hid (show (0 < (KP.getD j []).length → ∀ a, kb1 = some a → a.block < w.heap.size) ∧ (0 < (VP.getD j []).length → ∀ a, vb1 = some a → a.block < w.heap.size) from ⟨fun h0 a ha => KIn.low hkk h0 a ha, fun h0 a ha => KIn.low hkv h0 a ha⟩)
                  have HLL := Lib.hid (show (KP.getD j []).length = d ∧ (VP.getD j []).length = d ∧ d ≤ kc1 ∧ d ≤ vc1 from ⟨hl1, hl2, hm1, hm2⟩)
                  have HTK := Lib.hid (take_moreL KP j (by rw [HKPL.out.1]; exact hlt))
                  have HTV := Lib.hid (take_moreL VP j (by rw [HKPL.out.2]; exact hlt))
                  have HOK := Lib.hid (show (KP.take j).length = j by rw [List.length_take, HKPL.out.1]; omega)
                  have HOV := Lib.hid (show (VP.take j).length = j by rw [List.length_take, HKPL.out.2]; omega)
                  have HMX := Lib.hid (show j + 1 ≤ maxLen ∧ (j + 1) * 24 ≤ 140737488355328 ∧ (-9223372036854775808 ≤ (j : Int) + 1 ∧ (j : Int) + 1 ≤ 9223372036854775807) from by have := HN.out; unfold maxLen; omega)
                  generalize KP.getD j [] = kl at HKK HLOW HLL HTK
                  generalize VP.getD j [] = vl at HKK HLOW HLL HTV
                  have y1 : (k : Int) < (bN x : Int) := by have := HLT.out; omega
                  have y2 : 0 ≤ (k : Int) := by omega
                  have HWK := Lib.hid (show wr.ownsRow w11.heap.size 45 1 (.slice A1 j c1) j (lC B1 C1 (KP.take j)) from by have := HKV.out.k.own; rwa [HOK.out] at this)
                  have HONK := Lib.hid (one_sl wr (.slice kb1 d kc1) rfl)
                  obtain ⟨z1, z2, z3, z4⟩ := HCC.out wr HB.out
                  clear hlt hj hgq q0 q1 hqb hka hva hkl hvl hck hcv hkk hkv hl1 hl2 hm1 hm2 hpk hpv
                  go_upto_region 30 with (at_builtin; refine wpList_append_lies _ rfl (.tmp 134) (.tmp 143) 27 rfl w11.heap.size 45 j0 _ 1 24 Tryz.underlying27 HJ.out HY0.out HY1.out HY2.out rfl Nat.one_pos (.slice A1 j c1) j _ rfl (HWK.out.alloc _) ⟨wr.heap.size, 0, none⟩ 1 1 [.slice kb1 d kc1] rfl rfl HONK.out.1 HONK.out.2 Nat.one_pos HMX.out.1 HMX.out.2.1 (base_le HB.out rfl _) _ rfl ?_; intro g3 cap3 wy hown3 hgrow3 hat3 hlt3)
                  have HKVY := Lib.hid (show Mk w11.heap.size (fun _ => True) wy (.slice (some ⟨g3, 0, none⟩) (j + 1) cap3) (.slice A2 j c2) (updF B1 j kb1) (updF C1 j kc1) B2 C2 (KP.take (j + 1)) (VP.take j) from by
                    rw [HTK.out]
                    exact HKV.out.addK HOK.out (HKK.out wr HB.out).1 (fun h0 a ha => ⟨trivial, fun e => by have := (HKV.out.k.own.lt _ e).1; have := HLOW.out.1 h0 a ha; have := HW11.out.size; omega, fun e => by have := (HKV.out.v.own.lt _ e).1; have := HLOW.out.1 h0 a ha; have := HW11.out.size; omega⟩) (by rw [HLL.out.1]; exact HLL.out.2.2.1) (by rw [HLL.out.1]; exact hown3) hgrow3 hat3)
                  have HBY := Lib.hid ((HB.out.alloc HB.out.size (.cells #[.slice kb1 d kc1] 45)).grown hgrow3 (by have := HB.out.size; simp; omega) (fun i hi => (HKV.out.k.own.lt i hi).1))
                  have HWV := Lib.hid (show wy.ownsRow w11.heap.size 45 1 (.slice A2 j c2) j (lC B2 C2 (VP.take j)) from by have := HKVY.out.v.own; rwa [HOV.out] at this)
                  have HONV := Lib.hid (one_sl wy (.slice vb1 d vc1) rfl)
                  clear z1 z2 z3 z4 hown3 hgrow3 hat3 hlt3
                  obtain ⟨z1, z2, z3, z4⟩ := HCC.out wy HBY.out
                  go_wp2_with (at_builtin; refine wpList_append_lies _ rfl (.tmp 145) (.tmp 154) 27 rfl w11.heap.size 45 j0 _ 1 24 Tryz.underlying27 HJ.out HY0.out HY1.out HY2.out rfl Nat.one_pos (.slice A2 j c2) j _ rfl (HWV.out.alloc _) ⟨wy.heap.size, 0, none⟩ 1 1 [.slice vb1 d vc1] rfl rfl HONV.out.1 HONV.out.2 Nat.one_pos HMX.out.1 HMX.out.2.1 (base_le HBY.out rfl _) _ rfl ?_; intro g4 cap4 wx hown4 hgrow4 hat4 hlt4)
                  have HKVX := Lib.hid (show Mk w11.heap.size (fun _ => True) wx (.slice (some ⟨g3, 0, none⟩) (j + 1) cap3) (.slice (some ⟨g4, 0, none⟩) (j + 1) cap4) (updF B1 j kb1) (updF C1 j kc1) (updF B2 j vb1) (updF C2 j vc1) (KP.take (j + 1)) (VP.take (j + 1)) from by
                    rw [HTV.out]
                    exact HKVY.out.addV HOV.out (HKK.out wy HBY.out).2 (fun h0 a ha => ⟨trivial, fun e => by have := (HKVY.out.k.own.lt _ e).1; have := HLOW.out.2 h0 a ha; have := HW11.out.size; omega, fun e => by have := (HKVY.out.v.own.lt _ e).1; have := HLOW.out.2 h0 a ha; have := HW11.out.size; omega⟩) (by rw [HLL.out.2.1]; exact HLL.out.2.2.2) (by rw [HLL.out.2.1]; exact hown4) hgrow4 hat4)
                  have HBX := Lib.hid ((HBY.out.alloc HBY.out.size (.cells #[.slice vb1 d vc1] 45)).grown hgrow4 (by have := HBY.out.size; simp; omega) (fun i hi => (HKVY.out.v.own.lt i hi).1))
                  clear z1 z2 z3 z4 hown4 hgrow4 hat4 hlt4
                  rw [IntWalk.wrap64_in ((j : Int) + 1) HMX.out.2.2]
                  exact ⟨⟨j + 1, _, cap3, _, cap4, _, _, _, _, rfl, HLT2.out, rfl, rfl, HKVX.out, HBX.out⟩, vc_less j n HLT2.out⟩
                · have hke : j = n := by omega
                  have x0 : ¬ (j : Int) < (n : Int) := by omega
                  have x1 : decide ((j : Int) < (n : Int)) = false := decide_eq_false x0
                  rw [hke] at x0 x1
                  rw [hke, List.take_of_length_le (by rw [HKPL.out.1]; exact Nat.le_refl _), List.take_of_length_le (by rw [HKPL.out.2]; exact Nat.le_refl _)] at HKV
                  rw [hke]
                  clear hlt hke hj
                  generalize wr = w12 at HKV HB HWR ⊢
                  go_upto_region 31 with (fail)
                  have HBD := Lib.hid (show Below w11.heap.size w11 w12.drew from below_drewN HB.out 1)
                  have HK0 := Lib.hid (show k < (Ks ++ [keyL x s k z]).length ∧ (Ks ++ [keyL x s k z]).getD k [] = keyL x s k z from ⟨by rw [List.length_append, HKL.out]; simp, by rw [List.getD_eq_getElem?_getD, List.getElem?_append_right (by rw [HKL.out]; exact Nat.le_refl _), HKL.out, Nat.sub_self]; rfl⟩)
                  have HV0 := Lib.hid (show k < (Vs ++ [valL x s k z]).length ∧ (Vs ++ [valL x s k z]).getD k [] = valL x s k z from ⟨by rw [List.length_append, HVL.out]; simp, by rw [List.getD_eq_getElem?_getD, List.getElem?_append_right (by rw [HVL.out]; exact Nat.le_refl _), HVL.out, Nat.sub_self]; rfl⟩)
                  have HCK := Lib.hid (show w11.cell? ⟨g, k, none⟩ = some (.slice TA d tc) ∧ KIn .i64 w11 TA (keyL x s k z) ∧ d ≤ tc from by
                    obtain ⟨pp, oo, e, c1, k1⟩ := HMK.out.k.lon.is.at HK0.out.1
                    have h1 := HMK.out.k.cap k HK0.out.1
                    rw [HK0.out.2, updF_same] at c1 k1
                    rw [HK0.out.2, updF_same, HKYL.out] at h1
                    rw [HKYL.out, updF_same] at c1
                    injection e with e
                    injection e with e1 e2 e3
                    subst e1
                    subst e2
                    rw [Nat.zero_add] at c1
                    exact ⟨c1, k1, h1⟩)
                  have HCV := Lib.hid (show w11.cell? ⟨g2, k, none⟩ = some (.slice TB d td) ∧ KIn .i64 w11 TB (valL x s k z) ∧ d ≤ td from by
                    obtain ⟨pp, oo, e, c1, k1⟩ := HMK.out.v.lon.is.at HV0.out.1
                    have h1 := HMK.out.v.cap k HV0.out.1
                    rw [HV0.out.2, updF_same] at c1 k1
                    rw [HV0.out.2, updF_same, HVYL.out] at h1
                    rw [HVYL.out, updF_same] at c1
                    injection e with e
                    injection e with e1 e2 e3
                    subst e1
                    subst e2
                    rw [Nat.zero_add] at c1
                    exact ⟨c1, k1, h1⟩)
                  have HLEN := Lib.hid (show (seenL x s k KP VP z).length = d from by rw [HSN.out, lookL_length, heads HK.out.good, HDE.out])
                  have HQL := Lib.hid (show (tim x s 3 k (normK x s 2 k z)).length = d from (rowB_iff.1 (tim_row (x := x) (s := s) (p := 3) (k := k) (v := normK x s 2 k z) (by omega))).1.trans HDE.out)
                  have HTQ := Lib.hid (fun W (hW : Below w11.heap.size w11 W) => show Calls Tryz.prog 37 #[.agg #[.int .i64 x.v, .int .i64 x.d, .int .i64 x.h, .int .i64 x.b, .int .i64 x.n, .int .i64 x.c, .string s], .int .i64 3, .int .i64 (k : Int), .slice HA1 d hc1, .int .i64 6] W (fun e w' => ∃ A c, e = .returned (.slice A d c) ∧ KIn .i64 w' A (tim x s 3 k (normK x s 2 k z)) ∧ d ≤ c ∧ (∀ a, A = some a → W.heap.size ≤ a.block) ∧ Below W.heap.size W w') from by
                    have h1 := ref17_times W x s HK.out 3 k (by omega) HXB.out HA1 d hc1 (normK x s 2 k z) HHL.out (by have := HD.out; omega) (HH.out.below hW (Nat.le_refl _))
                    unfold RowSaysN at h1
                    have h2 : (tim x s 3 k (normK x s 2 k z)).length = d := HQL.out
                    rwa [h2] at h1)
                  have HSS := Lib.hid (fun W (hW : Below w11.heap.size w11 W) => show ((W.cell? ⟨w.heap.size, 0, none⟩ = some (.int .i64 x.v) ∧ W.cell? ⟨w.heap.size, 1, none⟩ = some (.int .i64 x.d) ∧ W.cell? ⟨w.heap.size, 2, none⟩ = some (.int .i64 x.h) ∧ W.cell? ⟨w.heap.size, 3, none⟩ = some (.int .i64 x.b) ∧ W.cell? ⟨w.heap.size, 4, none⟩ = some (.int .i64 x.n) ∧ W.cell? ⟨w.heap.size, 5, none⟩ = some (.int .i64 x.c) ∧ W.cell? ⟨w.heap.size, 6, none⟩ = some (.string s)) ∧ (W.cell? ⟨w6.heap.size, 0, none⟩ = some (.slice (some ⟨g, 0, none⟩) (k + 1) cap) ∧ W.cell? ⟨w6.heap.size, 1, none⟩ = some (.slice (some ⟨g2, 0, none⟩) (k + 1) cap2)) ∧ W.cell? ⟨g, k, none⟩ = some (.slice TA d tc) ∧ W.cell? ⟨g2, k, none⟩ = some (.slice TB d td)) from
                    ⟨Rf.seven (show W.heap[w.heap.size]? = some (mdO x s) from Rf.stays HM.out hW), ⟨rf0 (Rf.stays HEN.out hW), rf1 (Rf.stays HEN.out hW)⟩, (hW.cell (block_lt_of_cell HCK.out.1)).trans HCK.out.1, (hW.cell (block_lt_of_cell HCV.out.1)).trans HCV.out.1⟩)
                  have HLK := Lib.hid (show KP.length = n ∧ VP.length = n from HKPL.out)
                  have HWK := Lib.hid (show ∀ W, Below w12.heap.size w12 W → W.ownsRow w11.heap.size 45 1 (.slice A1 n c1) n (lC B1 C1 KP) from fun W hW => by have := (HKV.out.step hW).k.own; rwa [HLK.out.1] at this)
                  have k0 := HSS.out _ HBD.out
                  have y1 : (k : Int) < ((k + 1 : Nat) : Int) := by omega
                  have y3 : (k : Int) < (k : Int) + 1 := by omega
                  have y2 : 0 ≤ (k : Int) := by omega
                  have HB00 := Lib.hid (Below.refl w12.heap.size w12)
                  have HB0 := Lib.hid (show Below w12.heap.size w12 w12.drew from below_drewN (Below.refl _ _) 1)
                  have HMN := Lib.hid (show n + 1 ≤ maxLen ∧ (n + 1) * 24 ≤ 140737488355328 from by have := HN.out; unfold maxLen; omega)
                  have HFA := Lib.hid (show Ft (fun j => True ∧ offKV (.slice A1 n c1) (.slice A2 n c2) j) TA (keyL x s k z).length from fun h0 a ha => ⟨trivial, fun e => by have := (HKV.out.k.own.lt _ e).1; have := KIn.low HCK.out.2.1 h0 a ha; omega, fun e => by have := (HKV.out.v.own.lt _ e).1; have := KIn.low HCK.out.2.1 h0 a ha; omega⟩)
                  have HKP := Lib.hid (show (∀ j, j < n → (KP.getD j []).length = dN x) ∧ (∀ j, j < n → (VP.getD j []).length = dN x) from ⟨fun j hj => by rw [(HKPA.out j hj).1]; exact (ent_lens (HGA.out j hj) HLT.out).1, fun j hj => by rw [(HKPA.out j hj).2]; exact (ent_lens (HGA.out j hj) HLT.out).2⟩)
                  have HLO := Lib.hid (fun W QA qc (hQ : KIn .i64 W QA (tim x s 3 k (normK x s 2 k z))) (hqc : d ≤ qc) (KA : Option Addr) (kc : Nat) (KB : Nat → Option Addr) (KC : Nat → Nat) (hK : LOn (fun _ => True) W KA KB KC (KP ++ [keyL x s k z])) (VA : Option Addr) (vc : Nat) (VB : Nat → Option Addr) (VC : Nat → Nat) (hV : LOn (fun _ => True) W VA VB VC (VP ++ [valL x s k z])) => show Calls Tryz.prog 38 #[.agg #[.int .i64 x.v, .int .i64 x.d, .int .i64 x.h, .int .i64 x.b, .int .i64 x.n, .int .i64 x.c, .string s], .slice QA d qc, .slice KA (n + 1) kc, .slice VA (n + 1) vc] W (fun e w' => ∃ A c, e = .returned (.slice A d c) ∧ KIn .i64 w' A (seenL x s k KP VP z) ∧ Below W.heap.size W w') from by
                    have h1 := ref17_look W x s HK.out QA qc _ (HQL.out.trans HDE.out.symm) hQ (by rw [HDE.out]; exact hqc) KA kc KB KC _ hK VA vc VB VC _ hV (n + 1) (by rw [List.length_append, HLK.out.1]; rfl) (by rw [List.length_append, HLK.out.2]; rfl) (by omega) (by have := HN.out; omega) (lens_more HLK.out.1 HKP.out.1 (HKYL.out.trans HDE.out.symm)) (lens_more HLK.out.2 HKP.out.2 (HVYL.out.trans HDE.out.symm))
                    rw [← HSN.out] at h1
                    unfold RowSays at h1
                    rwa [HLEN.out, HDE.out] at h1)
                  go_cut [22] (fun v wx => ∃ SA sc, v = .slice SA d sc ∧ KIn .i64 wx SA (seenL x s k KP VP z) ∧ Below w11.heap.size w11 wx)
                  case first =>
                    go_region_held3 (fun W : World => ((W.cell? ⟨w.heap.size, 0, none⟩ = some (.int .i64 x.v) ∧ W.cell? ⟨w.heap.size, 1, none⟩ = some (.int .i64 x.d) ∧ W.cell? ⟨w.heap.size, 2, none⟩ = some (.int .i64 x.h) ∧ W.cell? ⟨w.heap.size, 3, none⟩ = some (.int .i64 x.b) ∧ W.cell? ⟨w.heap.size, 4, none⟩ = some (.int .i64 x.n) ∧ W.cell? ⟨w.heap.size, 5, none⟩ = some (.int .i64 x.c) ∧ W.cell? ⟨w.heap.size, 6, none⟩ = some (.string s)) ∧ (W.cell? ⟨w6.heap.size, 0, none⟩ = some (.slice (some ⟨g, 0, none⟩) (k + 1) cap) ∧ W.cell? ⟨w6.heap.size, 1, none⟩ = some (.slice (some ⟨g2, 0, none⟩) (k + 1) cap2)) ∧ W.cell? ⟨g, k, none⟩ = some (.slice TA d tc) ∧ W.cell? ⟨g2, k, none⟩ = some (.slice TB d td))) (first | exact k0 | assumption | exact HSS.out _ (HBX.out) | exact HSS.out _ (HBW.out) | exact HSS.out _ (HBW.out.alloc HBW.out.size _) | exact HSS.out _ ((HBW.out.alloc HBW.out.size _).alloc (by have := HBW.out.size; simp <;> omega) _) | exact HSS.out _ (HBU.out) | exact HSS.out _ (HBU.out.alloc HBU.out.size _) | exact HSS.out _ ((HBU.out.alloc HBU.out.size _).alloc (by have := HBU.out.size; simp <;> omega) _) | exact HSS.out _ (HBT.out) | exact HSS.out _ (HBT.out.alloc HBT.out.size _) | exact HSS.out _ ((HBT.out.alloc HBT.out.size _).alloc (by have := HBT.out.size; simp <;> omega) _) | exact HSS.out _ (HBD.out) | exact HSS.out _ (below_drew (HB.out.alloc HB.out.size _)) | exact HSS.out _ (below_drew ((HB.out.alloc HB.out.size _).alloc (by have := HB.out.size; simp <;> omega) _))) (first
                      | (go_at_call 37; go_must ((with_reducible refine (HTQ.out _ (by first | exact HBD.out | exact below_drew (HB.out.alloc HB.out.size _) | exact below_drew ((HB.out.alloc HB.out.size _).alloc (by have := HB.out.size; simp <;> omega) _))).mono ?_); rintro e wt ⟨QA, qc3, rfl, hqa, hqc, hqn, bt⟩; have HQA := Lib.hid hqa; have HQC := Lib.hid hqc; have HQN := Lib.hid (show ∀ a, QA = some a → w12.heap.size ≤ a.block from fun a ha => Nat.le_trans (Below.size (B := w12.heap.size) (w := w12) (by first | exact HB0.out | exact below_drew (HB00.out.alloc HB00.out.size _) | exact below_drew ((HB00.out.alloc HB00.out.size _).alloc (by have := HB00.out.size; simp <;> omega) _))) (hqn a ha)); have HPT := Lib.hid bt; have HBS := Lib.hid (show Below w12.heap.size w12 wt from (by first | exact HB0.out.trans (bt.mono HB0.out.size) | exact (below_drew (HB00.out.alloc HB00.out.size _)).trans (bt.mono (below_drew (HB00.out.alloc HB00.out.size _)).size) | exact (below_drew ((HB00.out.alloc HB00.out.size _).alloc (by have := HB00.out.size; simp <;> omega) _)).trans (bt.mono (below_drew ((HB00.out.alloc HB00.out.size _).alloc (by have := HB00.out.size; simp <;> omega) _)).size))); have HBT := Lib.hid (show Below w11.heap.size w11 wt from HB.out.trans (HBS.out.mono HB.out.size)); clear hqa hqc hqn bt))
                      | (refine step_append_lies _ (by rfl) (.tmp 161) (.tmp 167) 27 (by rfl) w11.heap.size 45 j0 _ 1 24 Tryz.underlying27 HJ.out HY0.out HY1.out HY2.out rfl Nat.one_pos (.slice A1 n c1) n _ (by rfl) (HWK.out _ (by first | exact HBS.out | exact HBS.out.alloc HBS.out.size _ | exact (HBS.out.alloc HBS.out.size _).alloc (by have := HBS.out.size; simp <;> omega) _)) ⟨_, 0, none⟩ 1 1 [.slice TA d tc] (by rfl) rfl (by first | exact news_of (al1 _ _) | exact news_of (al2 _ _ _) | exact news_of (al3 _ _ _) | exact news_of (Rf.stays (al1d _ _) HPT.out) | exact news_of (al4 (Rf.stays (al1d _ _) HPT.out)) | exact news_of (Rf.stays (al2d _ _ _) HPT.out) | exact news_of (Rf.stays (al3d _ _ _) HPT.out)) (one_new _ rfl) Nat.one_pos HMN.out.1 HMN.out.2 (show Below w11.heap.size w11 _ from (by first | exact HBT.out | exact HBT.out.alloc HBT.out.size _ | exact (HBT.out.alloc HBT.out.size _).alloc (by have := HBT.out.size; simp <;> omega) _)).size _ rfl ?_; intro g5 cap5 wa hown hgrow hat hlt; have HMA := Lib.hid (show Mk w11.heap.size (fun _ => True) wa (.slice (some ⟨g5, 0, none⟩) (n + 1) cap5) (.slice A2 n c2) (updF B1 n TA) (updF C1 n tc) B2 C2 (KP ++ [keyL x s k z]) VP from Mk.addK0 (HKV.out.step (by first | exact HBS.out | exact HBS.out.alloc HBS.out.size _ | exact (HBS.out.alloc HBS.out.size _).alloc (by have := HBS.out.size; simp <;> omega) _)) HLK.out.1 (HCK.out.2.1.below (by first | exact HBT.out | exact HBT.out.alloc HBT.out.size _ | exact (HBT.out.alloc HBT.out.size _).alloc (by have := HBT.out.size; simp <;> omega) _) (Nat.le_refl _)) HFA.out (by rw [HKYL.out]; exact HCK.out.2.2) (by rw [HKYL.out]; exact hown) hgrow hat); have HQB := Lib.hid (show KIn .i64 wa QA (tim x s 3 k (normK x s 2 k z)) from row_grown0 (v := .slice A1 n c1) (HQA.out.below (B := wt.heap.size) (by first | exact Below.refl _ _ | exact (Below.refl _ _).alloc (Nat.le_refl _) _ | exact ((Below.refl _ _).alloc (Nat.le_refl _) _).alloc (by simp) _) (Nat.le_refl _)) (fun _ a ha e => by have := (HKV.out.k.own.lt _ e).2; have := HQN.out a ha; omega) hgrow); have HBU := Lib.hid (show Below w11.heap.size w11 wa from Below.grown (by first | exact HBT.out | exact HBT.out.alloc HBT.out.size _ | exact (HBT.out.alloc HBT.out.size _).alloc (by have := HBT.out.size; simp <;> omega) _) hgrow (show Below w11.heap.size w11 _ from (by first | exact HBT.out | exact HBT.out.alloc HBT.out.size _ | exact (HBT.out.alloc HBT.out.size _).alloc (by have := HBT.out.size; simp <;> omega) _)).size (fun i hi => (HKV.out.k.own.lt i hi).1)); have HGW := Lib.hid (grown_stays (N := w12.heap.size) hgrow (fun i hi => (HKV.out.k.own.lt i hi).2)); have HRA := Lib.hid (Below.refl wa.heap.size wa); have HOWB := Lib.hid (fun W (hW : Below wa.heap.size wa W) => show W.ownsRow w11.heap.size 45 1 (.slice A2 n c2) n (lC B2 C2 VP) from by have := (HMA.out.step hW).v.own; rwa [HLK.out.2] at this); clear hown hgrow hat hlt)
                      | (refine step_append_lies _ (by rfl) (.tmp 169) (.tmp 175) 27 (by rfl) w11.heap.size 45 j0 _ 1 24 Tryz.underlying27 HJ.out HY0.out HY1.out HY2.out rfl Nat.one_pos (.slice A2 n c2) n _ (by rfl) (HOWB.out _ (by first | exact HRA.out | exact HRA.out.alloc HRA.out.size _ | exact (HRA.out.alloc HRA.out.size _).alloc (by have := HRA.out.size; simp <;> omega) _)) ⟨_, 0, none⟩ 1 1 [.slice TB d td] (by rfl) rfl (by first | exact news_of (al1 _ _) | exact news_of (HGW.out _ _ (by have := HBS.out.size; first | omega | (simp; omega) | simp) (al1 _ _)) | exact news_of (HGW.out _ _ (by have := HBS.out.size; first | omega | (simp; omega) | simp) (al2 _ _ _)) | exact news_of (HGW.out _ _ (by have := HBS.out.size; first | omega | (simp; omega) | simp) (al3 _ _ _)) | exact news_of (HGW.out _ _ (by have := HBS.out.size; first | omega | (simp; omega) | simp) (Rf.stays (al1d _ _) HPT.out)) | exact news_of (HGW.out _ _ (by have := HBS.out.size; first | omega | (simp; omega) | simp) (al4 (Rf.stays (al1d _ _) HPT.out))) | exact news_of (HGW.out _ _ (by have := HBS.out.size; first | omega | (simp; omega) | simp) (Rf.stays (al2d _ _ _) HPT.out)) | exact news_of (HGW.out _ _ (by have := HBS.out.size; first | omega | (simp; omega) | simp) (Rf.stays (al3d _ _ _) HPT.out))) (one_new _ rfl) Nat.one_pos HMN.out.1 HMN.out.2 (show Below w11.heap.size w11 _ from (by first | exact HBU.out | exact HBU.out.alloc HBU.out.size _ | exact (HBU.out.alloc HBU.out.size _).alloc (by have := HBU.out.size; simp <;> omega) _)).size _ rfl ?_; intro g6 cap6 wb hown hgrow hat hlt; have HMB := Lib.hid (show Mk w11.heap.size (fun _ => True) wb (.slice (some ⟨g5, 0, none⟩) (n + 1) cap5) (.slice (some ⟨g6, 0, none⟩) (n + 1) cap6) (updF B1 n TA) (updF C1 n tc) (updF B2 n TB) (updF C2 n td) (KP ++ [keyL x s k z]) (VP ++ [valL x s k z]) from Mk.addV0 (HMA.out.step (by first | exact HRA.out | exact HRA.out.alloc HRA.out.size _ | exact (HRA.out.alloc HRA.out.size _).alloc (by have := HRA.out.size; simp <;> omega) _)) HLK.out.2 (HCV.out.2.1.below (by first | exact HBU.out | exact HBU.out.alloc HBU.out.size _ | exact (HBU.out.alloc HBU.out.size _).alloc (by have := HBU.out.size; simp <;> omega) _) (Nat.le_refl _)) (fun h0 a ha => ⟨trivial, fun e => by have := (HMA.out.k.own.lt _ e).1; have := KIn.low HCV.out.2.1 h0 a ha; omega, fun e => by have := (HMA.out.v.own.lt _ e).1; have := KIn.low HCV.out.2.1 h0 a ha; omega⟩) (by rw [HVYL.out]; exact HCV.out.2.2) (by rw [HVYL.out]; exact hown) hgrow hat); have HQE := Lib.hid (show KIn .i64 wb QA (tim x s 3 k (normK x s 2 k z)) from row_grown0 (v := .slice A2 n c2) (HQB.out.below (B := wa.heap.size) (by first | exact HRA.out | exact HRA.out.alloc HRA.out.size _ | exact (HRA.out.alloc HRA.out.size _).alloc (by have := HRA.out.size; simp <;> omega) _) (Nat.le_refl _)) (fun _ a ha e => by have := (HKV.out.v.own.lt _ e).2; have := HQN.out a ha; omega) hgrow); have HBW := Lib.hid (show Below w11.heap.size w11 wb from Below.grown (by first | exact HBU.out | exact HBU.out.alloc HBU.out.size _ | exact (HBU.out.alloc HBU.out.size _).alloc (by have := HBU.out.size; simp <;> omega) _) hgrow (show Below w11.heap.size w11 _ from (by first | exact HBU.out | exact HBU.out.alloc HBU.out.size _ | exact (HBU.out.alloc HBU.out.size _).alloc (by have := HBU.out.size; simp <;> omega) _)).size (fun i hi => (HKV.out.v.own.lt i hi).1)); clear hown hgrow hat hlt)
                      | (go_at_call 38; (with_reducible refine (HLO.out _ _ _ HQE.out HQC.out _ _ _ _ HMB.out.k.lon _ _ _ _ HMB.out.v.lon).mono ?_); rintro e wx ⟨SA, sc, rfl, hs, bx⟩; have HSE := Lib.hid hs; have HBX := Lib.hid (show Below w11.heap.size w11 wx from HBW.out.trans (bx.mono HBW.out.size)); clear hs bx))
                    all_goals (go_wp2_with (fail); go_meet; exact ⟨SA, sc, rfl, HSE.out, HBX.out⟩)
                  case rest =>
                    obtain ⟨SA, sc, rfl, hsa, hbc⟩ := hcut
                    have HBC := Lib.hid hbc
                    obtain ⟨e0, e1, e2, e3, e4, e5, e6⟩ := (HSS.out _ hbc).1
                    have h6l : (tim x s 6 k (seenL x s k KP VP z)).length = d := (rowB_iff.1 (tim_row (x := x) (s := s) (p := 6) (k := k) (v := seenL x s k KP VP z) (by omega))).1.trans HDE.out
                    have H6L := Lib.hid h6l
                    have HT6 := Lib.hid (show Calls Tryz.prog 37 #[.agg #[.int .i64 x.v, .int .i64 x.d, .int .i64 x.h, .int .i64 x.b, .int .i64 x.n, .int .i64 x.c, .string s], .int .i64 6, .int .i64 (k : Int), .slice SA d sc, .int .i64 6] wc (fun e w' => ∃ A c, e = .returned (.slice A d c) ∧ KIn .i64 w' A (tim x s 6 k (seenL x s k KP VP z)) ∧ d ≤ c ∧ (∀ a, A = some a → wc.heap.size ≤ a.block) ∧ Below wc.heap.size wc w') from by
                      have h1 := ref17_times wc x s HK.out 6 k (by omega) HXB.out SA d sc (seenL x s k KP VP z) HLEN.out (by have := HD.out; omega) hsa
                      unfold RowSaysN at h1
                      rwa [h6l] at h1)
                    clear hsa hbc h6l k0 HKV HB HB0 HB00 HBD HMN HFA HLO HTQ HWK HCK HCV HKP
                    go_wp2_with (fail)
                    refine HT6.out.mono ?_
                    rintro e w13 ⟨SB, sd, rfl, h6, h6c, _, b13⟩
                    have HP13 := Lib.hid (show Calls Tryz.prog 39 #[.slice XA d xc, .slice SB d sd] w13 (fun e w' => ∃ A c, e = .returned (.slice A d c) ∧ KIn .i64 w' A (midL x s k KP VP z) ∧ d ≤ c ∧ (∀ a, A = some a → w13.heap.size ≤ a.block) ∧ Below w13.heap.size w13 w') from by
                      have h1 := ref17_plus w13 XA SB d xc sd z (tim x s 6 k (seenL x s k KP VP z)) HZL.out H6L.out (by have := HD.out; omega) ((HXK.out.below HBC.out (Nat.le_refl _)).below b13 (Nat.le_trans (Nat.le_refl _) (Nat.le_refl _))) h6
                      unfold RowSaysN at h1
                      rw [plusL_length] at h1
                      unfold midL
                      rwa [HDE.out])
                    have HB13 := Lib.hid (HBC.out.trans (b13.mono HBC.out.size))
                    clear h6 h6c b13 HT6 e0 e1 e2 e3 e4 e5 e6
                    go_wp2_with (fail)
                    refine HP13.out.mono ?_
                    rintro e w14 ⟨MA1, mc, rfl, hm1, hmc, _, b14⟩
                    have HB14 := Lib.hid (HB13.out.trans (b14.mono HB13.out.size))
                    have HMI := Lib.hid hm1
                    have HML := Lib.hid (show (midL x s k KP VP z).length = d from (plusL_length _ _).trans HDE.out)
                    clear hm1 hmc b14 HP13
                    obtain ⟨e0, e1, e2, e3, e4, e5, e6⟩ := (HSS.out _ HB14.out).1
                    generalize hmi : midL x s k KP VP z = mi at HMI HML
                    have HMID := Lib.hid hmi
                    clear hmi
                    have HG7 := Lib.hid (show Calls Tryz.prog 36 #[.agg #[.int .i64 x.v, .int .i64 x.d, .int .i64 x.h, .int .i64 x.b, .int .i64 x.n, .int .i64 x.c, .string s], .int .i64 7, .int .i64 (k : Int)] w14 (fun e w' => ∃ A c, e = .returned (.slice A d c) ∧ KIn .i64 w' A (gains x s 7 k) ∧ Below w14.heap.size w14 w') from by
                      have h1 := ref17_gains w14 x s HK.out 7 k (by omega) HXB.out
                      unfold RowSays at h1
                      rwa [(gains_length HK.out.good (.inr (.inl rfl)) HXB.out).trans HDE.out] at h1)
                    go_wp2_with (fail)
                    refine HG7.out.mono ?_
                    rintro e w15 ⟨GB, gd, rfl, hgb, b15⟩
                    have HO7 := Lib.hid (show Calls Tryz.prog 35 #[.slice GB d gd, .slice MA1 d mc] w15 (fun e w' => ∃ A c, e = .returned (.slice A d c) ∧ KIn .i64 w' A (normK x s 7 k mi) ∧ d ≤ c ∧ (∀ a, A = some a → w15.heap.size ≤ a.block) ∧ Below w15.heap.size w15 w') from by
                      have h1 := ref13_of_same w15 GB gd (gains x s 7 k) MA1 d mc mi ((gains_length HK.out.good (.inr (.inl rfl)) HXB.out).trans HDE.out) HML.out (by have := HD.out; omega) hgb (HMI.out.below b15 (Nat.le_refl _))
                      unfold RowSaysN at h1
                      have h2 : (ofL (gains x s 7 k) mi).length = d := (normK_length HK.out.good (.inr (.inl rfl)) HXB.out (HML.out.trans HDE.out.symm)).trans HDE.out
                      rwa [h2] at h1)
                    have HB15 := Lib.hid (HB14.out.trans (b15.mono HB14.out.size))
                    have HMI15 := Lib.hid (HMI.out.below b15 (Nat.le_refl _))
                    clear hgb b15 HG7 e0 e1 e2 e3 e4 e5 e6
                    go_wp2_with (fail)
                    refine HO7.out.mono ?_
                    rintro e w16 ⟨NA, nc, rfl, hna, hnc, _, b16⟩
                    have HB16 := Lib.hid (HB15.out.trans (b16.mono HB15.out.size))
                    have HMI16 := Lib.hid (HMI15.out.below b16 (Nat.le_refl _))
                    have HNA := Lib.hid hna
                    have HNL := Lib.hid (show (normK x s 7 k mi).length = d from (normK_length HK.out.good (.inr (.inl rfl)) HXB.out (HML.out.trans HDE.out.symm)).trans HDE.out)
                    clear hna hnc b16 HO7 HMI HMI15
                    go_upto_region 34 with (fail)
                    have HBE := Lib.hid (show Below w11.heap.size w11 w16.drew from below_drew HB16.out)
                    have HBF := Lib.hid (show Below w16.heap.size w16 w16.drew from below_drew (Below.refl _ _))
                    obtain ⟨P8, hP8⟩ : ∃ l, tim x s 8 k (normK x s 7 k mi) = l := ⟨_, rfl⟩
                    obtain ⟨P9, hP9⟩ : ∃ l, tim x s 9 k (normK x s 7 k mi) = l := ⟨_, rfl⟩
                    have HP8 := Lib.hid hP8
                    have HP9 := Lib.hid hP9
                    have HR9 := Lib.hid (show P9.length ≤ 32 from by
                      have := rows_in HK.out.good.is (p := ((9 : Nat) : Int)) (by omega) (by omega)
                      rw [← hP9, tim_length]
                      omega)
                    have HT8 := Lib.hid (fun W (hW : Below w16.heap.size w16 W) => show Calls Tryz.prog 37 #[.agg #[.int .i64 x.v, .int .i64 x.d, .int .i64 x.h, .int .i64 x.b, .int .i64 x.n, .int .i64 x.c, .string s], .int .i64 8, .int .i64 (k : Int), .slice NA d nc, .int .i64 6] W (fun e w' => ∃ A c, e = .returned (.slice A P8.length c) ∧ KIn .i64 w' A P8 ∧ P8.length ≤ c ∧ (∀ a, A = some a → W.heap.size ≤ a.block) ∧ Below W.heap.size W w') from by
                      have h1 := ref17_times W x s HK.out 8 k (by omega) HXB.out NA d nc (normK x s 7 k mi) HNL.out (by have := HD.out; omega) (HNA.out.below hW (Nat.le_refl _))
                      unfold RowSaysN at h1
                      rwa [HP8.out] at h1)
                    have HT9 := Lib.hid (fun W (hW : Below w16.heap.size w16 W) => show Calls Tryz.prog 37 #[.agg #[.int .i64 x.v, .int .i64 x.d, .int .i64 x.h, .int .i64 x.b, .int .i64 x.n, .int .i64 x.c, .string s], .int .i64 9, .int .i64 (k : Int), .slice NA d nc, .int .i64 6] W (fun e w' => ∃ A c, e = .returned (.slice A P9.length c) ∧ KIn .i64 w' A P9 ∧ P9.length ≤ c ∧ (∀ a, A = some a → W.heap.size ≤ a.block) ∧ Below W.heap.size W w') from by
                      have h1 := ref17_times W x s HK.out 9 k (by omega) HXB.out NA d nc (normK x s 7 k mi) HNL.out (by have := HD.out; omega) (HNA.out.below hW (Nat.le_refl _))
                      unfold RowSaysN at h1
                      rwa [HP9.out] at h1)
                    have HPR := Lib.hid (fun W (G : Option Addr) (gc1 : Nat) (A : Option Addr) (ac : Nat) (hG : KIn .i64 W G P8) (hA : KIn .i64 W A P9) => show Calls Tryz.prog 40 #[.slice G P8.length gc1, .slice A P9.length ac] W (fun e w' => ∃ A c, e = .returned (.slice A (pairsL P8 P9).length c) ∧ KIn .i64 w' A (pairsL P8 P9) ∧ Below W.heap.size W w') from by
                      have h1 := ref14_pairs W G P8.length gc1 P8 A P9.length ac P9 rfl rfl (by have := HR9.out; omega) hG hA
                      unfold RowSays at h1
                      exact h1)
                    have HS7 := Lib.hid (fun W (hW : Below w16.heap.size w16 W) => show (W.cell? ⟨w.heap.size, 0, none⟩ = some (.int .i64 x.v) ∧ W.cell? ⟨w.heap.size, 1, none⟩ = some (.int .i64 x.d) ∧ W.cell? ⟨w.heap.size, 2, none⟩ = some (.int .i64 x.h) ∧ W.cell? ⟨w.heap.size, 3, none⟩ = some (.int .i64 x.b) ∧ W.cell? ⟨w.heap.size, 4, none⟩ = some (.int .i64 x.n) ∧ W.cell? ⟨w.heap.size, 5, none⟩ = some (.int .i64 x.c) ∧ W.cell? ⟨w.heap.size, 6, none⟩ = some (.string s)) from (HSS.out W (HB16.out.trans (hW.mono HB16.out.size))).1)
                    clear hP8 hP9
                    have k0 := HS7.out _ HBF.out
                    go_cut [23] (fun v wx => ∃ UA uc, v = .slice UA (pairsL P8 P9).length uc ∧ KIn .i64 wx UA (pairsL P8 P9) ∧ Below w16.heap.size w16 wx)
                    case first =>
                      go_region_held3 (fun W : World => (W.cell? ⟨w.heap.size, 0, none⟩ = some (.int .i64 x.v) ∧ W.cell? ⟨w.heap.size, 1, none⟩ = some (.int .i64 x.d) ∧ W.cell? ⟨w.heap.size, 2, none⟩ = some (.int .i64 x.h) ∧ W.cell? ⟨w.heap.size, 3, none⟩ = some (.int .i64 x.b) ∧ W.cell? ⟨w.heap.size, 4, none⟩ = some (.int .i64 x.n) ∧ W.cell? ⟨w.heap.size, 5, none⟩ = some (.int .i64 x.c) ∧ W.cell? ⟨w.heap.size, 6, none⟩ = some (.string s))) (first | exact k0 | assumption | exact HS7.out _ HBX.out | exact HS7.out _ HBH.out | exact HS7.out _ HBG.out) (first
                        | (go_at_call 37; (with_reducible refine (HT8.out _ HBF.out).mono ?_); rintro e w17 ⟨GA8, gc8, rfl, h8, _, _, b8⟩; have H8 := Lib.hid h8; have HBG := Lib.hid (HBF.out.trans (b8.mono HBF.out.size)); clear h8 b8)
                        | (go_at_call 37; (with_reducible refine (HT9.out _ HBG.out).mono ?_); rintro e w18 ⟨GA9, gc9, rfl, h9, _, _, b9⟩; have H9 := Lib.hid h9; have H8' := Lib.hid (H8.out.below b9 (Nat.le_refl _)); have HBH := Lib.hid (HBG.out.trans (b9.mono HBG.out.size)); clear h9 b9)
                        | (go_at_call 40; (with_reducible refine (HPR.out _ _ _ _ _ H8'.out H9.out).mono ?_); rintro e w19 ⟨UA, uc, rfl, hu, bu⟩; have HU := Lib.hid hu; have HBX := Lib.hid (HBH.out.trans (bu.mono HBH.out.size)); clear hu bu))
                      all_goals (go_wp2_with (fail); go_meet; exact ⟨UA, uc, rfl, HU.out, HBX.out⟩)
                    case rest =>
                      obtain ⟨UA, uc, rfl, hu, hbu⟩ := hcut
                      have HBU := Lib.hid (HB16.out.trans (hbu.mono HB16.out.size))
                      have HMIU := Lib.hid (HMI16.out.below hbu (Nat.le_refl _))
                      have hpu : (pairsL P8 P9).length ≤ 32 := by
                        have := HR9.out
                        by_cases h : P8.length = P9.length
                        · rw [pairsL_length h]; exact this
                        · rw [pairsL_not h]; exact Nat.zero_le _
                      obtain ⟨e0, e1, e2, e3, e4, e5, e6⟩ := HS7.out _ hbu
                      have h0l : (tim x s 10 k (pairsL P8 P9)).length = d := (rowB_iff.1 (tim_row (x := x) (s := s) (p := 10) (k := k) (v := pairsL P8 P9) (by omega))).1.trans HDE.out
                      have H0L := Lib.hid h0l
                      have HDN := Lib.hid (show blockL x s k KP VP z = plusL [mi, tim x s 10 k (pairsL P8 P9)] d from by
                        unfold blockL downL
                        rw [HMID.out, HP8.out, HP9.out, HDE.out])
                      have HT0 := Lib.hid (show Calls Tryz.prog 37 #[.agg #[.int .i64 x.v, .int .i64 x.d, .int .i64 x.h, .int .i64 x.b, .int .i64 x.n, .int .i64 x.c, .string s], .int .i64 10, .int .i64 (k : Int), .slice UA (pairsL P8 P9).length uc, .int .i64 6] wc (fun e w' => ∃ A c, e = .returned (.slice A d c) ∧ KIn .i64 w' A (tim x s 10 k (pairsL P8 P9)) ∧ d ≤ c ∧ (∀ a, A = some a → wc.heap.size ≤ a.block) ∧ Below wc.heap.size wc w') from by
                        have h1 := ref17_times wc x s HK.out 10 k (by omega) HXB.out UA _ uc (pairsL P8 P9) rfl (by omega) hu
                        unfold RowSaysN at h1
                        rwa [h0l] at h1)
                      clear hu hbu hpu h0l HS7 HPR HT8 HT9 HR9 HBE HBF k0
                      go_wp2_with (fail)
                      refine HT0.out.mono ?_
                      rintro e w20 ⟨VA1, vd, rfl, hv0, _, _, b20⟩
                      have HP20 := Lib.hid (show Calls Tryz.prog 39 #[.slice MA1 d mc, .slice VA1 d vd] w20 (fun e w' => ∃ A c, e = .returned (.slice A d c) ∧ KIn .i64 w' A (blockL x s k KP VP z) ∧ d ≤ c ∧ (∀ a, A = some a → w20.heap.size ≤ a.block) ∧ Below w20.heap.size w20 w') from by
                        have h1 := ref17_plus w20 MA1 VA1 d mc vd mi (tim x s 10 k (pairsL P8 P9)) HML.out H0L.out (by have := HD.out; omega) (HMIU.out.below b20 (Nat.le_refl _)) hv0
                        unfold RowSaysN at h1
                        rw [plusL_length, ← HDN.out] at h1
                        exact h1)
                      have HB20 := Lib.hid (HBU.out.trans (b20.mono HBU.out.size))
                      clear hv0 b20 HT0 e0 e1 e2 e3 e4 e5 e6
                      have HX3 := Lib.hid (IntWalk.wrap64_in ((k : Int) + 1) (by have := HLT.out; have := HBV.out; omega))
                      go_wp2_with (refine HP20.out.mono ?_; rintro e w21 ⟨ZA, zc, rfl, hz1, _, hzn, b21⟩)
                      have HB21 := Lib.hid (HB20.out.trans (b21.mono HB20.out.size))
                      have HC21 := Lib.hid (HC.out.trans (HB21.out.mono HC.out.size))
                      rw [HX3.out]
                      refine ⟨⟨k + 1, _, cap, _, cap2, updF KB k TA, updF KC k tc, updF VB k TB, updF VC k td, ZA, zc, rfl, HLT.out, rfl, Rf.stays HEN.out HB21.out, ?_, ?_, ?_, HC21.out⟩, vc_less k (bN x) HLT.out⟩
                      · rw [HNXT.out]; exact HMK.out.step HB21.out
                      · rw [HNXT.out]; exact hz1
                      · exact fun _ a ha => ⟨fun e => by have := (HMK.out.k.own.lt _ e).2; have := hzn a ha; have := HB20.out.size; omega, fun e => by have := (HMK.out.v.own.lt _ e).2; have := hzn a ha; have := HB20.out.size; omega⟩
            · have hke : k = bN x := by omega
              have x0 : ¬ (k : Int) < x.b := by rw [HBV.out.1]; omega
              have x1 : decide ((k : Int) < x.b) = false := decide_eq_false x0
              obtain ⟨z, hz⟩ : ∃ z, (through x s (past Q) Z0 k).2.2 = z := ⟨_, rfl⟩
              have hrz := through_row x s (past Q) Z0 (by rw [← HZE.out]; exact startL_row x s _ n) k
              have hrs := through_rows x s (past Q) Z0 k
              have HET := Lib.hid (show entZ x s (past Q) (tn : Int) = ⟨(through x s (past Q) Z0 k).1, (through x s (past Q) Z0 k).2.1⟩ ∧ scoZ x s (past Q) (tn : Int) = scoresL x s z from by
                have h1 : endT x s (past Q) (tn : Int) = through x s (past Q) Z0 k := by
                  unfold endT
                  rw [past_length, HQ.out, HZE.out, hke]
                unfold entZ scoZ
                rw [h1]
                exact ⟨rfl, by rw [hz]⟩)
              rw [hz] at hrz
              have HXZ := Lib.hid (show KIn .i64 wr XA z from by have := HXK.out; rwa [hz] at this)
              have HZL := Lib.hid (show z.length = d from (rowB_iff.1 hrz).1.trans HDE.out)
              have HKL := Lib.hid (show (through x s (past Q) Z0 k).1.length = k from (rowsB_iff.1 hrs.1).1)
              have HVL := Lib.hid (show (through x s (past Q) Z0 k).2.1.length = k from (rowsB_iff.1 hrs.2).1)
              obtain ⟨Ks, hKs⟩ : ∃ Ks, (through x s (past Q) Z0 k).1 = Ks := ⟨_, rfl⟩
              obtain ⟨Vs, hVs⟩ : ∃ Vs, (through x s (past Q) Z0 k).2.1 = Vs := ⟨_, rfl⟩
              rw [hKs] at HMK HKL HET
              rw [hVs] at HMK HVL HET
              have h11 : ((0 : Nat) : Int) < timesZ x ((11 : Nat) : Int) := by
                show (0 : Int) < 1
                decide
              have hgl : (gains x s 11 0).length = d := (gains_length HK.out.good (.inr (.inr rfl)) h11).trans HDE.out
              have hnl : (normK x s 11 0 z).length = d := (normK_length HK.out.good (.inr (.inr rfl)) h11 (HZL.out.trans HDE.out.symm)).trans HDE.out
              have HGL := Lib.hid hgl
              have HNL := Lib.hid hnl
              have HG := Lib.hid (show Calls Tryz.prog 36 #[.agg #[.int .i64 x.v, .int .i64 x.d, .int .i64 x.h, .int .i64 x.b, .int .i64 x.n, .int .i64 x.c, .string s], .int .i64 11, .int .i64 0] wr (fun e w' => ∃ A c, e = .returned (.slice A d c) ∧ KIn .i64 w' A (gains x s 11 0) ∧ Below wr.heap.size wr w') from by
                have h1 := ref17_gains wr x s HK.out 11 0 (by omega) h11
                unfold RowSays at h1
                rwa [hgl] at h1)
              have HEO := Lib.hid (show EOn (w6.heap.size ≤ ·) wr ⟨KA, kc, KB, KC, VA, vc, VB, VC⟩ ⟨Ks, Vs⟩ from ⟨HMK.out.k.lonN (Nat.le_refl _) (fun _ hj => hj.1), HMK.out.v.lonN (Nat.le_refl _) (fun _ hj => hj.1)⟩)
              have HSN := Lib.hid (scoresL_length x s z)
              have HSA := Lib.hid (fun t (ht : t < vN x) => scoresL_at x s z t ht)
              generalize hS0 : scoresL x s z = S0 at HSN HSA HET
              have HRT := Lib.hid (fun W (t : Nat) (ht : t < vN x) => show Calls Tryz.prog 33 #[.agg #[.int .i64 x.v, .int .i64 x.d, .int .i64 x.h, .int .i64 x.b, .int .i64 x.n, .int .i64 x.c, .string s], .int .i64 0, .int .i64 0, .int .i64 (t : Int)] W (RowSays W (fun v => .tuple #[v, .bool true]) (rowZ x s 0 0 (t : Int))) from
                ref16_row W x s HK.out 0 0 t (by omega) (by rw [(rows_nums 0 (.inl rfl)).2]; decide) (by rw [(rows_nums 0 (.inl rfl)).1]; have := HBV.out; omega))
              have HRL := Lib.hid (fun (t : Nat) (ht : t < vN x) => show (rowZ x s 0 0 (t : Int)).length = d from by
                obtain ⟨F, C, R, _, hC, _, _, _, _, _, _, _, _, hl, _⟩ := Rf.row_at HK.out (p := 0) (k := 0) (a := t) (by omega) (by rw [(rows_nums 0 (.inl rfl)).2]; decide) (by rw [(rows_nums 0 (.inl rfl)).1]; have := HBV.out; omega)
                have h0 : colsZ x ((0 : Nat) : Int) = x.d := rfl
                have h1 : (rowZ x s 0 0 (t : Int)).length = C := hl
                have h2 := HD.out
                omega)
              obtain ⟨e0, e1, e2, e3, e4, e5, e6⟩ := Rf.seven HM.out
              clear hlt hkb hke h11 hrz hrs hz hKs hVs hgl hnl hS0 HXK HMK HXF
              go_wp2_with (fail)
              refine HG.out.mono ?_
              rintro e w8 ⟨GA, gc, rfl, hga, b8⟩
              have HOF := Lib.hid (show Calls Tryz.prog 35 #[.slice GA d gc, .slice XA d xc] w8 (fun e w' => ∃ A c, e = .returned (.slice A d c) ∧ KIn .i64 w' A (normK x s 11 0 z) ∧ d ≤ c ∧ (∀ a, A = some a → w8.heap.size ≤ a.block) ∧ Below w8.heap.size w8 w') from by
                have h1 := ref13_of_same w8 GA gc (gains x s 11 0) XA d xc z HGL.out HZL.out (by have := HD.out; omega) hga (HXZ.out.below b8 (Nat.le_refl _))
                unfold RowSaysN at h1
                have h2 : (ofL (gains x s 11 0) z).length = d := HNL.out
                rwa [h2] at h1)
              have HB8 := Lib.hid b8
              clear hga b8 HG e0 e1 e2 e3 e4 e5 e6
              go_wp2_with (fail)
              refine HOF.out.mono ?_
              rintro e w9 ⟨NA, nc, rfl, hna, _, _, b9⟩
              have HW9 := Lib.hid (HB8.out.trans (b9.mono HB8.out.size))
              have HC9 := Lib.hid (HB.out.trans (HW9.out.mono HB.out.size))
              have HNA := Lib.hid hna
              have HEO9 := Lib.hid (HEO.out.below HW9.out)
              have HEN9 := Lib.hid (Rf.stays HEN.out HW9.out)
              have HM9 := Lib.hid (Rf.stays HM.out HW9.out)
              clear hna b9 HOF HB8 HW9 HXZ HEO HEN HM
              go_wp2_with (refine wpList_buildNone rfl 45 3 rfl i0 Tryz.underlying45 HI.out ?_)
              have HO9 := Lib.hid (Own.new w9 w9.heap.size (Nat.le_refl _))
              have HCB := Lib.hid ((Below.refl w9.heap.size w9).alloc (Nat.le_refl _) (.cells #[] 3))
              go_loopw [25, 26] (fun sv tv wq => ∃ (j : Nat) (A1 : Option Addr) (c1 : Nat), tv = .int .i64 (j : Int) ∧ j ≤ vN x ∧ sv = .slice A1 j c1 ∧ Own wq w9.heap.size sv (S0.take j) ∧ Below w9.heap.size w9 wq) (fun _ tv _ => match tv with | .int _ k => vN x - k.toNat | _ => 0)
              case atStart => exact ⟨0, _, 0, rfl, Nat.zero_le _, rfl, HO9.out, HCB.out⟩
              case round =>
                clear HO9 HCB
                obtain ⟨j, A1, c1, rfl, hj, rfl, ho, hb⟩ := hrel
                have HO := Lib.hid ho
                have HBQ := Lib.hid hb
                have HMQ := Lib.hid (Rf.stays HM9.out hb)
                clear ho hb
                have x2 : 0 ≤ (j : Int) := by omega
                obtain ⟨e0, e1, e2, e3, e4, e5, e6⟩ := Rf.seven HMQ.out
                by_cases hlt : j < vN x
                · have x0 : (j : Int) < x.v := by have := HBV.out; omega
                  have x1 : decide ((j : Int) < x.v) = true := decide_eq_true x0
                  have HLT := Lib.hid hlt
                  have HMJ := Lib.hid (app_small (show j + 1 ≤ vN x from hlt) (by have := HBV.out; omega))
                  have HRN := Lib.hid (take_more S0 j (by rw [HSN.out]; exact hlt))
                  have HXJ := Lib.hid (HSA.out j hlt)
                  have HOL := Lib.hid (show (S0.take j).length = j by rw [List.length_take, HSN.out]; omega)
                  have HRJ := Lib.hid (HRT.out wr j hlt)
                  have HLJ := Lib.hid (HRL.out j hlt)
                  have HWB := Lib.hid (show -9223372036854775808 ≤ (j : Int) + 1 ∧ (j : Int) + 1 ≤ 9223372036854775807 by have := HBV.out; omega)
                  have HFT := Lib.hid (show Fits (dot (rowZ x s 0 0 (j : Int)) (normK x s 11 0 z)) from ⟨by have := dot_in (rowZ x s 0 0 (j : Int)) (normK x s 11 0 z); omega, by have := dot_in (rowZ x s 0 0 (j : Int)) (normK x s 11 0 z); omega⟩)
                  unfold RowSays at HRJ
                  generalize rowZ x s 0 0 (j : Int) = rw_ at HXJ HRJ HLJ HFT
                  rw [HLJ.out] at HRJ
                  clear hlt hj
                  go_wp2_with (fail)
                  refine HRJ.out.mono ?_
                  rintro e w11 ⟨RA, rc, rfl, hka, b11⟩
                  have HC11 := Lib.hid (HBQ.out.trans (b11.mono HBQ.out.size))
                  have HO11 := Lib.hid (HO.out.below b11 (Nat.le_refl _))
                  have HDD := Lib.hid (rdot_any w11 RA d rc NA d nc rw_ (normK x s 11 0 z) HLJ.out HNL.out (by have := HD.out; omega) (by have := HD.out; omega) hka (HNA.out.below HC11.out (Nat.le_refl _)))
                  clear b11 hka e0 e1 e2 e3 e4 e5 e6 HO HBQ HMQ HRJ
                  go_wp2_with (fail)
                  refine HDD.out.mono ?_
                  rintro e w12 ⟨rfl, b12⟩
                  have HB12 := Lib.hid (HC11.out.trans (b12.mono HC11.out.size))
                  have HO12 := Lib.hid (HO11.out.below b12 (Nat.le_refl _))
                  clear b12 HDD HO11 HC11
                  go_wp2_with (fail)
                  refine (rshift_any _ 5 _ HFT.out).mono ?_
                  rintro e w13 ⟨rfl, rfl⟩
                  rw [← HXJ.out]
                  have HW12 := Lib.hid (Own.at HO12.out HOL.out)
                  clear HXJ HFT
                  generalize S0.getD j 0 = y at HRN ⊢
                  go_wp2_with (at_builtin; refine wpList_append_lies _ rfl (.tmp 222) (.tmp 227) 45 rfl w9.heap.size 3 i0 _ 1 8 Tryz.underlying45 HI.out HZ0.out HZ1.out HZ2.out rfl Nat.one_pos (.slice A1 j c1) j _ rfl (HW12.out.alloc _) ⟨w12.heap.size, 0, none⟩ 1 1 [.int .i64 y] rfl rfl (one_src w12 y) (one_one y) Nat.one_pos HMJ.out.1 HMJ.out.2 (base_le HB12.out rfl _) _ rfl ?_; intro gg cap wz hownz hgrow hat hltz)
                  have HON := Lib.hid (Own.grew HOL.out hownz)
                  have HBN := Lib.hid (below_grew HB12.out rfl HO12.out _ hgrow)
                  rw [← HRN.out] at HON
                  clear hownz hgrow hat hltz
                  rw [IntWalk.wrap64_in ((j : Int) + 1) HWB.out]
                  exact ⟨⟨j + 1, _, cap, rfl, HLT.out, rfl, HON.out, HBN.out⟩, vc_less j (vN x) HLT.out⟩
                · have hje : j = vN x := by omega
                  have x0 : ¬ (j : Int) < x.v := by have := HBV.out; omega
                  have x1 : decide ((j : Int) < x.v) = false := decide_eq_false x0
                  have HST := Lib.hid (show S0.take j = S0 from List.take_of_length_le (by rw [HSN.out]; omega))
                  have HJE := Lib.hid hje
                  rw [HST.out] at HO
                  have HENQ := Lib.hid (Rf.stays HEN9.out HBQ.out)
                  have HRQ := Lib.hid (Rf.stays HR6.out (HC9.out.trans (HBQ.out.mono HC9.out.size)))
                  have f0 := rf0 HENQ.out
                  have f1 := rf1 HENQ.out
                  have g0 := rf0 HRQ.out
                  have g1 := rf1 HRQ.out
                  have g2 := rfFz HRQ.out
                  clear hlt hj hje
                  go_wp2_with (fail)
                  refine bodyPost_ret (results_cell_tmp2 rfl _ _ _ 42 _ _ _ rfl (rfSet2 HRQ.out _ _) Tryz.underlying42 rfl (enRI _ _)) rfl ?_
                  have HEQ := Lib.hid (HEO9.out.below HBQ.out)
                  have ho : ∀ b, w6.heap.size ≤ b → ((wr.setCell ⟨w.heap.size + 1, 0, none⟩ (.slice KA k kc)).setCell ⟨w.heap.size + 1, 1, none⟩ (.slice VA k vc)).heap[b]? = wr.heap[b]? := fun b hb => by
                    have h1 := (Array.getElem?_eq_some_iff.1 HR6.out).1
                    exact (heap_setCell_other _ ⟨w.heap.size + 1, 1, none⟩ b _ (by show b ≠ w.heap.size + 1; omega)).trans (heap_setCell_other _ ⟨w.heap.size + 1, 0, none⟩ b _ (by show b ≠ w.heap.size + 1; omega))
                  have hlen : (⟨Ks, Vs⟩ : Ent).ks.length = k ∧ (⟨Ks, Vs⟩ : Ent).vs.length = k := ⟨HKL.out, HVL.out⟩
                  have hsl : (scoZ x s (past Q) (tn : Int)).length = vN x := by rw [HET.out.2]; exact HSN.out
                  have hN6 : w.heap.size ≤ w6.heap.size := HB6.out.size
                  refine ⟨⟨KA, kc, KB, KC, VA, vc, VB, VC⟩, A1, c1, ?_, ?_, ?_, hsl, ?_, fun a ha => Nat.le_trans hN6 (Nat.le_trans HC9.out.size (own_newR HO.out a ha)), ?_⟩
                  · rw [HET.out.1, ← HJE.out]
                    unfold eV
                    rw [hlen.1, hlen.2]
                    rfl
                  · rw [HET.out.1]
                    exact (HEQ.out.moved ho).mono fun _ _ => trivial
                  · rw [HET.out.2]
                    exact KIn.moved HO.out.kin (show Ft (w6.heap.size ≤ ·) A1 S0.length from fun _ a ha => Nat.le_trans HC9.out.size (own_newR HO.out a ha)) ho
                  · rw [HET.out.1]
                    exact ⟨HEQ.out.k.here.mono fun _ hb => Nat.le_trans hN6 hb, HEQ.out.v.here.mono fun _ hb => Nat.le_trans hN6 hb, fun i hi => (HEQ.out.k.there i hi).mono fun _ hb => Nat.le_trans hN6 hb, fun i hi => (HEQ.out.v.there i hi).mono fun _ hb => Nat.le_trans hN6 hb⟩
                  · exact below_set2 (HB6.out.trans ((HC9.out.trans (HBQ.out.mono HC9.out.size)).mono HB6.out.size)) (Nat.le_succ _) _ _
end Go.Proofs.YtkdkeokldcehhaaGreatDoor
